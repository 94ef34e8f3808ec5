import Derived.Test.YtbbbgijlbcmpbaaHqiam
import Derived.Test.YtbbbgijlbcmpbaaHqiaa
import Derived.Test.YtbbbgijlbcmpbaaHqiaj
import Derived.Test.YtbbbgijlbcmpbaaHqiae
import Derived.Test.YtbbbgijlbcmpbaaHqiag
import Derived.Test.YtbbbgijlbcmpbaaHqiad
import Derived.Test.YtbbbgijlbcmpbaaHqiab
import Derived.Lib.Strings
import Derived.Test.YtbbbgijlbcmpbaaHqiac
import Derived.Deep.QuietTactic
import Derived.Test.YtbbbgijlbcmpbaaHqiak
import Derived.Test.YtbbbgijlbcmpbaaHqiaf
import Derived.Test.YtbbbgijlbcmpbaaHqial
set_option linter.unusedVariables false
set_option linter.unusedSimpArgs false
/- Stage 13's laws: binds, awake. -/
namespace Go.Proofs.Ytbbbgijlbcmpbaa
open Go.RowKit
set_option linter.unusedVariables false

/-- Binds of so many variables, seen from V. -/
def BindI (V w : World) (p : Value) (n : Nat) (wr : World) : Prop := ∃ F, IsB V F wr p n [] ∧ (∀ k ∈ F, w.heap.size ≤ k) ∧ Below w.heap.size w wr
set_option maxHeartbeats 8000000 in
theorem binds13_at {V w : World} (hs : Stays V w) (n : Nat) (hn : n ≤ 60000) : Calls Try.prog 65 #[.int .i64 n] w fun e w' => ∃ p, e = .returned p ∧ BindI V w p n w' := by
  have C := New_at (V := V) (w := w) hs
  clear hs
  go_enter Try.func65, Try.ntmps65
  (go_wp2_with fail; go_fit (C); rintro e w1 ⟨p, F, rfl, h1, b1, hf1⟩)
  have H1 := Lib.hid (show BindI V w p 0 w1 from ⟨F, h1, hf1, b1⟩)
  clear h1 b1 hf1
  go_wp2_with fail
  go_loopw [4] (fun z wr => ∃ j : Nat, j ≤ n ∧ z = .int .i64 j ∧ Hid (BindI V w p j wr)) (fun z _ => n - (intOf z).toNat)
  case atStart => exact ⟨0, Nat.zero_le _, rfl, H1⟩
  case round =>
    obtain ⟨j, hj, rfl, HP⟩ := hrel
    by_cases hjn : j < n
    · obtain ⟨F, h1, h3, h6⟩ := HP.out
      have hjn2 : (j : Int) < n := by omega
      have C1 := Fresh_at h1 (by omega)
      have HP2 := Lib.hid (And.intro h3 h6)
      clear h1 h3 h6 HP
      (go_wp2_with fail; go_fit (C1); rintro e w5 ⟨F', rfl, h1, t1, hin⟩)
      have HN := Lib.hid (show BindI V w p (j + 1) w5 from ⟨F', h1, fun k hk => (hin k hk).elim (HP2.out.1 k) (fun h => by have := HP2.out.2.size; omega), HP2.out.2.trans (t1.below HP2.out.2.size HP2.out.1)⟩)
      clear h1 t1 hin
      go_wp2
      go_roundw
      case rel => exact ⟨j + 1, by omega, by go_num, HN⟩
      case measure => simp [intOf]; omega
    · have hjn2 : j = n := by omega
      subst hjn2
      go_wp2
      go_ret
      exact ⟨p, rfl, HP.out⟩
theorem big_0 : (⟨#[]⟩ : ByteArray).size ≤ BIG := by unfold BIG; decide
theorem big_1 (c : UInt8) : (⟨#[c]⟩ : ByteArray).size ≤ BIG := by show 1 ≤ BIG; unfold BIG; omega
theorem var_rd (w : World) (n : Int) (h : I64 n) : TmV w (varV n) (.agg #[.int .i64 0, .int .i64 n, .string ⟨#[]⟩, .slice none 0 0]) := leaf_tm w i64_0 h big_0
theorem int_rd (w : World) (n : Int) (h : I64 n) : TmV w (intT n) (.agg #[.int .i64 1, .int .i64 n, .string ⟨#[]⟩, .slice none 0 0]) := leaf_tm w i64_1 h big_0
/-- Comp of three variables. -/
theorem comp_three {w : World} (t : ByteArray) (ht : t.size ≤ BIG) {n1 n2 n3 : Int} (h1 : I64 n1) (h2 : I64 n2) (h3 : I64 n3) :
    Calls Try.prog 20 #[.string t, .slice (some ⟨w.heap.size, 0, none⟩) 3 3] (w.alloc (.cells #[.int .i64 0, .int .i64 n1, .string ⟨#[]⟩, .slice none 0 0, .int .i64 0, .int .i64 n2, .string ⟨#[]⟩, .slice none 0 0, .int .i64 0, .int .i64 n3, .string ⟨#[]⟩, .slice none 0 0] 31))
      fun e w' => ∃ a c, e = .returned (.agg #[.int .i64 2, .int .i64 0, .string t, .slice a 3 c]) ∧ TmV w' (.mk 2 0 t [varV n1, varV n2, varV n3]) (.agg #[.int .i64 2, .int .i64 0, .string t, .slice a 3 c]) ∧ Below w.heap.size w w' := by
  obtain ⟨w1, e1, B1, z1, X1⟩ := box_new w #[.int .i64 0, .int .i64 n1, .string ⟨#[]⟩, .slice none 0 0, .int .i64 0, .int .i64 n2, .string ⟨#[]⟩, .slice none 0 0, .int .i64 0, .int .i64 n3, .string ⟨#[]⟩, .slice none 0 0] 31
  rw [e1]
  have hc : ∀ j u, [Value.int .i64 0, .int .i64 n1, .string ⟨#[]⟩, .slice none 0 0, .int .i64 0, .int .i64 n2, .string ⟨#[]⟩, .slice none 0 0, .int .i64 0, .int .i64 n3, .string ⟨#[]⟩, .slice none 0 0][j]? = some u → (hide (fun _ => false) w1).cell? ⟨w.heap.size, j, none⟩ = some u := fun j u hj => by
    rw [hide_none]
    exact X1.cells j u hj
  have hT : Tms (hide (fun _ => false) w1) (.slice (some ⟨w.heap.size, 0, none⟩) 3 3) [varV n1, varV n2, varV n3] := by
    refine ⟨some ⟨w.heap.size, 0, none⟩, 3, rfl, by simp, by unfold maxLen; omega, by unfold BIG; simp, Or.inr ⟨_, 0, rfl, by rw [hide_size]; exact X1.lt, ?_⟩⟩
    rw [TmRow, TmRow, TmRow, TmRow]
    exact ⟨⟨_, _, _, _, hc 0 _ rfl, hc 1 _ rfl, hc 2 _ rfl, hc 3 _ rfl, var_rd _ _ h1⟩, ⟨_, _, _, _, hc 4 _ rfl, hc 5 _ rfl, hc 6 _ rfl, hc 7 _ rfl, var_rd _ _ h2⟩, ⟨_, _, _, _, hc 8 _ rfl, hc 9 _ rfl, hc 10 _ rfl, hc 11 _ rfl, var_rd _ _ h3⟩, trivial⟩
  refine (comp_hide t ht (fun _ _ => rfl) hT).mono ?_
  rintro e w' ⟨a, c, rfl, h, b⟩
  exact ⟨a, c, rfl, h.bare, Ext.trans' B1 b⟩
def f737 : Tm := .mk 2 0 ⟨#[102]⟩ [varV 7, varV 3, varV 7]
def f010 : Tm := .mk 2 0 ⟨#[102]⟩ [varV 0, varV 1, varV 0]
theorem plain_737 : plainE f737 = (f010, 0) := by kernel_rfl
theorem good_010 : goodT f010 = true := by decide +kernel
theorem ground_1 : (goodT (intT 1) && decide (varsT (intT 1) [] = [])) = true := by kernel_rfl
set_option maxHeartbeats 8000000 in
set_option maxRecDepth 100000 in
theorem aawake_at (w : World) : Calls Try.prog 52 #[] w fun e w' => e = .returned (.bool true) ∧ Below w.heap.size w w' := by
  go_enter Try.func52, Try.ntmps52
  (go_wp2_with fail; go_fit (var_at _ 7); rintro e w1 ⟨rfl, b1⟩)
  (go_wp2_with fail; go_fit (var_at _ 3); rintro e w2 ⟨rfl, b2⟩)
  (go_wp2_with fail; go_fit (var_at _ 7); rintro e w3 ⟨rfl, b3⟩)
  have HB3 := Lib.hid (Ext.trans' b1 (Ext.trans' b2 b3))
  have C := comp_three (w := w3) ⟨#[102]⟩ (big_1 _) (n1 := 7) (n2 := 3) (n3 := 7) (by unfold I64; omega) (by unfold I64; omega) (by unfold I64; omega)
  clear b1 b2 b3
  (go_wp2_with fail; go_fit (C); rintro e w5 ⟨a5, c5, rfl, ht5, b5⟩)
  have HB5 := Lib.hid (Ext.trans' HB3.out b5)
  have C := Plain_at f737 w5 _ ht5
  rw [plain_737] at C
  unfold PlainP at C
  clear b5 ht5
  (go_wp2_with fail; go_fit (C); rintro e w6 ⟨r, rfl, ht6, b6⟩)
  obtain ⟨k6, n6, s6, a6, m6, c6, rfl, f1, f2, f3, f4⟩ := four_of ht6
  obtain ⟨w7, e7, b7, z7, x7⟩ := box_new w6 #[.int .i64 k6, .int .i64 n6, .string s6, .slice a6 m6 c6] 31
  have HB7 := Lib.hid (Ext.trans' HB5.out (Ext.trans' b6 b7))
  have HT7 := Lib.hid (TmV.ext b7 _ _ ht6.bare)
  have HX7 := Lib.hid x7
  have HE7 := Lib.hid e7
  clear f1 f2 f3 f4 ht6 b6 b7 z7 x7 e7 C
  go_upto_region 2 with fail
  (try rw [HE7.out])
  obtain ⟨x0, x1, x2, x3, _⟩ := HX7.out.four
  refine wp_region_held_drew (S := fun w' => (w'.cell? ⟨w6.heap.size, 0, none⟩ = some (.int .i64 k6) ∧ w'.cell? ⟨w6.heap.size, 1, none⟩ = some (.int .i64 n6) ∧ w'.cell? ⟨w6.heap.size, 2, none⟩ = some (.string s6) ∧ w'.cell? ⟨w6.heap.size, 3, none⟩ = some (.slice a6 m6 c6)) ∧ Below w7.heap.size w7 w') (by kernel_rfl) ⟨⟨x0, x1, x2, x3⟩, (Below.refl _ _).drew⟩ (fun hHeld => ?_)
  first | (refine held_t (i := 0) hHeld ?_; apply Exists.intro; refine ⟨fun wq hq => ?_, ?_⟩; (focus ((try dsimp only at hq); go_simp; (first | done | with_reducible rfl | fail)))) | refine held_s (i := 0) hHeld ?_ | fail
  first | (refine held_t (i := 1) hHeld ?_; apply Exists.intro; refine ⟨fun wq hq => ?_, ?_⟩; (focus ((try dsimp only at hq); go_simp; (first | done | with_reducible rfl | fail)))) | refine held_s (i := 1) hHeld ?_ | fail
  try simp only [Act.put, List.setIfInBounds_toArray, List.set_cons_zero, List.set_cons_succ]
  first | (refine held_t (i := 2) hHeld ?_; apply Exists.intro; refine ⟨fun wq hq => ?_, ?_⟩; (focus ((try dsimp only at hq); go_simp; (first | done | with_reducible rfl | fail)))) | refine held_s (i := 2) hHeld ?_ | fail
  first | (refine held_t (i := 3) hHeld ?_; apply Exists.intro; refine ⟨fun wq hq => ?_, ?_⟩; (focus ((try dsimp only at hq); go_simp; (first | done | with_reducible rfl | fail)))) | refine held_s (i := 3) hHeld ?_ | fail
  try simp only [Act.put, List.setIfInBounds_toArray, List.set_cons_zero, List.set_cons_succ]
  refine held_c 4 fun K hK => ?_
  go_simp
  (go_at_call 19; refine (var_at _ 0).mono ?_; rintro e u1 ⟨rfl, h6⟩)
  refine hK.out _ _ (⟨⟨cell_later h6 hHeld.1.1, cell_later h6 hHeld.1.2.1, cell_later h6 hHeld.1.2.2.1, cell_later h6 hHeld.1.2.2.2⟩, Ext.trans' hHeld.2 h6⟩) (fun hHeld => ?_)
  clear hK K
  try simp only [Act.put, List.setIfInBounds_toArray, List.set_cons_zero, List.set_cons_succ]
  refine held_c 5 fun K hK => ?_
  go_simp
  (go_at_call 19; refine (var_at _ 1).mono ?_; rintro e u2 ⟨rfl, h6⟩)
  refine hK.out _ _ (⟨⟨cell_later h6 hHeld.1.1, cell_later h6 hHeld.1.2.1, cell_later h6 hHeld.1.2.2.1, cell_later h6 hHeld.1.2.2.2⟩, Ext.trans' hHeld.2 h6⟩) (fun hHeld => ?_)
  clear hK K
  try simp only [Act.put, List.setIfInBounds_toArray, List.set_cons_zero, List.set_cons_succ]
  refine held_c 6 fun K hK => ?_
  go_simp
  (go_at_call 19; refine (var_at _ 0).mono ?_; rintro e u3 ⟨rfl, h6⟩)
  refine hK.out _ _ (⟨⟨cell_later h6 hHeld.1.1, cell_later h6 hHeld.1.2.1, cell_later h6 hHeld.1.2.2.1, cell_later h6 hHeld.1.2.2.2⟩, Ext.trans' hHeld.2 h6⟩) (fun hHeld => ?_)
  clear hK K
  try simp only [Act.put, List.setIfInBounds_toArray, List.set_cons_zero, List.set_cons_succ]
  have HU3 := Lib.hid (hHeld.2.trans (Below.refl _ _))
  have C := comp_three (w := u3) ⟨#[102]⟩ (big_1 _) (n1 := 0) (n2 := 1) (n3 := 0) i64_0 i64_1 i64_0
  refine held_c 7 fun K hK => ?_
  go_simp
  skip
  refine hK.out _ _ (⟨⟨cell_later (bel1' _ _) hHeld.1.1, cell_later (bel1' _ _) hHeld.1.2.1, cell_later (bel1' _ _) hHeld.1.2.2.1, cell_later (bel1' _ _) hHeld.1.2.2.2⟩, Ext.trans' hHeld.2 (bel1' _ _)⟩) (fun hHeld => ?_)
  clear hK K
  try simp only [Act.put, List.setIfInBounds_toArray, List.set_cons_zero, List.set_cons_succ]
  refine held_c 8 fun K hK => ?_
  go_simp
  (go_at_call 20; refine C.mono ?_; rintro e u4 ⟨a8, c8, rfl, ht8, h6'⟩; have HT8 := Lib.hid (show TmV u4 f010 _ from ht8); have h6 : Below w7.heap.size w7 u4 := Ext.trans' HU3.out h6'; clear ht8)
  refine hK.out _ _ (⟨⟨cell_later h6 HX7.out.four.1, cell_later h6 HX7.out.four.2.1, cell_later h6 HX7.out.four.2.2.1, cell_later h6 HX7.out.four.2.2.2.1⟩, h6⟩) (fun hHeld => ?_)
  clear hK K
  try simp only [Act.put, List.setIfInBounds_toArray, List.set_cons_zero, List.set_cons_succ]
  refine held_c 9 fun K hK => ?_
  go_simp
  (go_at_call 25; refine (Same_at (TmV.ext hHeld.2 _ _ HT7.out) HT8.out).mono ?_; rintro e u5 ⟨rfl, h6⟩; rw [good_010, same_self])
  refine hK.out _ _ (⟨⟨cell_later h6 hHeld.1.1, cell_later h6 hHeld.1.2.1, cell_later h6 hHeld.1.2.2.1, cell_later h6 hHeld.1.2.2.2⟩, Ext.trans' hHeld.2 h6⟩) (fun hHeld => ?_)
  clear hK K
  try simp only [Act.put, List.setIfInBounds_toArray, List.set_cons_zero, List.set_cons_succ]
  first | (refine held_t (i := 10) hHeld ?_; apply Exists.intro; refine ⟨fun wq hq => ?_, ?_⟩; (focus ((try dsimp only at hq); go_simp; (first | done | with_reducible rfl | fail)))) | refine held_s (i := 10) hHeld ?_ | fail
  first | (refine held_t (i := 11) hHeld ?_; apply Exists.intro; refine ⟨fun wq hq => ?_, ?_⟩; (focus ((try dsimp only at hq); go_simp; (first | done | with_reducible rfl | fail)))) | refine held_s (i := 11) hHeld ?_ | fail
  try simp only [Act.put, List.setIfInBounds_toArray, List.set_cons_zero, List.set_cons_succ]
  refine held_c 12 fun K hK => ?_
  go_simp
  (go_at_call 18; refine (int_at _ 1).mono ?_; rintro e u6 ⟨rfl, h6⟩)
  refine hK.out _ _ (⟨⟨cell_later h6 hHeld.1.1, cell_later h6 hHeld.1.2.1, cell_later h6 hHeld.1.2.2.1, cell_later h6 hHeld.1.2.2.2⟩, Ext.trans' hHeld.2 h6⟩) (fun hHeld => ?_)
  clear hK K
  try simp only [Act.put, List.setIfInBounds_toArray, List.set_cons_zero, List.set_cons_succ]
  refine held_c 13 fun K hK => ?_
  go_simp
  (go_at_call 56; refine (Ground_at (intT 1) _ _ (int_rd _ _ i64_1)).mono ?_; rintro e u7 ⟨rfl, h6⟩; rw [ground_1])
  refine hK.out _ _ (⟨⟨cell_later h6 hHeld.1.1, cell_later h6 hHeld.1.2.1, cell_later h6 hHeld.1.2.2.1, cell_later h6 hHeld.1.2.2.2⟩, Ext.trans' hHeld.2 h6⟩) (fun hHeld => ?_)
  clear hK K
  try simp only [Act.put, List.setIfInBounds_toArray, List.set_cons_zero, List.set_cons_succ]
  first | (refine held_t (i := 14) hHeld ?_; apply Exists.intro; refine ⟨fun wq hq => ?_, ?_⟩; (focus ((try dsimp only at hq); go_simp; (first | done | with_reducible rfl | fail)))) | refine held_s (i := 14) hHeld ?_ | fail
  try simp only [Act.put, List.setIfInBounds_toArray, List.set_cons_zero, List.set_cons_succ]
  first | (refine held_t (i := 15) hHeld ?_; apply Exists.intro; refine ⟨fun wq hq => ?_, ?_⟩; (focus ((try dsimp only at hq); go_simp; (first | done | with_reducible rfl | fail)))) | refine held_s (i := 15) hHeld ?_ | fail
  try simp only [Act.put, List.setIfInBounds_toArray, List.set_cons_zero, List.set_cons_succ]
  have HEND := Lib.hid (Ext.trans' HB7.out hHeld.2)
  clear hHeld
  refine wpAnyH_done (by kernel_rfl) ?_ _
  go_wp2
  go_ret
  exact ⟨rfl, HEND.out⟩
end Go.Proofs.Ytbbbgijlbcmpbaa
/- A term made alike with itself, and with itself by other names: how it goes, at which cost. Nothing here is walked. -/
namespace Go.Proofs.Ytbbbgijlbcmpbaa

/-- Beside a term of fewer than K variables the same one by other names: some of these stand for the first ones already. -/
def InvS (K : Nat) (S : List (Int × Tm)) : Prop := ∀ m, fullB S m = varV m ∨ ((K : Int) ≤ m ∧ m < 2 * K ∧ fullB S m = varV (m - K))
def TwinV (K : Nat) (B : Int → Tm) (p : Tm) : Prop := ∀ m ∈ occT p, B m = varV m ∨ B m = varV (m + K)
theorem InvS.nil (K : Nat) : InvS K [] := fun m => Or.inl (by rw [fullB])
theorem InvS.low {K : Nat} {S : List (Int × Tm)} (h : InvS K S) {m : Int} (hm : m < K) : fullB S m = varV m := (h m).elim id (fun q => by omega)
theorem InvS.at {K : Nat} {S : List (Int × Tm)} (h : InvS K S) {m : Int} (h1 : m < K) : fullB S (m + K) = varV (m + K) ∨ fullB S (m + K) = varV m := by
  rcases h (m + K) with e | ⟨_, _, e⟩
  · exact Or.inl e
  · right
    rw [e, show m + (K : Int) - K = m by omega]
/-- One is let stand for the other. -/
theorem InvS.join {K : Nat} {S : List (Int × Tm)} (h : InvS K S) {n n' : Int} (h0 : 0 ≤ n) (h1 : n < K) (hn : n' = n ∨ n' = n + K) (c : Nat) : InvS K (joinB S n n' c).set ∧ (joinB S n n' c).ok = true ∧ (joinB S n n' c).cost = c := by
  unfold joinB
  refine ⟨?_, rfl, rfl⟩
  show InvS K (if n = n' then S else (max n n', varV (min n n')) :: S)
  by_cases e : n = n'
  · rw [if_pos e]; exact h
  · rw [if_neg e]
    have hn' : n' = n + K := hn.elim (fun q => absurd q.symm e) id
    subst hn'
    rw [Int.max_eq_right (by omega), Int.min_eq_left (by omega)]
    intro m
    rw [fullB, sub_varV, h.low h1]
    rcases h m with q | ⟨q1, q2, q⟩
    · rw [q, sub_varV]
      by_cases e2 : m = n + K
      · rw [e2, oneV_self]
        exact Or.inr ⟨by omega, by omega, by rw [show n + (K : Int) - K = n by omega]⟩
      · rw [oneV_ne _ e2]
        exact Or.inl rfl
    · rw [q, sub_varV, oneV_ne _ (by omega)]
      exact Or.inr ⟨q1, q2, rfl⟩
/-- A term of such variables. -/
def LowT (K : Nat) (p : Tm) : Prop := formedT p = true ∧ ∀ m ∈ occT p, 0 ≤ m ∧ m < (K : Int)
theorem low_arg {K : Nat} {k n : Int} {s : ByteArray} {ts : List Tm} (hk : ¬ k = 0) (h : LowT K (.mk k n s ts)) : ∀ x ∈ ts, LowT K x := fun x hx => by
  obtain ⟨h1, h2⟩ := h
  rw [formedT, Bool.and_eq_true] at h1
  rw [occ_not hk] at h2
  exact ⟨formed_mem h1.2 hx, fun m hm => h2 m (mem_occL.2 ⟨x, hx, hm⟩)⟩
/-- What a made-alike of the two leaves. -/
def TwinP (K : Nat) (c z : Nat) (r : URes) : Prop := if c + z ≤ 2000 then InvS K r.set ∧ r.ok = true ∧ r.cost = c + z else r.ok = false ∧ 2000 < r.cost
theorem twin_list {K : Nat} {f : List (Int × Tm) → Tm → Tm → Nat → URes} {c0 : Nat}
    (ih : ∀ (S : List (Int × Tm)) (x : Tm) (B : Int → Tm) (c : Nat), InvS K S → LowT K x → TwinV K B x → c0 ≤ c → c ≤ 2000 → TwinP K c (sizeN x) (f S x (subT B x) c)) :
    ∀ (xs : List Tm) (S : List (Int × Tm)) (B : Int → Tm) (c : Nat), InvS K S → (∀ x ∈ xs, LowT K x) → (∀ x ∈ xs, TwinV K B x) → c0 ≤ c → c ≤ 2000 → TwinP K c (sizesN xs) (uniL f S xs (subL B xs) c)
  | [], S, B, c, h, _, _, _, hc => by
    rw [subL, uniL, sizesN]
    · unfold TwinP
      rw [if_pos (by omega)]
      exact ⟨h, rfl, rfl⟩
    · intro x r y q e; cases e
  | x :: r, S, B, c, h, hx, hB, hc0, hc => by
    have h1 := ih S x B c h (hx x (by simp)) (hB x (by simp)) hc0 hc
    rw [subL, uniL, sizesN]
    unfold TwinP at h1
    by_cases hz : c + sizeN x ≤ 2000
    · rw [if_pos hz] at h1
      obtain ⟨g1, g2, g3⟩ := h1
      rw [if_pos g2, g3]
      have h2 := twin_list ih r (f S x (subT B x) c).set B (c + sizeN x) g1 (fun z hz => hx z (by simp [hz])) (fun z hz => hB z (by simp [hz])) (by omega) hz
      unfold TwinP at h2 ⊢
      rw [show c + (sizeN x + sizesN r) = c + sizeN x + sizesN r by omega]
      exact h2
    · rw [if_neg hz] at h1
      rw [if_neg (by rw [h1.1]; simp)]
      unfold TwinP
      rw [if_neg (by omega)]
      exact ⟨rfl, h1.2⟩
theorem twin_sub {K : Nat} {S : List (Int × Tm)} (h : InvS K S) {x : Tm} (hx : LowT K x) {B : Int → Tm} (hB : TwinV K B x) : subT (fullB S) x = x ∧ ∃ B', subT (fullB S) (subT B x) = subT B' x ∧ TwinV K B' x := by
  refine ⟨sub_id x hx.1 fun m hm => h.low (hx.2 m hm).2, fun m => subT (fullB S) (B m), sub_sub _ _ _, fun m hm => ?_⟩
  show subT (fullB S) (B m) = _ ∨ subT (fullB S) (B m) = _
  rcases hB m hm with e | e
  · rw [e, sub_varV]
    exact Or.inl (h.low (hx.2 m hm).2)
  · rw [e, sub_varV]
    exact (h.at (hx.2 m hm).2).elim Or.inr Or.inl
/-- A term and the same by other names. -/
theorem twin_uni {K : Nat} : ∀ (M : Nat) (S : List (Int × Tm)) (x : Tm) (B : Int → Tm) (c : Nat), InvS K S → LowT K x → TwinV K B x → c ≤ 2000 → 2000 ≤ M + c → TwinP K c (sizeN x) (uniT M S x (subT B x) c)
  | 0, S, x, B, c, h, hx, hB, hc, hM => by
    have := size_pos x
    rw [uniT]
    unfold TwinP
    rw [if_neg (by omega)]
    exact ⟨rfl, by show 2000 < c + 1; omega⟩
  | M + 1, S, x, B, c, h, hx, hB, hc, hM => by
    have hp := size_pos x
    rw [uniT]
    by_cases h1 : 2000 < c + 1
    · rw [if_pos h1]
      unfold TwinP
      rw [if_neg (by omega)]
      exact ⟨rfl, h1⟩
    · rw [if_neg h1]
      obtain ⟨e1, B', e2, hB'⟩ := twin_sub h hx hB
      rw [e1, e2]
      clear e1 e2 hB
      obtain ⟨k, n, s, ts⟩ := x
      by_cases hk : k = 0
      · subst hk
        have hn := hx.2 n (by rw [occ_var]; simp)
        have hts : ts = [] := by have := (formed_var hx.1).1; unfold varV at this; simp at this; exact this.2
        subst hts
        rw [sub_var, sizeN, sizesN]
        obtain ⟨n', hn', e⟩ : ∃ n', (n' = n ∨ n' = n + K) ∧ B' n = varV n' := (hB' n (by rw [occ_var]; simp)).elim (fun q => ⟨n, Or.inl rfl, q⟩) (fun q => ⟨n + K, Or.inr rfl, q⟩)
        rw [e]
        unfold varV
        rw [uniW, if_pos rfl, if_pos rfl]
        obtain ⟨j1, j2, j3⟩ := h.join hn.1 hn.2 hn' (c + 1)
        unfold TwinP
        rw [if_pos (by omega)]
        exact ⟨j1, j2, j3⟩
      · rw [sub_not _ hk, uniW, if_neg hk, if_neg hk, if_pos ⟨rfl, rfl, rfl, (subL_len _ _).symm⟩, sizeN]
        have hl := twin_list (K := K) (c0 := c + 1) (fun S x B c' g1 g2 g3 g4 g5 => twin_uni M S x B c' g1 g2 g3 g5 (by omega)) ts S B' (c + 1) h (low_arg hk hx) (fun x hx' m hm => hB' m (by rw [occ_not hk]; exact mem_occL.2 ⟨x, hx', hm⟩)) (Nat.le_refl _) (by omega)
        unfold TwinP at hl ⊢
        rw [show c + (sizesN ts + 1) = c + 1 + sizesN ts by omega]
        exact hl
/-- Whole: none of its variables stands for anything. -/
def WhT (S : List (Int × Tm)) (x : Tm) : Prop := formedT x = true ∧ ∀ m ∈ occT x, fullB S m = varV m
theorem WhT.sub {S : List (Int × Tm)} {x : Tm} (h : WhT S x) : subT (fullB S) x = x := sub_id x h.1 h.2
/-- What comes of one made alike with itself. -/
def SelfP (S : List (Int × Tm)) (c z : Nat) (r : URes) : Prop := r.set = S ∧ (c + z ≤ 2000 → r.ok = true ∧ r.cost = c + z) ∧ (¬ c + z ≤ 2000 → r.ok = false ∧ 2000 < r.cost)
theorem self_list {S : List (Int × Tm)} {f : List (Int × Tm) → Tm → Tm → Nat → URes} {c0 : Nat}
    (ih : ∀ (x : Tm) (c : Nat), WhT S x → c0 ≤ c → c ≤ 2000 → SelfP S c (sizeN x) (f S x x c)) :
    ∀ (xs : List Tm) (c : Nat), (∀ x ∈ xs, WhT S x) → c0 ≤ c → c ≤ 2000 → SelfP S c (sizesN xs) (uniL f S xs xs c)
  | [], c, _, _, hc => by
    rw [uniL, sizesN]
    · exact ⟨rfl, fun _ => ⟨rfl, rfl⟩, fun h => absurd hc h⟩
    · intro x r y q e; cases e
  | x :: r, c, hs, hc0, hc => by
    obtain ⟨h1, h2, h3⟩ := ih x c (hs x (by simp)) hc0 hc
    rw [uniL, sizesN]
    by_cases hz : c + sizeN x ≤ 2000
    · obtain ⟨h4, h5⟩ := h2 hz
      rw [if_pos h4, h1, h5]
      have hl := self_list ih r (c + sizeN x) (fun z hz => hs z (by simp [hz])) (by omega) hz
      unfold SelfP at hl ⊢
      rw [show c + (sizeN x + sizesN r) = c + sizeN x + sizesN r by omega]
      exact hl
    · obtain ⟨h4, h5⟩ := h3 hz
      rw [if_neg (by rw [h4]; simp)]
      exact ⟨h1, fun q => by omega, fun _ => ⟨rfl, h5⟩⟩
theorem self_uni {S : List (Int × Tm)} : ∀ (M : Nat) (x : Tm) (c : Nat), WhT S (subT (fullB S) x) → c ≤ 2000 → 2000 ≤ M + c → SelfP S c (sizeN (subT (fullB S) x)) (uniT M S x x c)
  | 0, x, c, _, hc, hM => by
    have := size_pos (subT (fullB S) x)
    rw [uniT]
    exact ⟨rfl, fun q => by omega, fun _ => ⟨rfl, by show 2000 < c + 1; omega⟩⟩
  | M + 1, x, c, hw, hc, hM => by
    have hp := size_pos (subT (fullB S) x)
    rw [uniT]
    by_cases h1 : 2000 < c + 1
    · rw [if_pos h1]
      exact ⟨rfl, fun q => by omega, fun _ => ⟨rfl, h1⟩⟩
    · rw [if_neg h1]
      generalize subT (fullB S) x = X at hw hp ⊢
      obtain ⟨k, n, s, ts⟩ := X
      by_cases hk : k = 0
      · subst hk
        have hts : ts = [] := by have := (formed_var hw.1).1; unfold varV at this; simp at this; exact this.2
        subst hts
        rw [uniW, if_pos rfl, if_pos rfl, sizeN, sizesN]
        unfold joinB
        rw [if_pos rfl]
        exact ⟨rfl, fun _ => ⟨rfl, rfl⟩, fun q => by omega⟩
      · rw [uniW, if_neg hk, if_neg hk, if_pos ⟨rfl, rfl, rfl, rfl⟩, sizeN]
        obtain ⟨hf, hv⟩ := hw
        rw [occ_not hk] at hv
        rw [formedT, Bool.and_eq_true] at hf
        have hl := self_list (S := S) (f := uniT M) (c0 := c + 1) (fun x c' g1 g4 g5 => by
          have := self_uni M x c' (by rw [g1.sub]; exact g1) g5 (by omega)
          rw [g1.sub] at this
          exact this) ts (c + 1) (fun x hx => ⟨formed_mem hf.2 hx, fun m hm => hv m (mem_occL.2 ⟨x, hx, hm⟩)⟩) (Nat.le_refl _) (by omega)
        unfold SelfP at hl ⊢
        rw [show c + (sizesN ts + 1) = c + 1 + sizesN ts by omega]
        exact hl
end Go.Proofs.Ytbbbgijlbcmpbaa
/- The document's side of chapter 12: Could, walked. -/
namespace Go.Proofs.Ytbbbgijlbcmpbaa
open Go.RowKit
set_option linter.unusedVariables false

/-- How many variables. -/
def numV (x : Tm) : Nat := (if goodT x then varsT x [] else []).length
/-- What Could answers. -/
def couldB (x y : Tm) : Bool := goodT x && goodT y && (bothB (numV x + numV y) [] (renT 0 x) (renT (numV x) y)).ok
theorem numV_le (x : Tm) : numV x ≤ 2000 := by
  unfold numV
  cases hg : goodT x
  · simp
  · have h1 := xvars_len x []
    have h2 := (good_parts hg).1
    simp at h1 ⊢
    omega
theorem Box.four_set {w : World} {d : Nat} {v0 v1 v2 v3 : Value} (h : Box w d [v0, v1, v2, v3]) (u0 u1 u2 u3 : Value) : Box (set4 w d u0 u1 u2 u3) d [u0, u1, u2, u3] := (((h.set (k := 0) (u := u0) (by simp)).set (k := 1) (u := u1) (by simp)).set (k := 2) (u := u2) (by simp)).set (k := 3) (u := u3) (by simp)
/-- A box with a term, laid behind w. -/
def BoxT (w : World) (T : Tm) (e : Int) (s8 s10 : Value) (wx : World) : Prop :=
  ∃ d k n s a m c, s8 = .pointer (some ⟨d, 0, none⟩) ∧ Box wx d [.int .i64 k, .int .i64 n, .string s, .slice a m c] ∧ TmV wx T (.agg #[.int .i64 k, .int .i64 n, .string s, .slice a m c]) ∧ s10 = .int .i64 e ∧ Below w.heap.size w wx
theorem BoxT.late {w w6 w7 : World} {T : Tm} {e : Int} {d : Nat} {k n : Int} {s : ByteArray} {a : Option Addr} {m c : Nat} {v0 v1 v2 v3 : Value} (hv : TmV w6 T (.agg #[.int .i64 k, .int .i64 n, .string s, .slice a m c])) (hb : Below w6.heap.size w6 w7) (hd : w6.heap.size ≤ d) (hx : Box w7 d [v0, v1, v2, v3]) (hw : Below w.heap.size w w7) (hwd : w.heap.size ≤ d) :
    BoxT w T e (.pointer (some ⟨d, 0, none⟩)) (.int .i64 e) (set4 w7 d (.int .i64 k) (.int .i64 n) (.string s) (.slice a m c)) :=
  ⟨d, k, n, s, a, m, c, rfl, hx.four_set _ _ _ _, TmV.ext (Below.set4 hb hd _ _ _ _) _ _ hv, rfl, Below.set4 hw hwd _ _ _ _⟩
theorem BoxT.early {w w7 : World} {T : Tm} {e : Int} {d q : Nat} {k n : Int} {s : ByteArray} {a : Option Addr} {m c : Nat} {v0 v1 v2 v3 : Value} (hv : TmV (hide (under q) w7) T (.agg #[.int .i64 k, .int .i64 n, .string s, .slice a m c])) (hd : d < q) (hx : Box w7 d [v0, v1, v2, v3]) (hw : Below w.heap.size w w7) (hwd : w.heap.size ≤ d) :
    BoxT w T e (.pointer (some ⟨d, 0, none⟩)) (.int .i64 e) (set4 w7 d (.int .i64 k) (.int .i64 n) (.string s) (.slice a m c)) := by
  have hh : under q d = true := by simp; omega
  exact ⟨d, k, n, s, a, m, c, rfl, hx.four_set _ _ _ _, (TmV.stay ((((Stays.set (D := under q) ⟨d, 0, none⟩ (.int .i64 k) hh).trans (Stays.set ⟨d, 1, none⟩ (.int .i64 n) hh)).trans (Stays.set ⟨d, 2, none⟩ (.string s) hh)).trans (Stays.set ⟨d, 3, none⟩ (.slice a m c) hh)) _ _ hv).bare, rfl, Below.set4 hw hwd _ _ _ _⟩
end Go.Proofs.Ytbbbgijlbcmpbaa
/- A term made alike with itself by other names: what the law of it reckons. Nothing here is walked. -/
namespace Go.Proofs.Ytbbbgijlbcmpbaa

theorem occ_ren {t : Tm} {base m : Int} (h : m ∈ occT (renT base t)) : base ≤ m ∧ m < base + ((varsT t []).length : Int) := by
  have h2 := (mem_vars2 (renT base t) []).2 (Or.inr h)
  rw [vars_ren] at h2
  simp only [List.mem_map, List.mem_range] at h2
  obtain ⟨i, hi, rfl⟩ := h2
  omega
theorem ren_shift (t : Tm) (K : Nat) : renT K (renT 0 t) = subT (fun m => varV (m + K)) (renT 0 t) := by
  have hv := vars_ren (t := t) 0
  conv => lhs; unfold renT
  show subT (renV (varsT (renT 0 t) []) K) (renT 0 t) = _
  refine sub_congr _ fun m hm => ?_
  have h2 := (mem_vars2 (renT 0 t) []).2 (Or.inr hm)
  have h3 := pos_at h2
  unfold renV
  rw [hv] at h3 ⊢
  generalize posI ((List.range (varsT t []).length).map fun (i : Nat) => (0 : Int) + (i : Int)) m = q at h3 ⊢
  rw [List.getElem?_map] at h3
  obtain ⟨i, hi, e⟩ := Option.map_eq_some_iff.1 h3
  have := (List.getElem?_eq_some_iff.1 hi)
  obtain ⟨_, hi2⟩ := this
  rw [List.getElem_range] at hi2
  rw [show (K : Int) + (q : Int) = m + K by omega]
theorem ren_twice (t : Tm) (K : Nat) : renT K t = subT (fun m => varV (m + K)) (renT 0 t) := by
  unfold renT
  rw [sub_sub]
  refine sub_congr t fun m hm => ?_
  unfold renV
  rw [sub_varV, show (0 : Int) + (posI (varsT t []) m : Int) + K = K + (posI (varsT t []) m : Int) by omega]
theorem fits_of {N : Nat} {x : Tm} (h : goodT x = true) (ho : ∀ m ∈ occT x, 0 ≤ m ∧ m < (N : Int)) : fitsB N x = true := by
  unfold fitsB
  rw [h, Bool.true_and, List.all_eq_true]
  intro m hm
  have := ho m hm
  simp only [Bool.and_eq_true, decide_eq_true_eq]
  exact this
/-- What the law of itself wants. -/
structure SelfF (t : Tm) (K : Nat) (p q : Tm) (S : List (Int × Tm)) (c1 c2 : Nat) : Prop where
  plain : plainE t = (p, 0)
  from_ : fromE K p = (q, (K : Int) + K, 0)
  goodp : goodT p = true
  one : bothB (K + K) [] p p = ⟨true, c1, 0, []⟩
  two : bothB (K + K) [] p q = ⟨true, c2, 0, S⟩
  whole : wholeB (K + K) S q = (p, 0)
  could : couldB t t = true
theorem self_facts {t : Tm} (hg : goodT t = true) (hs : sizeN t ≤ 200) {K : Nat} (hK : (varsT t []).length = K) : K ≤ 200 ∧ ∃ p q S c1 c2, SelfF t K p q S c1 c2 := by
  obtain ⟨g1, g2, g3⟩ := good_parts hg
  have hK2 : K ≤ 200 := by have := xvars_len t []; simp at this; omega
  refine ⟨hK2, renT 0 t, renT K (renT 0 t), ?_⟩
  have hgp := ren0_good hg
  obtain ⟨p1, p2, p3⟩ := good_parts hgp
  have hz : sizeN (renT 0 t) = sizeN t := (size_same t g3 fun m hm => ⟨_, rfl⟩).1
  have hvp : (varsT (renT 0 t) []).length = K := by rw [vars_ren]; simp [hK]
  have hop : ∀ m ∈ occT (renT 0 t), 0 ≤ m ∧ m < (K : Int) := fun m hm => by have := occ_ren hm; omega
  have hlow : LowT K (renT 0 t) := ⟨p3, hop⟩
  have hq := ren_shift t K
  have hgq : goodT (renT K (renT 0 t)) = true := by rw [(ren_same p3 (base := (K : Int)) (by omega) (by omega)).2]; exact hgp
  have hoq : ∀ m ∈ occT (renT K (renT 0 t)), 0 ≤ m ∧ m < ((K + K : Nat) : Int) := fun m hm => by have := occ_ren hm; omega
  have fp : fitsB (K + K) (renT 0 t) = true := fits_of hgp fun m hm => by have := hop m hm; omega
  have fq : fitsB (K + K) (renT K (renT 0 t)) = true := fits_of hgq hoq
  have h1 := self_uni (S := []) 2000 (renT 0 t) 0 (by
    have e : subT (fullB []) (renT 0 t) = renT 0 t := sub_id _ p3 fun m _ => by rw [fullB]
    rw [e]; exact ⟨p3, fun m _ => by rw [fullB]⟩) (by omega) (by omega)
  rw [sub_id (A := fullB []) _ p3 fun m _ => by rw [fullB]] at h1
  obtain ⟨a1, a2, _⟩ := h1
  obtain ⟨a3, a4⟩ := a2 (by omega)
  have e1 : bothB (K + K) [] (renT 0 t) (renT 0 t) = ⟨true, (uniT 2000 [] (renT 0 t) (renT 0 t) 0).cost, 0, []⟩ := by
    unfold bothB endB
    rw [fp, if_pos (by rfl), if_neg (by omega), a3, if_pos rfl, a1]
  have h2 := twin_uni (K := K) 2000 [] (renT 0 t) (fun m => varV (m + K)) 0 (InvS.nil K) hlow (fun m _ => Or.inr rfl) (by omega) (by omega)
  unfold TwinP at h2
  rw [if_pos (by omega), ← hq] at h2
  obtain ⟨b1, b2, b3⟩ := h2
  have e2 : bothB (K + K) [] (renT 0 t) (renT K (renT 0 t)) = ⟨true, (uniT 2000 [] (renT 0 t) (renT K (renT 0 t)) 0).cost, 0, (uniT 2000 [] (renT 0 t) (renT K (renT 0 t)) 0).set⟩ := by
    unfold bothB endB
    rw [fp, fq, if_pos (by rfl), if_neg (by omega), b2, if_pos rfl]
  have hm := (uni_post (N := K + K) 2000 [] (renT 0 t) (renT K (renT 0 t)) 0 (OkS.nil (by omega)) (fits_in fp) (fits_in fq) (by omega) (by omega)).made b2
  have hsub : subT (fullB (uniT 2000 [] (renT 0 t) (renT K (renT 0 t)) 0).set) (renT K (renT 0 t)) = renT 0 t := by
    rw [← hm.1]
    exact sub_id _ p3 fun m hm => b1.low (hop m hm).2
  refine ⟨_, _, _, by unfold plainE; rw [if_pos hg], ?_, hgp, e1, e2, ?_, ?_⟩
  · unfold fromE
    rw [if_pos ⟨hgp, by omega, by omega⟩, hvp, if_pos (by omega)]
  · unfold wholeB
    rw [fq, if_pos rfl, hsub, hgp, if_pos rfl]
  · unfold couldB numV
    rw [hg, if_pos rfl, hK, ren_twice t K, ← hq, e2]
    rfl
end Go.Proofs.Ytbbbgijlbcmpbaa
/- Stage 11's laws: how deep a term is asked of. -/
namespace Go.Proofs.Ytbbbgijlbcmpbaa
open Go.RowKit
set_option linter.unusedVariables false

set_option maxHeartbeats 2000000 in
theorem deep13_at : ∀ (N : Nat) (x : Tm), sizeN x ≤ N → ∀ (left : Int), I64 left → ∀ (w : World) (v : Value), TmV w x v →
    Calls Try.prog 57 #[v, .int .i64 left] w fun e w' => e = .returned (.bool (deepT x left)) ∧ Below w.heap.size w w'
  | 0, x, h, left, hl, w, v, hv => by have := size_pos x; omega
  | N + 1, .mk k n s ts, h, left, hl, w, v, hv => by
    obtain ⟨u, rfl, hs, hk, hn, hu⟩ := tmV_iff.1 hv
    obtain ⟨a, c, rfl, h1, h2, h3⟩ := hu.len
    unfold BIG at h3
    unfold I64 at hl
    have hD : deepT (.mk k n s ts) left = if left < 1 ∨ 12 < ts.length then true else deepsT ts (left - 1) := by rw [deepT]
    by_cases hlt : left < 1
    · rw [hD, if_pos (Or.inl hlt)]
      clear hD
      go_enter Try.func57, Try.ntmps57
      go_wp2
      go_ret
      exact ⟨rfl, bel1' _ _⟩
    obtain ⟨m, hm⟩ : ∃ m, ts.length = m := ⟨_, rfl⟩
    by_cases h12 : 12 < m
    · rw [hD, if_pos (Or.inr (by rw [hm]; exact h12))]
      rw [hm] at h1 h3 ⊢
      clear hD hv hu hm
      go_enter Try.func57, Try.ntmps57
      go_wp2
      go_ret
      exact ⟨rfl, bel1' _ _⟩
    rw [hD, if_neg (by rw [hm]; omega)]
    have hI : I64 (left - 1) := by unfold I64; omega
    have IH := Lib.hid (fun (y : Tm) (hy : y ∈ ts) => deep13_at N y (mem_size h hy) (left - 1) hI)
    have HU := Lib.hid hu
    have HM := Lib.hid hm
    rw [hm] at h1 h3 hu HU ⊢
    obtain ⟨r, hr⟩ : ∃ r, deepsT ts (left - 1) = r := ⟨_, rfl⟩
    rw [hr]
    have HR := Lib.hid hr
    clear hD hv hu hm hr h
    go_enter Try.func57, Try.ntmps57
    go_wp2_with fail
    go_loopw [5] (fun v wr => ∃ i : Nat, i ≤ m ∧ v = .int .i64 i ∧ Hid (deepsT (ts.drop i) (left - 1) = r) ∧ Hid (Below (w.alloc (.cells #[.int .i64 k, .int .i64 n, .string s, .slice a m c] 31)).heap.size (w.alloc (.cells #[.int .i64 k, .int .i64 n, .string s, .slice a m c] 31)) wr)) (fun v _ => m - (intOf v).toNat)
    case atStart => exact ⟨0, Nat.zero_le _, rfl, Lib.hid (by rw [List.drop_zero]; exact HR.out), Lib.hid (Below.refl _ _)⟩
    case round =>
      obtain ⟨i, hi, rfl, HD, HB⟩ := hrel
      obtain ⟨e0, e1, e2, e3⟩ := box_cells w 31 _ _ _ _ HB.out
      by_cases hil : i < m
      · obtain ⟨y, hy⟩ : ∃ y, ts[i]? = some y := ⟨_, List.getElem?_eq_getElem (by rw [HM.out]; exact hil)⟩
        have hdr : ts.drop i = y :: ts.drop (i + 1) := by
          obtain ⟨hlt', rfl⟩ := List.getElem?_eq_some_iff.1 hy
          exact List.drop_eq_getElem_cons hlt'
        have hd := HD.out
        rw [hdr, deepsT] at hd
        have HBW := Lib.hid (Ext.trans' (bel1' w _) HB.out)
        obtain ⟨b, off, k', n', s', u', rfl, hbb, _, _, _, c0, c1, c2, c3, _, ht⟩ := (HU.out.ext HBW.out).get hy
        have ih := IH.out y (List.mem_of_getElem? hy) wr _ ht
        clear hdr HD ht
        cases hq : deepT y (left - 1)
        · rw [hq, Bool.false_or] at hd
          rw [hq] at ih
          have HD := Lib.hid hd
          clear hq hd hy
          (go_wp2_with fail; go_fit (ih); rintro e w2 ⟨rfl, b2⟩)
          have B2 := Lib.hid (Ext.trans' HB.out b2)
          clear b2
          go_wp2
          go_roundw
          case rel => exact ⟨i + 1, by omega, by go_num, HD, B2⟩
          case measure => simp [intOf]; omega
        · rw [hq, Bool.true_or] at hd
          rw [hq] at ih
          subst hd
          clear hq hy HR
          (go_wp2_with fail; go_fit (ih); rintro e w2 ⟨rfl, b2⟩)
          have B2 := Lib.hid (Ext.trans' HBW.out b2)
          clear b2
          go_wp2
          go_ret
          exact ⟨rfl, B2.out⟩
      · have hd := HD.out
        rw [List.drop_eq_nil_of_le (by rw [HM.out]; omega), deepsT] at hd
        subst hd
        clear HR HD
        go_wp2
        go_ret
        exact ⟨rfl, Ext.trans' (bel1' w _) HB.out⟩
end Go.Proofs.Ytbbbgijlbcmpbaa
/- Package unify: apart. -/
namespace Go.Proofs.Ytbbbgijlbcmpbaa
open Go.RowKit Go.Maps
set_option linter.unusedVariables false

theorem Lay.block {w w' : World} {lb m : Nat} {ps : List TmP} (h : Lay w lb m ps) (hb : w'.heap[lb]? = w.heap[lb]?) (hlt : lb < w'.heap.size) : Lay w' lb m ps where
  done := fun i p hp j u hu => by rw [World.cell?_of_block hb]; exact h.done i p hp j u hu
  rest := fun i h1 h2 => by
    obtain ⟨a, b, c, d⟩ := h.rest i h1 h2
    exact ⟨by rw [World.cell?_of_block hb]; exact a, by rw [World.cell?_of_block hb]; exact b, by rw [World.cell?_of_block hb]; exact c, by rw [World.cell?_of_block hb]; exact d⟩
  fz := fun j => by rw [World.frozen?_of_block hb]; exact h.fz j
  lt := hlt
theorem Lay.touch {F : List Nat} {w w' : World} {lb m : Nat} {ps : List TmP} (h : Lay w lb m ps) (t : Touch F w w') (hn : ¬ lb ∈ F) : Lay w' lb m ps := h.block (t.block lb h.lt hn) (Nat.lt_of_lt_of_le h.lt t.size)
theorem infoTermP : (Try.prog.info? 31).map (fun i => (i.zero, i.size, i.bytes)) = some (some (.agg #[.int .i64 0, .int .i64 0, .string ⟨#[]⟩, .slice none 0 0]), 4, 56) := by kernel_rfl
theorem make_termsP (m : Nat) (hm : m ≤ 8) (w : World) : (Instr.makeSlice 29 (.int .i64 m) (.int .i64 m)).run Try.prog w = .ok (.slice (some ⟨w.heap.size, 0, none⟩) m m) (w.alloc (.cells (madeCells #[.int .i64 0, .int .i64 0, .string ⟨#[]⟩, .slice none 0 0] (m * 4)) 31)) := by
  obtain ⟨i0, hi0, hz0, hs0, hb0⟩ := info_parts infoTermP
  have h := run_makeSlice (P := Try.prog) w 29 31 i0 _ Try.underlying29 hi0 hz0 .i64 .i64 m m (by omega) (by omega) (by rw [hs0]; omega) (by rw [hb0]; omega) (by omega)
  rw [hs0] at h
  simp only [Int.toNat_natCast] at h
  exact h
theorem vars_take {ts : List Tm} {j : Nat} {y : Tm} (hy : ts[j]? = some y) (l : List Int) : varsL (ts.take (j + 1)) l = varsT y (varsL (ts.take j) l) := by rw [take_next hy, avarss_app, varsL, varsL]
theorem vars_takep (ts : List Tm) (j : Nat) (l : List Int) : varsL (ts.take j) l <+: varsL ts l := by
  have h := avarss_app (ts.take j) (ts.drop j) l
  rw [List.take_append_drop] at h
  rw [h]
  exact avarss_pre _ _
theorem touch_setAt (w : World) (b o : Nat) (u0 u1 u2 u3 : Value) : Touch [b] w (setAt w b o u0 u1 u2 u3) :=
  (((touch_one w b o u0).trans (touch_one _ b (o + 1) u1) (fun k hk => Or.inl hk)).trans (touch_one _ b (o + 2) u2) (fun k hk => Or.inl hk)).trans (touch_one _ b (o + 3) u3) (fun k hk => Or.inl hk)
/-- What holds as the Args are gone through. -/
def ApI (V w : World) (F : List Nat) (p : Value) (N0 mb : Nat) (ts Ts : List Tm) (l : List Int) (lb m : Nat) (vs : List Value) (j : Nat) (wr : World) : Prop :=
  ∃ (F' : List Nat) (ps : List TmP), IsB V F' wr p (N0 + (varsL (ts.take j) l).length) [] ∧ NamedM wr mb N0 (varsL (ts.take j) l) ∧ ps.length = j ∧ ps.map (·.1) = Ts.take j ∧ Lay wr lb m ps ∧ (∀ q ∈ ps, TmV (hide (newU F' (lb + 1)) wr) q.1 (pVal q)) ∧ Touch (mb :: F) w wr ∧ (∀ k ∈ F', k ∈ F ∨ lb < k) ∧
    Box wr w.heap.size vs ∧ Box wr (w.heap.size + 1) [.int .i64 0, .int .i64 0, .string ⟨#[]⟩, .slice none 0 0]
set_option maxHeartbeats 8000000 in
set_option maxRecDepth 100000 in
theorem apart_at (V : World) : ∀ (M : Nat) (x : Tm), sizeN x ≤ M → formedT x = true → ∀ (L l : List Int), varsT x l <+: L → ∀ (N0 : Nat), N0 + L.length ≤ 65536 → ∀ (w : World) (F : List Nat) (p : Value) (mb : Nat) (v : Value),
    IsB V F w p (N0 + l.length) [] → NamedM w mb N0 l → ¬ mb ∈ F → Blind V [mb] → TmV V x v → Calls Try.prog 83 #[p, v, .map (some mb)] w (ApartP V F w p N0 mb L (varsT x l) x)
  | 0, x, h, _, L, l, _, N0, _, w, F, p, mb, v, _, _, _, _, hv => by have := size_pos x; omega
  | M + 1, .mk k n s ts, h, hf, L, l, hpre, N0, hL, w, F, p, mb, v, hB, hm, hmF, hmV, hv => by
    by_cases hk0 : k = 0
    · subst hk0
      exact apart_var hpre hL hB hm hmF hmV hv
    · obtain ⟨u, rfl, hss, hkk, hnn, hu⟩ := tmV_iff.1 hv
      obtain ⟨a, c, rfl, hb1, hb2, hb3⟩ := hu.len
      unfold maxLen at hb2
      obtain ⟨w1, e1, B1, z1, X1⟩ := box_new w #[.int .i64 k, .int .i64 n, .string s, .slice a ts.length c] 31
      obtain ⟨w2, e2, B2, z2, X2⟩ := box_new w1 #[.int .i64 0, .int .i64 0, .string ⟨#[]⟩, .slice none 0 0] 31
      have X1 := X1.ext B2
      have B12 := Ext.trans' B1 B2
      rw [z1] at X2 z2
      have HE := Lib.hid (And.intro e1 e2)
      have HB2 := Lib.hid (And.intro B12 (And.intro X1 (And.intro X2 z2)))
      have HI := Lib.hid (And.intro hB (And.intro hm (And.intro hmF hmV)))
      have hmlt := hm.lt
      have hk0' : (k != 0) = true := by simpa using hk0
      have hT : subT (renV L N0) (.mk k n s ts) = .mk k n s (subL (renV L N0) ts) := sub_not _ hk0 _ _ _
      have hvt : varsT (.mk k n s ts) l = varsL ts l := by rw [varsT, if_neg hk0]
      rw [hvt] at hpre ⊢
      unfold ApartP
      rw [hT]
      have hm8' : ts.length ≤ 8 := by
        by_cases hne : ts = []
        · simp [hne]
        · exact (formed_args hf hne).2.2
      rw [formedT, Bool.and_eq_true] at hf
      have IH := Lib.hid (fun (y : Tm) (hy : y ∈ ts) => apart_at V M y (mem_size h hy) (formed_mem hf.2 hy) L)
      have HU := Lib.hid hu
      obtain ⟨m, hm0⟩ : ∃ m, ts.length = m := ⟨_, rfl⟩
      have HM := Lib.hid hm0
      have HYB := Lib.hid (And.intro hss (And.intro hkk hnn))
      have HPR := Lib.hid (And.intro hpre hL)
      obtain ⟨Ts, hTs⟩ : ∃ Ts, subL (renV L N0) ts = Ts := ⟨_, rfl⟩
      have HTS := Lib.hid (And.intro hTs (show Ts.length = m by rw [← hTs, subL_len, hm0]))
      rw [hTs]
      rw [hm0] at hb1 hb3 hu HU X1 HB2 HE hm8' ⊢
      obtain ⟨w7, e7⟩ : ∃ w7, w2.alloc (.cells (madeCells #[.int .i64 0, .int .i64 0, .string ⟨#[]⟩, .slice none 0 0] (m * 4)) 31) = w7 := ⟨_, rfl⟩
      obtain ⟨lb, hlb⟩ : ∃ lb, w2.heap.size = lb := ⟨_, rfl⟩
      have HMK := make_termsP m hm8' w2
      rw [e7, hlb] at HMK
      have hL0 : Lay w7 lb m [] := hlb ▸ e7 ▸ lay_new w2 m _
      have hb7 : Below w2.heap.size w2 w7 := e7 ▸ bel1' w2 _
      have hlbw : w.heap.size + 1 < lb := by omega
      have hb27 := Ext.trans' HB2.out.1 hb7
      have HI7 := Lib.hid (show ApI V w F p N0 mb ts Ts l lb m [.int .i64 k, .int .i64 n, .string s, .slice a m c] 0 w7 from
        ⟨F, [], by rw [List.take_zero, varsL]; exact hB.ext hb27, by rw [List.take_zero, varsL]; exact hm.ext hb27, rfl, by simp, hL0, fun q hq => (by cases hq), Touch.of_below hb27 _, fun k hk => Or.inl hk, HB2.out.2.1.ext hb7, HB2.out.2.2.1.ext hb7⟩)
      obtain ⟨x0, x1, x2, x3, _⟩ := HB2.out.2.1.four
      have HLW := Lib.hid hlbw
      clear hL0 hb7 e7 hlb hT hm0 hf hv hu h X1 X2 hss hkk hnn hTs z2 hb27 hpre hvt hB hm hmF hmV B1 B2 z1 e1 e2 B12 hL hk0
      go_enter Try.func83, Try.ntmps83
      go_upto_region 1 with fail
      (try rw [HE.out.1, HE.out.2])
      go_upto_region 3 with fail
      clear x0 x1 x2 x3 HMK hk0'
      obtain ⟨x0, x1, x2, x3, _⟩ : w7.cell? ⟨w.heap.size, 0, none⟩ = some (.int .i64 k) ∧ w7.cell? ⟨w.heap.size, 1, none⟩ = some (.int .i64 n) ∧ w7.cell? ⟨w.heap.size, 2, none⟩ = some (.string s) ∧ w7.cell? ⟨w.heap.size, 3, none⟩ = some (.slice a m c) ∧ True := by
        obtain ⟨_, _, _, _, _, _, _, _, _, _, hx, _⟩ := HI7.out
        obtain ⟨q0, q1, q2, q3, _⟩ := hx.four
        exact ⟨q0, q1, q2, q3, trivial⟩
      go_wp2_with fail
      clear x0 x1 x2 x3
      go_loopw [8, 9, 22] (fun _ _ z wr => ∃ j : Nat, j ≤ m ∧ z = .int .i64 j ∧ Hid (ApI V w F p N0 mb ts Ts l lb m [.int .i64 k, .int .i64 n, .string s, .slice a m c] j wr)) (fun _ _ z _ => m - (intOf z).toNat)
      case atStart => exact ⟨0, Nat.zero_le _, rfl, HI7⟩
      case round =>
        obtain ⟨j, hj, rfl, HP⟩ := hrel
        by_cases hjm : j < m
        · have hjm2 : (j : Int) < m := by omega
          obtain ⟨y, hy⟩ : ∃ y, ts[j]? = some y := ⟨_, List.getElem?_eq_getElem (by rw [HM.out]; exact hjm)⟩
          obtain ⟨F', ps, hib, hnm, hpl, hpm, hLy, hpT, htc, hF', hx5, hx8⟩ := HP.out
          obtain ⟨gb, go, ku, nu, su, vu, rfl, _, _, _, _, d0, d1, d2, d3, hvu, htu⟩ := HU.out.get hy
          obtain ⟨a5, m5, c5, rfl⟩ : ∃ a5 m5 c5, vu = .slice a5 m5 c5 := by obtain ⟨a5, c5, e, _⟩ := hvu.len; exact ⟨_, _, _, e⟩
          have hst := hib.see.1
          have g0 := hst.2 _ _ d0
          have g1 := hst.2 _ _ d1
          have g2 := hst.2 _ _ d2
          have g3 := hst.2 _ _ d3
          obtain ⟨w5, e5, b5, z5, x5⟩ := box_new wr #[.int .i64 ku, .int .i64 nu, .string su, .slice a5 m5 c5] 31
          obtain ⟨y0, y1, y2, y3, _⟩ := x5.four
          have hvj := vars_take hy l
          have hpj : varsT y (varsL (ts.take j) l) <+: L := by rw [← hvj]; exact (vars_takep ts (j + 1) l).trans HPR.out.1
          have hmF' : ¬ mb ∈ F' := fun hm => (hF' mb hm).elim HI.out.2.2.1 (fun h => by omega)
          have C := IH.out y (List.mem_of_getElem? hy) _ hpj N0 HPR.out.2 w5 F' p mb _ (hib.ext b5) (hnm.ext b5) hmF' HI.out.2.2.2 htu
          have hTj : Ts[j]? = some (subT (renV L N0) y) := by rw [← HTS.out.1]; exact sizes_map_drop hy
          rw [← hvj] at C
          obtain ⟨U, hUU⟩ : ∃ U, subT (renV L N0) y = U := ⟨_, rfl⟩
          unfold ApartP at C
          rw [hUU] at hTj C
          have HPS := Lib.hid (And.intro hib (And.intro hpl (And.intro hpm (And.intro hLy (And.intro hpT (And.intro htc (And.intro hF' (And.intro hx5 (And.intro hx8 (And.intro hTj (And.intro b5 hmF')))))))))))
          have HE5 := Lib.hid e5
          clear hib hnm hpl hpm hLy hpT htc hx5 hx8 hTj b5 z5 x5 e5 hy d0 d1 d2 d3 hvu htu hst hvj hpj hUU HP hmF' hF'
          go_upto_region 6 with fail
          (try rw [HE5.out])
          (go_wp2_with fail; go_fit (C); rintro e w8 ⟨F8, v8, rfl, i8, m8, hT8, t8, in8⟩)
          obtain ⟨k6, n6, s6, a6, l6, c6, rfl, _, _, _, hpv⟩ := four_of hT8
          have hpc : pCells (U, .slice a6 l6 c6) = [.int .i64 k6, .int .i64 n6, .string s6, .slice a6 l6 c6] := by
            have := hpv
            simp only [pVal, Value.agg.injEq] at this
            have h2 := congrArg Array.toList this
            exact h2.symm
          obtain ⟨hib, hpl, hpm, hLy, hpT, htc, hF', hx5, hx8, hTj, b5, hmF'⟩ := HPS.out
          have hlt := hLy.lt
          have hb5s := b5.size
          have hFw : ∀ k ∈ F, k < w.heap.size := HI.out.1.lt
          have hnF' : ∀ q, w.heap.size ≤ q → q ≤ lb → ¬ q ∈ (mb :: F') := fun q h1 h2 hm => by
            rcases List.mem_cons.1 hm with e | hm
            · omega
            · exact (hF' q hm).elim (fun h => by have := hFw q h; omega) (fun h => by omega)
          have hLy8 : Lay w8 lb m ps := (hLy.later b5).touch t8 (hnF' lb (by omega) (Nat.le_refl _))
          have hx58 := t8.box (hnF' w.heap.size (Nat.le_refl _) (by omega)) (hx5.ext b5)
          have hx88 := t8.box (hnF' (w.heap.size + 1) (by omega) (by omega)) (hx8.ext b5)
          obtain ⟨r0, r1, r2, r3⟩ := hLy8.rest j (by rw [hpl]; exact Nat.le_refl _) hjm
          have rfz := hLy8.fz
          have HN := Lib.hid (show ApI V w F p N0 mb ts Ts l lb m [.int .i64 k, .int .i64 n, .string s, .slice (some ⟨gb, go, none⟩) m c] (j + 1) (setAt w8 lb (j * 4) (.int .i64 k6) (.int .i64 n6) (.string s6) (.slice a6 l6 c6)) from by
            have hin8 : ∀ q ∈ F8, q ∈ F ∨ lb < q := fun q hq => (in8 q hq).elim (hF' q) (fun h => Or.inr (by omega))
            have hs := touch_setAt w8 lb (j * 4) (.int .i64 k6) (.int .i64 n6) (.string s6) (.slice a6 l6 c6)
            have hLp := hLy8.put (by rw [hpl]; exact hjm) hpc
            rw [hpl] at hLp
            have hd : newU F8 (lb + 1) lb = true := by simp [newU]
            have hstay : ∀ t v, TmV (hide (newU F8 (lb + 1)) w8) t v → TmV (hide (newU F8 (lb + 1)) (setAt w8 lb (j * 4) (.int .i64 k6) (.int .i64 n6) (.string s6) (.slice a6 l6 c6))) t v := fun t v ht =>
              TmV.stay (((((Stays.set (D := newU F8 (lb + 1)) ⟨lb, j * 4, none⟩ _ hd).trans (Stays.set ⟨lb, j * 4 + 1, none⟩ _ hd)).trans (Stays.set ⟨lb, j * 4 + 2, none⟩ _ hd)).trans (Stays.set ⟨lb, j * 4 + 3, none⟩ _ hd))) _ _ ht
            refine ⟨F8, ps ++ [(U, .slice a6 l6 c6)], i8.touch hs (fun q hq hm => by simp at hq; subst hq; exact (hin8 q hm).elim (fun h => by have := hFw q h; omega) (fun h => by omega)) (Blind.new HI.out.1.see.1 (fun q hq => by simp at hq; omega)), m8.touch hs (by simp; omega), by rw [List.length_append, hpl]; rfl, by rw [List.map_append, hpm, take_next hTj]; rfl, hLp, fun q hq => hstay _ _ ?_, ?_, hin8, (((hx58.far (by omega)).far (by omega)).far (by omega)).far (by omega), (((hx88.far (by omega)).far (by omega)).far (by omega)).far (by omega)⟩
            · rcases List.mem_append.1 hq with hq | hq
              · refine TmV.stay (Stays.hide (Nat.le_trans hb5s t8.size) fun q hq hd => ?_) _ _ (hpT _ hq)
                obtain ⟨h1, h2⟩ := newU_false.1 hd
                refine ⟨newU_false.2 ⟨h1, fun hm => (in8 q hm).elim h2 (fun h => by omega)⟩, (t8.block q (by omega) (fun hm => ?_)).trans (b5.block q hq)⟩
                rcases List.mem_cons.1 hm with e | hm
                · omega
                · exact h2 hm
              · rw [List.mem_singleton] at hq
                subst hq
                rw [← hpv]
                exact TmV.stay (Stays.less fun q hq => by obtain ⟨h1, h2⟩ := newU_false.1 hq; exact newU_false.2 ⟨by omega, h2⟩) _ _ hT8
            · have t2 : Touch (mb :: F) w w8 := (htc.trans (Touch.of_below b5 (mb :: F)) (fun q hq => Or.inl hq)).trans t8 (fun q hq => by
                rcases List.mem_cons.1 hq with e | hq
                · exact Or.inl (by simp [e])
                · exact (hF' q hq).elim (fun h => Or.inl (List.mem_cons_of_mem _ h)) (fun h => Or.inr (by omega)))
              exact t2.trans hs (fun q hq => by simp at hq; exact Or.inr (by omega)))
          clear hib hpl hpm hLy hpT htc hF' hx5 hx8 hTj b5 hmF' hLy8 hx58 hx88 hFw hnF' i8 m8 hT8 t8 in8 hpv hpc C g0 g1 g2 g3 y0 y1 y2 y3
          go_wp2
          go_roundw
          case rel => exact ⟨j + 1, by omega, by go_num, HN⟩
          case measure => simp [intOf]; omega
        · have hjm2 : j = m := by omega
          subst hjm2
          obtain ⟨F', ps, hib, hnm, hpl, hpm, hLy, hpT, htc, hF', hx5, hx8⟩ := HP.out
          obtain ⟨x0, x1, x2, x3, xf⟩ := hx5.four
          have hx8' := hx8.far (c := w.heap.size) (k := 3) (u := .slice (some ⟨lb, 0, none⟩) j j) (by omega)
          obtain ⟨y0, y1, y2, y3, yf⟩ := hx8'.four
          have HEND := Lib.hid HP.out
          clear hib hnm hpl hpm hLy hpT htc hF' hx5 hx8 hx8' HP
          go_wp2
          refine bodyPost_ret (v := .agg #[.int .i64 k, .int .i64 n, .string s, .slice (some ⟨lb, 0, none⟩) j j]) (by rw [results_cell1 rfl]; go_simp) rfl ?_
          clear x0 x1 x2 x3 xf y0 y1 y2 y3 yf
          obtain ⟨F', ps, hib, hnm, hpl, hpm, hLy, hpT, htc, hF', hx5, hx8⟩ := HEND.out
          have htk : ts.take j = ts := List.take_of_length_le (by rw [HM.out]; exact Nat.le_refl _)
          have htk2 : Ts.take j = Ts := List.take_of_length_le (by rw [HTS.out.2]; exact Nat.le_refl _)
          rw [htk] at hib hnm
          rw [htk2] at hpm
          have hFw : ∀ k ∈ F, k < w.heap.size := HI.out.1.lt
          have hs1 := touch_one wr w.heap.size 3 (.slice (some ⟨lb, 0, none⟩) j j)
          have hs2 := touch_set4 (wr.setCell ⟨w.heap.size, 3, none⟩ (.slice (some ⟨lb, 0, none⟩) j j)) (w.heap.size + 1) (.int .i64 k) (.int .i64 n) (.string s) (.slice (some ⟨lb, 0, none⟩) j j)
          have hs := (hs1.sub (F' := [w.heap.size, w.heap.size + 1]) (fun k hk => by simp at hk; simp [hk])).trans (hs2.sub (F' := [w.heap.size, w.heap.size + 1]) (fun k hk => by simp at hk; simp [hk])) (fun k hk => Or.inl hk)
          refine ⟨F', _, rfl, hib.touch hs (fun q hq hm => ?_) (Blind.new HI.out.1.see.1 (fun q hq => by simp at hq; omega)), hnm.touch hs (by simp; omega), ?_, htc.trans hs (fun q hq => by simp at hq; exact Or.inr (by omega)), fun q hq => (hF' q hq).imp id (fun h => by omega)⟩
          · simp at hq
            exact (hF' q hm).elim (fun h => by have := hFw q h; omega) (fun h => by omega)
          · refine tmV_iff.2 ⟨_, rfl, HYB.out.1, HYB.out.2.1, HYB.out.2.2, ?_⟩
            have hlf : newU F' lb lb = false := newU_false.2 ⟨Nat.le_refl _, fun hm => (hF' lb hm).elim (fun h => by have := hFw lb h; omega) (fun h => by omega)⟩
            have h1 := hLy.out (D := newU F' lb) hpl hlf (fun q hq => TmV.stay (Stays.less fun k hk => by obtain ⟨h1, h2⟩ := newU_false.1 hk; exact newU_false.2 ⟨by omega, h2⟩) _ _ (hpT q hq)) (by unfold BIG; omega)
            rw [hpm] at h1
            have hd0 : newU F' lb w.heap.size = true := by unfold newU; simp; omega
            have hd1 : newU F' lb (w.heap.size + 1) = true := by unfold newU; simp; omega
            have h2 := h1.stay (((((Stays.set (D := newU F' lb) ⟨w.heap.size, 3, none⟩ (.slice (some ⟨lb, 0, none⟩) j j) hd0).trans (Stays.set ⟨w.heap.size + 1, 0, none⟩ (.int .i64 k) hd1)).trans (Stays.set ⟨w.heap.size + 1, 1, none⟩ (.int .i64 n) hd1)).trans (Stays.set ⟨w.heap.size + 1, 2, none⟩ (.string s) hd1)).trans (Stays.set ⟨w.heap.size + 1, 3, none⟩ (.slice (some ⟨lb, 0, none⟩) j j) hd1))
            exact h2.stay (Stays.less fun q hq => by obtain ⟨h1, h2⟩ := newU_false.1 hq; exact newU_false.2 ⟨by omega, h2⟩)
end Go.Proofs.Ytbbbgijlbcmpbaa
/- Package unify: what Could carries from call to call. -/
namespace Go.Proofs.Ytbbbgijlbcmpbaa
open Go.RowKit Go.Maps
set_option linter.unusedVariables false

/-- Binds with so many variables beside two boxes and empty maps of names. -/
def CB (w : World) (p : Value) (N : Nat) (xs ys : List Value) (ms : List (Nat × Nat)) (F : List Nat) (wq : World) : Prop :=
  IsB w F wq p N [] ∧ (∀ k ∈ F, w.heap.size + 2 ≤ k) ∧ Below w.heap.size w wq ∧ Box wq w.heap.size xs ∧ Box wq (w.heap.size + 1) ys ∧ ∀ q ∈ ms, NamedM wq q.1 q.2 [] ∧ w.heap.size + 2 ≤ q.1 ∧ ¬ q.1 ∈ F
section
variable {w wq w' : World} {p : Value} {N : Nat} {xs ys : List Value} {ms : List (Nat × Nat)} {F : List Nat}
theorem CB.bel (h : CB w p N xs ys ms F wq) : Below w.heap.size w wq := h.2.2.1
theorem CB.ext (h : CB w p N xs ys ms F wq) (hb : Below wq.heap.size wq w') : CB w p N xs ys ms F w' := by
  obtain ⟨h1, h2, h3, h4, h5, h6⟩ := h
  exact ⟨h1.ext hb, h2, Ext.trans' h3 hb, h4.ext hb, h5.ext hb, fun q hq => ⟨(h6 q hq).1.ext hb, (h6 q hq).2⟩⟩
theorem CB.map (h : CB w p N xs ys ms F wq) (N0 : Nat) (hz : w.heap.size + 2 ≤ wq.heap.size) : CB w p N xs ys ((wq.heap.size, N0) :: ms) F (wq.alloc (.map #[] 0)) := by
  obtain ⟨h1, h2, h3, h4, h5, h6⟩ := h.ext (bel1' wq (.map #[] 0))
  have hlt := h.1.lt
  refine ⟨h1, h2, h3, h4, h5, fun q hq => ?_⟩
  rcases List.mem_cons.1 hq with rfl | hq
  · exact ⟨NamedM.nil wq N0, hz, fun hm => by have := hlt _ hm; simp at this⟩
  · exact h6 q hq
theorem CB.apart {N0 mb : Nat} (h : CB w p N0 xs ys ((mb, N0) :: ms) F wq) (hne : ∀ q ∈ ms, q.1 ≠ mb) {x : Tm} {v : Value} (hx : TmV w x v) (hf : formedT x = true) {K : Nat} (hK : N0 + (varsT x []).length = K) (hK2 : K ≤ 65536) :
    Calls Try.prog 83 #[p, v, .map (some mb)] wq fun e w' => ∃ F' v', e = .returned v' ∧ CB w p K xs ys ms F' w' ∧ TmV (hide (newU F' wq.heap.size) w') (renT N0 x) v' ∧ Touch (mb :: F) wq w' ∧ ∀ k ∈ F', k ∈ F ∨ wq.heap.size ≤ k := by
  obtain ⟨h1, h2, h3, h4, h5, h6⟩ := h
  obtain ⟨hm, hmw, hmF⟩ := h6 (mb, N0) (by simp)
  refine (apart_at w _ x (Nat.le_refl _) hf (varsT x []) [] (List.prefix_refl _) N0 (by omega) wq F p mb v (by simpa using h1) hm hmF (Blind.new (Stays.refl w) (fun k hk => by simp at hk; simp at hmw; omega)) hx).mono ?_
  rintro e w' ⟨F', v', rfl, i, n, t, tt, hin⟩
  rw [hK] at i
  have hq : w.heap.size ≤ wq.heap.size := h3.size
  have hlt5 := h5.lt
  have hF0 : ∀ k ∈ (mb :: F), w.heap.size + 2 ≤ k := fun k hk => by
    rcases List.mem_cons.1 hk with e | hk
    · subst e; exact hmw
    · exact h2 k hk
  refine ⟨F', v', rfl, ⟨i, fun k hk => (hin k hk).elim (h2 k) (fun h => by omega), Below.trans h3 (tt.below hq (fun k hk => by have := hF0 k hk; omega)), tt.box (fun hm => by have := hF0 _ hm; omega) h4, tt.box (fun hm => by have := hF0 _ hm; omega) h5, fun q hq => ?_⟩, t, tt, hin⟩
  obtain ⟨k1, k2, k3⟩ := h6 q (List.mem_cons_of_mem _ hq)
  exact ⟨k1.touch tt (fun hm => by
    rcases List.mem_cons.1 hm with e | hm
    · exact hne q hq e
    · exact k3 hm), k2, fun hm => (hin _ hm).elim k3 (fun h => by have := k1.lt; omega)⟩
/-- A term made apart, later: its blocks are not turned. -/
theorem apart_later {n : Nat} {F F8 : List Nat} {mb : Nat} {w6 w7 w8 : World} {T : Tm} {v : Value} (ht : TmV (hide (newU F n) w6) T v) (hb : Below w6.heap.size w6 w7) (hmb : mb < n ∨ w6.heap.size ≤ mb) (t : Touch (mb :: F) w7 w8) (hin : ∀ k ∈ F8, k ∈ F ∨ w7.heap.size ≤ k) : TmV (hide (awayB F8) w8) T v := by
  refine TmV.stay (Stays.hide (Nat.le_trans hb.size t.size) fun k hk hd => ?_) _ _ ht
  obtain ⟨h1, h2⟩ := newU_false.1 hd
  have hs := hb.size
  refine ⟨by simp only [awayB, decide_eq_false_iff_not]; exact fun hm => (hin k hm).elim h2 (fun h => by omega), (t.block k (by omega) (fun hm => ?_)).trans (hb.block k hk)⟩
  rcases List.mem_cons.1 hm with e | hm
  · omega
  · exact h2 hm
theorem CB.both (h : CB w p N xs ys ms F wq) {x y : Tm} {vx vy : Value} (hx : TmV (hide (awayB F) wq) x vx) (hy : TmV (hide (awayB F) wq) y vy) :
    Calls Try.prog 42 #[p, vx, vy] wq fun e w' => e = .returned (.tuple #[.bool (bothB N [] x y).ok, .int .i64 (bothB N [] x y).cost, .int .i64 (bothB N [] x y).err]) ∧ Below w.heap.size w w' ∧ Box w' w.heap.size xs ∧ Box w' (w.heap.size + 1) ys := by
  refine (Both_at (S := []) h.1.rebase trivial hx hy).mono ?_
  rintro e w' ⟨F', R', rfl, _, _, t, _⟩
  exact ⟨rfl, Below.trans h.bel (t.below h.bel.size (fun k hk => by have := h.2.1 k hk; omega)), t.box (fun hm => by have := h.2.1 _ hm; omega) h.2.2.2.1, t.box (fun hm => by have := h.2.1 _ hm; omega) h.2.2.2.2.1⟩
theorem CB.swap {q1 q2 : Nat × Nat} (h : CB w p N xs ys [q1, q2] F wq) : CB w p N xs ys [q2, q1] F wq :=
  ⟨h.1, h.2.1, h.2.2.1, h.2.2.2.1, h.2.2.2.2.1, fun q hq => h.2.2.2.2.2 q (by simp at hq ⊢; rcases hq with e | e <;> simp [e])⟩
end
end Go.Proofs.Ytbbbgijlbcmpbaa
