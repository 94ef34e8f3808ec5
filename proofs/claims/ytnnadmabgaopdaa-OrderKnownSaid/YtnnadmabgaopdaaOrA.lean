/- Stage 10's laws: awake. -/
import Derived.Test.YtnnadmabgaopdaaOr3
import Derived.Test.YtnnadmabgaopdaaLaid
namespace Go.Proofs.Ytnnadmabgaopdaa
open Go.RowKit
set_option linter.unusedVariables false

def awO : List Tm := [.mk 0 0 ⟨#[]⟩ [], .mk 1 7 ⟨#[]⟩ [], .mk 2 0 ⟨#[97]⟩ [], .mk 2 0 ⟨#[102]⟩ [.mk 2 0 ⟨#[97]⟩ []]]
def stepO (i : Nat) : Bool := match awO[i]?, awO[i + 1]? with
  | some x, some y => cmpG x y == -1 && cmpG y x == 1
  | _, _ => false
theorem aw_steps : ∀ i, i < 3 → stepO i = true := by
  have h : ((List.range 3).all stepO) = true := by decide +kernel
  intro i hi
  exact List.all_eq_true.1 h i (List.mem_range.2 hi)
theorem aw_last : cmpG (.mk 2 0 ⟨#[102]⟩ [.mk 2 0 ⟨#[97]⟩ []]) (.mk 2 0 ⟨#[102]⟩ [.mk 2 0 ⟨#[97]⟩ []]) = 0 := by decide +kernel
theorem aw_step {i : Nat} {x y : Tm} (hi : i < 3) (hx : awO[i]? = some x) (hy : awO[i + 1]? = some y) : cmpG x y = -1 ∧ cmpG y x = 1 := by
  have h := aw_steps i hi
  unfold stepO at h
  rw [hx, hy] at h
  simpa using h
theorem b97 : (⟨#[97]⟩ : ByteArray).size ≤ BIG := by unfold BIG; decide
theorem b102 : (⟨#[102]⟩ : ByteArray).size ≤ BIG := by unfold BIG; decide
theorem b00 : (⟨#[]⟩ : ByteArray).size ≤ BIG := by unfold BIG; decide
theorem i64_7 : I64 7 := by unfold I64; omega
set_option maxHeartbeats 8000000 in
set_option maxRecDepth 100000 in
theorem oawake_at (w : World) : Calls Try.prog 7 #[] w fun e w' => e = .returned (.bool true) ∧ Below w.heap.size w w' := by
  have C1 := Lib.hid (fun w1 : World => comp_at (w := w1.alloc (.cells #[.int .i64 2, .int .i64 0, .string ⟨#[97]⟩, .slice none 0 0] 25)) (v := .slice (some ⟨w1.heap.size, 0, none⟩) 1 1) (l := [.mk 2 0 ⟨#[97]⟩ []]) ⟨#[102]⟩ b102
    (laidT_tms [(.mk 2 0 ⟨#[97]⟩ [], .slice none 0 0)] rfl (fun p hp => by simp at hp; subst hp; exact leaf_tm _ i64_2 i64_0 b97) (by unfold BIG; simp) rfl rfl))
  go_enter Try.func7, Try.ntmps7
  (go_wp2_with fail; go_fit (var_at _ _); rintro e w1 ⟨rfl, b1⟩)
  (go_wp2_with fail; go_fit (int_at _ _); rintro e w2 ⟨rfl, b2⟩)
  (go_wp2_with fail; go_fit (atom_at _ _); rintro e w3 ⟨rfl, b3⟩)
  (go_wp2_with fail; go_fit (atom_at _ _); rintro e w4 ⟨rfl, b4⟩)
  have B4 := Lib.hid (Ext.trans' b1 (Ext.trans' b2 (Ext.trans' b3 b4)))
  clear b1 b2 b3 b4
  (go_wp2_with fail; go_fit (C1.out _); rintro e w5 ⟨a5, c5, rfl, h5, b5⟩)
  have B5 := Lib.hid (Ext.trans' B4.out (Ext.trans' (bel1' _ _) b5))
  have H5 := Lib.hid h5
  clear h5 b5 B4 C1
  have hu5 : Value.slice a5 [Tm.mk 2 0 ⟨#[97]⟩ []].length c5 = .slice a5 1 c5 := rfl
  rw [hu5] at H5
  have hb6 : Below w.heap.size w (w5.alloc (.cells #[.int .i64 0, .int .i64 0, .string ⟨#[]⟩, .slice none 0 0, .int .i64 1, .int .i64 7, .string ⟨#[]⟩, .slice none 0 0, .int .i64 2, .int .i64 0, .string ⟨#[97]⟩, .slice none 0 0, .int .i64 2, .int .i64 0, .string ⟨#[102]⟩, .slice a5 1 c5] 25)) := Ext.trans' B5.out (bel1' w5 _)
  have T6 : Tms (w5.alloc (.cells #[.int .i64 0, .int .i64 0, .string ⟨#[]⟩, .slice none 0 0, .int .i64 1, .int .i64 7, .string ⟨#[]⟩, .slice none 0 0, .int .i64 2, .int .i64 0, .string ⟨#[97]⟩, .slice none 0 0, .int .i64 2, .int .i64 0, .string ⟨#[102]⟩, .slice a5 1 c5] 25)) (.slice (some ⟨w5.heap.size, 0, none⟩) 4 4) awO :=
    laidT_tms [(.mk 0 0 ⟨#[]⟩ [], .slice none 0 0), (.mk 1 7 ⟨#[]⟩ [], .slice none 0 0), (.mk 2 0 ⟨#[97]⟩ [], .slice none 0 0), (.mk 2 0 ⟨#[102]⟩ [.mk 2 0 ⟨#[97]⟩ []], .slice a5 1 c5)] rfl (fun p hp => by
      simp only [List.mem_cons, List.not_mem_nil, or_false] at hp
      rcases hp with rfl | rfl | rfl | rfl
      · exact leaf_tm _ i64_0 i64_0 b00
      · exact leaf_tm _ i64_1 i64_7 b00
      · exact leaf_tm _ i64_2 i64_0 b97
      · exact TmV.ext (bel1' w5 _) _ _ H5.out) (by unfold BIG; simp) rfl rfl
  obtain ⟨w6, hw6⟩ : ∃ w6, (w5.alloc (.cells #[.int .i64 0, .int .i64 0, .string ⟨#[]⟩, .slice none 0 0, .int .i64 1, .int .i64 7, .string ⟨#[]⟩, .slice none 0 0, .int .i64 2, .int .i64 0, .string ⟨#[97]⟩, .slice none 0 0, .int .i64 2, .int .i64 0, .string ⟨#[102]⟩, .slice a5 1 c5] 25)) = w6 := ⟨_, rfl⟩
  obtain ⟨B, hB⟩ : ∃ B, w5.heap.size = B := ⟨_, rfl⟩
  rw [hw6] at hb6 T6
  rw [hB] at T6
  have HB6 := Lib.hid hb6
  have HT6 := Lib.hid T6
  clear hb6 T6 hu5
  go_wp2_with fail
  (try rw [hw6])
  (try rw [hB])
  clear hw6 hB
  go_loopw [2] (fun z wr => ∃ i : Nat, i ≤ 3 ∧ z = .int .i64 i ∧ Hid (Below w6.heap.size w6 wr)) (fun z _ => 3 - (intOf z).toNat)
  case atStart => exact ⟨0, by omega, rfl, Lib.hid (Below.refl _ _)⟩
  case round =>
    obtain ⟨i, hi, rfl, HB⟩ := hrel
    obtain ⟨q, hq⟩ : ∃ q : Nat, i + 1 = q := ⟨_, rfl⟩
    have HQ := Lib.hid hq
    have hw1 : IntKind.i64.wrap ((i : Int) + 1) = (q : Int) := by rw [IntKind.wrap_i64]; omega
    by_cases hi3 : i < 3
    · obtain ⟨x, hx⟩ : ∃ x, awO[i]? = some x := ⟨_, List.getElem?_eq_getElem (by show i < 4; omega)⟩
      obtain ⟨y, hy⟩ : ∃ x, awO[q]? = some x := ⟨_, List.getElem?_eq_getElem (by show q < 4; omega)⟩
      have hst := aw_step hi3 hx (by rw [hq]; exact hy)
      obtain ⟨b, off, k1, n1, s1, u1, hbe, hbb, _, _, _, c0, c1, c2, c3, htu, ht⟩ := (HT6.out.ext HB.out).get hx
      obtain ⟨b', off', k2, n2, s2, u2, hbe', hbb', _, _, _, d0, d1, d2, d3, htu', ht'⟩ := (HT6.out.ext HB.out).get hy
      cases hbe
      cases hbe'
      simp only [Nat.zero_add] at c0 c1 c2 c3 d0 d1 d2 d3
      have P1 := Lib.hid (fun (wq : World) (hq : Below wr.heap.size wr wq) => Cmp_at (TmV.ext hq _ _ ht) (TmV.ext hq _ _ ht'))
      have P2 := Lib.hid (fun (wq : World) (hq : Below wr.heap.size wr wq) => Cmp_at (TmV.ext hq _ _ ht') (TmV.ext hq _ _ ht))
      obtain ⟨z1, hz1⟩ : ∃ z, cmpG x y = z := ⟨_, rfl⟩
      obtain ⟨z2, hz2⟩ : ∃ z, cmpG y x = z := ⟨_, rfl⟩
      have hn1 : (z1 != -1) = false := by rw [← hz1, hst.1]; rfl
      have hn2 : (z2 != 1) = false := by rw [← hz2, hst.2]; rfl
      rw [hz1] at P1
      rw [hz2] at P2
      have hq0 : (q : Int) < 4 := by omega
      have hi0 : (i : Int) < 4 := by omega
      clear htu htu' ht ht' hx hy hst hq hz1 hz2
      go_wp2_with fail
      (refine wp_region_class (fun w' => (w'.cell? ⟨B, i * 4, none⟩ = some (.int .i64 k1) ∧ w'.cell? ⟨B, i * 4 + 1, none⟩ = some (.int .i64 n1) ∧ w'.cell? ⟨B, i * 4 + 2, none⟩ = some (.string s1) ∧ w'.cell? ⟨B, i * 4 + 3, none⟩ = some u1 ∧ w'.cell? ⟨B, q * 4, none⟩ = some (.int .i64 k2) ∧ w'.cell? ⟨B, q * 4 + 1, none⟩ = some (.int .i64 n2) ∧ w'.cell? ⟨B, q * 4 + 2, none⟩ = some (.string s2) ∧ w'.cell? ⟨B, q * 4 + 3, none⟩ = some u2) ∧ Below wr.heap.size wr w') (by kernel_rfl) (by kernel_rfl) (⟨⟨c0, c1, c2, c3, d0, d1, d2, d3⟩, (Below.refl _ _).drew⟩) ?_; (repeat (first | go_big_quiet_skip | (go_big_quiet_want; refine quiet_of ?_; apply Exists.intro; refine ⟨fun wq hq => ?_, ?_⟩; (focus ((try dsimp only at hq); go_simp; (first | done | with_reducible rfl | (first | (go_at_call_of 12 (#[Value.agg #[.int .i64 k1, .int .i64 n1, .string s1, u1], Value.agg #[.int .i64 k2, .int .i64 n2, .string s2, u2]]); refine (P1.out wq hq.2).mono ?_; rintro e w6 ⟨rfl, h6⟩; exact ⟨rfl, ⟨cell_later h6 hq.1.1, cell_later h6 hq.1.2.1, cell_later h6 hq.1.2.2.1, cell_later h6 hq.1.2.2.2.1, cell_later h6 hq.1.2.2.2.2.1, cell_later h6 hq.1.2.2.2.2.2.1, cell_later h6 hq.1.2.2.2.2.2.2.1, cell_later h6 hq.1.2.2.2.2.2.2.2⟩, Below.trans hq.2 (h6.mono hq.2.size)⟩) | (go_at_call_of 12 (#[Value.agg #[.int .i64 k2, .int .i64 n2, .string s2, u2], Value.agg #[.int .i64 k1, .int .i64 n1, .string s1, u1]]); refine (P2.out wq hq.2).mono ?_; rintro e w6 ⟨rfl, h6⟩; exact ⟨rfl, ⟨cell_later h6 hq.1.1, cell_later h6 hq.1.2.1, cell_later h6 hq.1.2.2.1, cell_later h6 hq.1.2.2.2.1, cell_later h6 hq.1.2.2.2.2.1, cell_later h6 hq.1.2.2.2.2.2.1, cell_later h6 hq.1.2.2.2.2.2.2.1, cell_later h6 hq.1.2.2.2.2.2.2.2⟩, Below.trans hq.2 (h6.mono hq.2.size)⟩) | fail) | fail))); try simp only [Act.put, List.setIfInBounds_toArray, List.set_cons_zero, List.set_cons_succ]; go_big_quiet_on) | fail)); refine wpQuiet_nil ?_; intro wz hz)
      have HBz := Lib.hid (Ext.trans' HB.out hz.2)
      clear hz
      go_wp2
      go_roundw
      case rel => exact ⟨q, by omega, rfl, HBz⟩
      case measure => have := HQ.out; simp [intOf]; omega
    · have hq4 : ¬ (q : Int) < 4 := by omega
      obtain ⟨b, off, k1, n1, s1, u1, hbe, hbb, _, _, _, c0, c1, c2, c3, htu, ht⟩ := (HT6.out.ext HB.out).get (i := 3) (x := .mk 2 0 ⟨#[102]⟩ [.mk 2 0 ⟨#[97]⟩ []]) rfl
      cases hbe
      simp only [Nat.zero_add, Nat.reduceMul, Nat.reduceAdd] at c0 c1 c2 c3
      have P1 := Lib.hid (fun (wq : World) (hq : Below wr.heap.size wr wq) => Cmp_at (TmV.ext hq _ _ ht) (TmV.ext hq _ _ ht))
      rw [aw_last] at P1
      have HBr := Lib.hid (Ext.trans' HB6.out HB.out)
      clear htu ht hq
      go_wp2_with fail
      (refine wp_region_class (fun w' => (w'.cell? ⟨B, 12, none⟩ = some (.int .i64 k1) ∧ w'.cell? ⟨B, 13, none⟩ = some (.int .i64 n1) ∧ w'.cell? ⟨B, 14, none⟩ = some (.string s1) ∧ w'.cell? ⟨B, 15, none⟩ = some u1) ∧ Below wr.heap.size wr w') (by kernel_rfl) (by kernel_rfl) (⟨⟨c0, c1, c2, c3⟩, (Below.refl _ _).drew⟩) ?_; (repeat (first | go_big_quiet_skip | (go_big_quiet_want; refine quiet_of ?_; apply Exists.intro; refine ⟨fun wq hq => ?_, ?_⟩; (focus ((try dsimp only at hq); go_simp; (first | done | with_reducible rfl | ((go_at_call 12; refine (P1.out wq hq.2).mono ?_; rintro e w6 ⟨rfl, h6⟩; exact ⟨rfl, ⟨cell_later h6 hq.1.1, cell_later h6 hq.1.2.1, cell_later h6 hq.1.2.2.1, cell_later h6 hq.1.2.2.2⟩, Below.trans hq.2 (h6.mono hq.2.size)⟩)) | fail))); try simp only [Act.put, List.setIfInBounds_toArray, List.set_cons_zero, List.set_cons_succ]; go_big_quiet_on) | fail)); refine wpQuiet_nil ?_; intro wz hz)
      have HBz := Lib.hid (Ext.trans' HBr.out hz.2)
      clear hz
      go_wp2
      go_ret
      exact ⟨rfl, HBz.out⟩
end Go.Proofs.Ytnnadmabgaopdaa
