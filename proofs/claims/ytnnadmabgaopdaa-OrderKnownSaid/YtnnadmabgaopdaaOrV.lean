/- OrderKnown walked. (gen_orknown.py) -/
import Derived.Test.YtnnadmabgaopdaaOrS
namespace Go.Proofs.Ytnnadmabgaopdaa
open Go.RowKit
set_option linter.unusedVariables false

def okR : List Tm := [.mk 0 2 ⟨#[]⟩ [], .mk 0 10 ⟨#[]⟩ [], .mk 1 (-5) ⟨#[]⟩ [], .mk 1 3 ⟨#[]⟩ [], .mk 2 0 ⟨#[]⟩ [], .mk 2 0 ⟨#[90]⟩ [], .mk 2 0 ⟨#[97]⟩ [], .mk 2 0 ⟨#[97, 98]⟩ [], .mk 2 0 ⟨#[122]⟩ [.mk 1 9 ⟨#[]⟩ []], .mk 2 0 ⟨#[97]⟩ [.mk 1 1 ⟨#[]⟩ [], .mk 1 2 ⟨#[]⟩ []], .mk 2 0 ⟨#[97]⟩ [.mk 1 1 ⟨#[]⟩ [], .mk 1 3 ⟨#[]⟩ []], .mk 2 0 ⟨#[98]⟩ [.mk 1 0 ⟨#[]⟩ [], .mk 1 0 ⟨#[]⟩ []]]
def okAll : Bool := (List.range 12).all fun i => (List.range 12).all fun k => match okR[i]?, okR[k]? with
  | some x, some y => cmpG x y == cmpI i k
  | _, _ => false
theorem ok_all : okAll = true := by decide +kernel
theorem ok_at {i k : Nat} {x y : Tm} (hi : i < 12) (hk : k < 12) (hx : okR[i]? = some x) (hy : okR[k]? = some y) : cmpG x y = cmpI i k := by
  have h := List.all_eq_true.1 (List.all_eq_true.1 ok_all i (List.mem_range.2 hi)) k (List.mem_range.2 hk)
  rw [hx, hy] at h
  simpa using h
theorem ok_t1 : testG (⟨#[61]⟩ : ByteArray).toList (.mk 0 2 ⟨#[]⟩ []) (.mk 0 10 ⟨#[]⟩ []) = (false, 1) := by decide +kernel
theorem ok_t2 : testG (⟨#[64, 61, 60]⟩ : ByteArray).toList (.mk 0 2 ⟨#[]⟩ []) (.mk 0 2 ⟨#[]⟩ []) = (true, 0) := by decide +kernel
theorem ok_t3 : testG (⟨#[61, 61]⟩ : ByteArray).toList (.mk 5 0 ⟨#[]⟩ []) (.mk 0 2 ⟨#[]⟩ []) = (false, 1) := by decide +kernel
theorem ok_c : cmpG (.mk 5 0 ⟨#[]⟩ []) (.mk 0 2 ⟨#[]⟩ []) = 0 := by decide +kernel
theorem i64_of {n : Int} (h : -9223372036854775808 ≤ n) (h' : n ≤ 9223372036854775807) : I64 n := ⟨h, h'⟩
theorem one_tms (w : World) (n : Int) (hn : I64 n) : Tms (w.alloc (.cells #[.int .i64 1, .int .i64 n, .string ⟨#[]⟩, .slice none 0 0] 25)) (.slice (some ⟨w.heap.size, 0, none⟩) 1 1) [.mk 1 n ⟨#[]⟩ []] :=
  laidT_tms [(.mk 1 n ⟨#[]⟩ [], .slice none 0 0)] rfl (fun p hp => by simp at hp; subst hp; exact leaf_tm _ i64_1 hn b00) (by unfold BIG; simp) rfl rfl
theorem two_tms (w : World) (n n' : Int) (hn : I64 n) (hn' : I64 n') : Tms (w.alloc (.cells #[.int .i64 1, .int .i64 n, .string ⟨#[]⟩, .slice none 0 0, .int .i64 1, .int .i64 n', .string ⟨#[]⟩, .slice none 0 0] 25)) (.slice (some ⟨w.heap.size, 0, none⟩) 2 2) [.mk 1 n ⟨#[]⟩ [], .mk 1 n' ⟨#[]⟩ []] :=
  laidT_tms [(.mk 1 n ⟨#[]⟩ [], .slice none 0 0), (.mk 1 n' ⟨#[]⟩ [], .slice none 0 0)] rfl (fun p hp => by
    simp only [List.mem_cons, List.not_mem_nil, or_false] at hp
    rcases hp with rfl | rfl
    · exact leaf_tm _ i64_1 hn b00
    · exact leaf_tm _ i64_1 hn' b00) (by unfold BIG; simp) rfl rfl
theorem bsz {b : ByteArray} (h : b.size ≤ 64) : b.size ≤ BIG := by unfold BIG; omega
set_option maxHeartbeats 16000000 in
set_option maxRecDepth 100000 in
theorem oknown_walk {W : World} : Calls Try.prog 3 #[] W fun e w' => IsBool W true e w' := by
  have C0 := Lib.hid (fun w1 : World => comp_at (w := w1.alloc (.cells #[.int .i64 1, .int .i64 9, .string ⟨#[]⟩, .slice none 0 0] 25)) (v := .slice (some ⟨w1.heap.size, 0, none⟩) 1 1) (l := [.mk 1 9 ⟨#[]⟩ []]) ⟨#[122]⟩ (bsz (by decide)) (one_tms w1 9 (i64_of (by omega) (by omega))))
  have C1 := Lib.hid (fun w1 : World => comp_at (w := w1.alloc (.cells #[.int .i64 1, .int .i64 1, .string ⟨#[]⟩, .slice none 0 0, .int .i64 1, .int .i64 2, .string ⟨#[]⟩, .slice none 0 0] 25)) (v := .slice (some ⟨w1.heap.size, 0, none⟩) 2 2) (l := [.mk 1 1 ⟨#[]⟩ [], .mk 1 2 ⟨#[]⟩ []]) ⟨#[97]⟩ (bsz (by decide)) (two_tms w1 1 2 (i64_of (by omega) (by omega)) (i64_of (by omega) (by omega))))
  have C2 := Lib.hid (fun w1 : World => comp_at (w := w1.alloc (.cells #[.int .i64 1, .int .i64 1, .string ⟨#[]⟩, .slice none 0 0, .int .i64 1, .int .i64 3, .string ⟨#[]⟩, .slice none 0 0] 25)) (v := .slice (some ⟨w1.heap.size, 0, none⟩) 2 2) (l := [.mk 1 1 ⟨#[]⟩ [], .mk 1 3 ⟨#[]⟩ []]) ⟨#[97]⟩ (bsz (by decide)) (two_tms w1 1 3 (i64_of (by omega) (by omega)) (i64_of (by omega) (by omega))))
  have C3 := Lib.hid (fun w1 : World => comp_at (w := w1.alloc (.cells #[.int .i64 1, .int .i64 0, .string ⟨#[]⟩, .slice none 0 0, .int .i64 1, .int .i64 0, .string ⟨#[]⟩, .slice none 0 0] 25)) (v := .slice (some ⟨w1.heap.size, 0, none⟩) 2 2) (l := [.mk 1 0 ⟨#[]⟩ [], .mk 1 0 ⟨#[]⟩ []]) ⟨#[98]⟩ (bsz (by decide)) (two_tms w1 0 0 (i64_of (by omega) (by omega)) (i64_of (by omega) (by omega))))
  go_enter Try.func3, Try.ntmps3
  (go_wp2_with fail; go_fit (oawake_at _); rintro e w0 ⟨rfl, b0⟩)
  have B := Lib.hid b0
  clear b0
  (go_wp2_with fail; go_fit (var_at _ _); rintro e wg1 ⟨rfl, bg⟩)
  have B := Lib.hid (Ext.trans' B.out bg)
  clear bg
  (go_wp2_with fail; go_fit (var_at _ _); rintro e wg2 ⟨rfl, bg⟩)
  have B := Lib.hid (Ext.trans' B.out bg)
  clear bg
  (go_wp2_with fail; go_fit (int_at _ _); rintro e wg3 ⟨rfl, bg⟩)
  have B := Lib.hid (Ext.trans' B.out bg)
  clear bg
  (go_wp2_with fail; go_fit (int_at _ _); rintro e wg4 ⟨rfl, bg⟩)
  have B := Lib.hid (Ext.trans' B.out bg)
  clear bg
  (go_wp2_with fail; go_fit (atom_at _ _); rintro e wg5 ⟨rfl, bg⟩)
  have B := Lib.hid (Ext.trans' B.out bg)
  clear bg
  (go_wp2_with fail; go_fit (atom_at _ _); rintro e wg6 ⟨rfl, bg⟩)
  have B := Lib.hid (Ext.trans' B.out bg)
  clear bg
  (go_wp2_with fail; go_fit (atom_at _ _); rintro e wg7 ⟨rfl, bg⟩)
  have B := Lib.hid (Ext.trans' B.out bg)
  clear bg
  (go_wp2_with fail; go_fit (atom_at _ _); rintro e wg8 ⟨rfl, bg⟩)
  have B := Lib.hid (Ext.trans' B.out bg)
  clear bg
  (go_wp2_with fail; go_fit (int_at _ _); rintro e wg9 ⟨rfl, bg⟩)
  have B := Lib.hid (Ext.trans' B.out bg)
  clear bg
  (go_wp2_with fail; go_fit (C0.out _); rintro e wg10 ⟨a30, c30, rfl, hc0, bg⟩)
  have bg := Ext.trans' (bel1' _ _) bg
  have B := Lib.hid (Ext.trans' B.out bg)
  have HV0 : Hid (TmV wg10 (.mk 2 0 ⟨#[122]⟩ [.mk 1 9 ⟨#[]⟩ []]) (.agg #[.int .i64 2, .int .i64 0, .string ⟨#[122]⟩, .slice a30 1 c30])) := Lib.hid hc0
  clear bg hc0 C0
  (go_wp2_with fail; go_fit (int_at _ _); rintro e wg11 ⟨rfl, bg⟩)
  have B := Lib.hid (Ext.trans' B.out bg)
  have HV0 := Lib.hid (TmV.ext bg _ _ HV0.out)
  clear bg
  (go_wp2_with fail; go_fit (int_at _ _); rintro e wg12 ⟨rfl, bg⟩)
  have B := Lib.hid (Ext.trans' B.out bg)
  have HV0 := Lib.hid (TmV.ext bg _ _ HV0.out)
  clear bg
  (go_wp2_with fail; go_fit (C1.out _); rintro e wg13 ⟨a31, c31, rfl, hc1, bg⟩)
  have bg := Ext.trans' (bel1' _ _) bg
  have B := Lib.hid (Ext.trans' B.out bg)
  have HV0 := Lib.hid (TmV.ext bg _ _ HV0.out)
  have HV1 : Hid (TmV wg13 (.mk 2 0 ⟨#[97]⟩ [.mk 1 1 ⟨#[]⟩ [], .mk 1 2 ⟨#[]⟩ []]) (.agg #[.int .i64 2, .int .i64 0, .string ⟨#[97]⟩, .slice a31 2 c31])) := Lib.hid hc1
  clear bg hc1 C1
  (go_wp2_with fail; go_fit (int_at _ _); rintro e wg14 ⟨rfl, bg⟩)
  have B := Lib.hid (Ext.trans' B.out bg)
  have HV0 := Lib.hid (TmV.ext bg _ _ HV0.out)
  have HV1 := Lib.hid (TmV.ext bg _ _ HV1.out)
  clear bg
  (go_wp2_with fail; go_fit (int_at _ _); rintro e wg15 ⟨rfl, bg⟩)
  have B := Lib.hid (Ext.trans' B.out bg)
  have HV0 := Lib.hid (TmV.ext bg _ _ HV0.out)
  have HV1 := Lib.hid (TmV.ext bg _ _ HV1.out)
  clear bg
  (go_wp2_with fail; go_fit (C2.out _); rintro e wg16 ⟨a32, c32, rfl, hc2, bg⟩)
  have bg := Ext.trans' (bel1' _ _) bg
  have B := Lib.hid (Ext.trans' B.out bg)
  have HV0 := Lib.hid (TmV.ext bg _ _ HV0.out)
  have HV1 := Lib.hid (TmV.ext bg _ _ HV1.out)
  have HV2 : Hid (TmV wg16 (.mk 2 0 ⟨#[97]⟩ [.mk 1 1 ⟨#[]⟩ [], .mk 1 3 ⟨#[]⟩ []]) (.agg #[.int .i64 2, .int .i64 0, .string ⟨#[97]⟩, .slice a32 2 c32])) := Lib.hid hc2
  clear bg hc2 C2
  (go_wp2_with fail; go_fit (int_at _ _); rintro e wg17 ⟨rfl, bg⟩)
  have B := Lib.hid (Ext.trans' B.out bg)
  have HV0 := Lib.hid (TmV.ext bg _ _ HV0.out)
  have HV1 := Lib.hid (TmV.ext bg _ _ HV1.out)
  have HV2 := Lib.hid (TmV.ext bg _ _ HV2.out)
  clear bg
  (go_wp2_with fail; go_fit (int_at _ _); rintro e wg18 ⟨rfl, bg⟩)
  have B := Lib.hid (Ext.trans' B.out bg)
  have HV0 := Lib.hid (TmV.ext bg _ _ HV0.out)
  have HV1 := Lib.hid (TmV.ext bg _ _ HV1.out)
  have HV2 := Lib.hid (TmV.ext bg _ _ HV2.out)
  clear bg
  (go_wp2_with fail; go_fit (C3.out _); rintro e wg19 ⟨a33, c33, rfl, hc3, bg⟩)
  have bg := Ext.trans' (bel1' _ _) bg
  have B := Lib.hid (Ext.trans' B.out bg)
  have HV0 := Lib.hid (TmV.ext bg _ _ HV0.out)
  have HV1 := Lib.hid (TmV.ext bg _ _ HV1.out)
  have HV2 := Lib.hid (TmV.ext bg _ _ HV2.out)
  have HV3 : Hid (TmV wg19 (.mk 2 0 ⟨#[98]⟩ [.mk 1 0 ⟨#[]⟩ [], .mk 1 0 ⟨#[]⟩ []]) (.agg #[.int .i64 2, .int .i64 0, .string ⟨#[98]⟩, .slice a33 2 c33])) := Lib.hid hc3
  clear bg hc3 C3
  have HT : Tms (wg19.alloc (.cells (([(.mk 0 2 ⟨#[]⟩ [], .slice none 0 0), (.mk 0 10 ⟨#[]⟩ [], .slice none 0 0), (.mk 1 (-5) ⟨#[]⟩ [], .slice none 0 0), (.mk 1 3 ⟨#[]⟩ [], .slice none 0 0), (.mk 2 0 ⟨#[]⟩ [], .slice none 0 0), (.mk 2 0 ⟨#[90]⟩ [], .slice none 0 0), (.mk 2 0 ⟨#[97]⟩ [], .slice none 0 0), (.mk 2 0 ⟨#[97, 98]⟩ [], .slice none 0 0), (.mk 2 0 ⟨#[122]⟩ [.mk 1 9 ⟨#[]⟩ []], .slice a30 1 c30), (.mk 2 0 ⟨#[97]⟩ [.mk 1 1 ⟨#[]⟩ [], .mk 1 2 ⟨#[]⟩ []], .slice a31 2 c31), (.mk 2 0 ⟨#[97]⟩ [.mk 1 1 ⟨#[]⟩ [], .mk 1 3 ⟨#[]⟩ []], .slice a32 2 c32), (.mk 2 0 ⟨#[98]⟩ [.mk 1 0 ⟨#[]⟩ [], .mk 1 0 ⟨#[]⟩ []], .slice a33 2 c33)] : List TmP).flatMap pCells).toArray 25)) (.slice (some ⟨wg19.heap.size, 0, none⟩) 12 12) okR :=
    laidT_tms ([(.mk 0 2 ⟨#[]⟩ [], .slice none 0 0), (.mk 0 10 ⟨#[]⟩ [], .slice none 0 0), (.mk 1 (-5) ⟨#[]⟩ [], .slice none 0 0), (.mk 1 3 ⟨#[]⟩ [], .slice none 0 0), (.mk 2 0 ⟨#[]⟩ [], .slice none 0 0), (.mk 2 0 ⟨#[90]⟩ [], .slice none 0 0), (.mk 2 0 ⟨#[97]⟩ [], .slice none 0 0), (.mk 2 0 ⟨#[97, 98]⟩ [], .slice none 0 0), (.mk 2 0 ⟨#[122]⟩ [.mk 1 9 ⟨#[]⟩ []], .slice a30 1 c30), (.mk 2 0 ⟨#[97]⟩ [.mk 1 1 ⟨#[]⟩ [], .mk 1 2 ⟨#[]⟩ []], .slice a31 2 c31), (.mk 2 0 ⟨#[97]⟩ [.mk 1 1 ⟨#[]⟩ [], .mk 1 3 ⟨#[]⟩ []], .slice a32 2 c32), (.mk 2 0 ⟨#[98]⟩ [.mk 1 0 ⟨#[]⟩ [], .mk 1 0 ⟨#[]⟩ []], .slice a33 2 c33)] : List TmP) rfl (fun p hp => by
      simp only [List.mem_cons, List.not_mem_nil, or_false] at hp
      rcases hp with rfl | rfl | rfl | rfl | rfl | rfl | rfl | rfl | rfl | rfl | rfl | rfl
      · exact leaf_tm _ i64_0 (i64_of (by omega) (by omega)) b00
      · exact leaf_tm _ i64_0 (i64_of (by omega) (by omega)) b00
      · exact leaf_tm _ i64_1 (i64_of (by omega) (by omega)) b00
      · exact leaf_tm _ i64_1 (i64_of (by omega) (by omega)) b00
      · exact leaf_tm _ i64_2 (i64_of (by omega) (by omega)) b00
      · exact leaf_tm _ i64_2 (i64_of (by omega) (by omega)) (bsz (by decide))
      · exact leaf_tm _ i64_2 (i64_of (by omega) (by omega)) b97
      · exact leaf_tm _ i64_2 (i64_of (by omega) (by omega)) (bsz (by decide))
      · exact TmV.ext (bel1' wg19 _) _ _ HV0.out
      · exact TmV.ext (bel1' wg19 _) _ _ HV1.out
      · exact TmV.ext (bel1' wg19 _) _ _ HV2.out
      · exact TmV.ext (bel1' wg19 _) _ _ HV3.out) (by unfold BIG; simp) rfl rfl
  have hb6 := Ext.trans' B.out (bel1' wg19 (.cells (([(.mk 0 2 ⟨#[]⟩ [], .slice none 0 0), (.mk 0 10 ⟨#[]⟩ [], .slice none 0 0), (.mk 1 (-5) ⟨#[]⟩ [], .slice none 0 0), (.mk 1 3 ⟨#[]⟩ [], .slice none 0 0), (.mk 2 0 ⟨#[]⟩ [], .slice none 0 0), (.mk 2 0 ⟨#[90]⟩ [], .slice none 0 0), (.mk 2 0 ⟨#[97]⟩ [], .slice none 0 0), (.mk 2 0 ⟨#[97, 98]⟩ [], .slice none 0 0), (.mk 2 0 ⟨#[122]⟩ [.mk 1 9 ⟨#[]⟩ []], .slice a30 1 c30), (.mk 2 0 ⟨#[97]⟩ [.mk 1 1 ⟨#[]⟩ [], .mk 1 2 ⟨#[]⟩ []], .slice a31 2 c31), (.mk 2 0 ⟨#[97]⟩ [.mk 1 1 ⟨#[]⟩ [], .mk 1 3 ⟨#[]⟩ []], .slice a32 2 c32), (.mk 2 0 ⟨#[98]⟩ [.mk 1 0 ⟨#[]⟩ [], .mk 1 0 ⟨#[]⟩ []], .slice a33 2 c33)] : List TmP).flatMap pCells).toArray 25))
  have HS := Lib.hid (And.intro hb6 HT)
  clear hb6 HT B HV0 HV1 HV2 HV3
  go_wp2_with fail
  go_loopw [2] (fun z wr => ∃ i : Nat, i ≤ 12 ∧ z = .int .i64 i ∧ Hid (Below W.heap.size W wr ∧ Tms wr (.slice (some ⟨wg19.heap.size, 0, none⟩) 12 12) okR)) (fun z _ => 12 - (intOf z).toNat)
  case atStart => exact ⟨0, by omega, rfl, HS⟩
  case round =>
    obtain ⟨i, hi, rfl, HB⟩ := hrel
    by_cases hi12 : i < 12
    · have HBO := Lib.hid HB.out
      have hi0 : (i : Int) < 12 := by omega
      obtain ⟨x, hx⟩ : ∃ x, okR[i]? = some x := ⟨_, List.getElem?_eq_getElem (by show i < 12; omega)⟩
      have HX := Lib.hid hx
      clear hx
      go_wp2_with fail
      go_loopw [3] (fun z wr => ∃ k : Nat, k ≤ 12 ∧ z = .int .i64 k ∧ Hid (Below W.heap.size W wr ∧ Tms wr (.slice (some ⟨wg19.heap.size, 0, none⟩) 12 12) okR)) (fun z _ => 12 - (intOf z).toNat)
      case atStart => exact ⟨0, by omega, rfl, HBO⟩
      case round =>
        obtain ⟨k, hk, rfl, HB⟩ := hrel
        by_cases hk12 : k < 12
        · obtain ⟨y, hy⟩ : ∃ x, okR[k]? = some x := ⟨_, List.getElem?_eq_getElem (by show k < 12; omega)⟩
          have hc := ok_at hi12 hk12 HX.out hy
          obtain ⟨b, off, k1, n1, s1, u1, hbe, hbb, _, _, _, c0, c1, c2, c3, htu, ht⟩ := HB.out.2.get HX.out
          obtain ⟨b', off', k2, n2, s2, u2, hbe', hbb', _, _, _, d0, d1, d2, d3, htu', ht'⟩ := HB.out.2.get hy
          cases hbe
          cases hbe'
          simp only [Nat.zero_add] at c0 c1 c2 c3 d0 d1 d2 d3
          have P1 := Lib.hid (fun (wq : World) (hq : Below wr.heap.size wr wq) => Cmp_at (TmV.ext hq _ _ ht) (TmV.ext hq _ _ ht'))
          rw [hc] at P1
          obtain ⟨z, hz0⟩ : ∃ z, cmpI i k = z := ⟨_, rfl⟩
          rw [hz0] at P1
          have hk0 : (k : Int) < 12 := by omega
          have HZ := Lib.hid hz0
          clear htu htu' ht ht' hy hc hz0
          go_wp2_with fail
          (refine wp_region_class (fun w' => (w'.cell? ⟨wg19.heap.size, i * 4, none⟩ = some (.int .i64 k1) ∧ w'.cell? ⟨wg19.heap.size, i * 4 + 1, none⟩ = some (.int .i64 n1) ∧ w'.cell? ⟨wg19.heap.size, i * 4 + 2, none⟩ = some (.string s1) ∧ w'.cell? ⟨wg19.heap.size, i * 4 + 3, none⟩ = some u1 ∧ w'.cell? ⟨wg19.heap.size, k * 4, none⟩ = some (.int .i64 k2) ∧ w'.cell? ⟨wg19.heap.size, k * 4 + 1, none⟩ = some (.int .i64 n2) ∧ w'.cell? ⟨wg19.heap.size, k * 4 + 2, none⟩ = some (.string s2) ∧ w'.cell? ⟨wg19.heap.size, k * 4 + 3, none⟩ = some u2) ∧ Below wr.heap.size wr w') (by kernel_rfl) (by kernel_rfl) (⟨⟨c0, c1, c2, c3, d0, d1, d2, d3⟩, (Below.refl _ _).drew⟩) ?_; (repeat (first | go_big_quiet_skip | (go_big_quiet_want; refine quiet_of ?_; apply Exists.intro; refine ⟨fun wq hq => ?_, ?_⟩; (focus ((try dsimp only at hq); go_simp; (first | done | with_reducible rfl | ((go_at_call 12; refine (P1.out wq hq.2).mono ?_; rintro e w6 ⟨rfl, h6⟩; exact ⟨rfl, ⟨cell_later h6 hq.1.1, cell_later h6 hq.1.2.1, cell_later h6 hq.1.2.2.1, cell_later h6 hq.1.2.2.2.1, cell_later h6 hq.1.2.2.2.2.1, cell_later h6 hq.1.2.2.2.2.2.1, cell_later h6 hq.1.2.2.2.2.2.2.1, cell_later h6 hq.1.2.2.2.2.2.2.2⟩, Below.trans hq.2 (h6.mono hq.2.size)⟩)) | fail))); try simp only [Act.put, List.setIfInBounds_toArray, List.set_cons_zero, List.set_cons_succ]; go_big_quiet_on) | fail)); refine wpQuiet_nil ?_; intro wz hz)
          have HBz := Lib.hid (And.intro (Ext.trans' HB.out.1 hz.2) (HB.out.2.ext hz.2))
          clear hz c0 c1 c2 c3 d0 d1 d2 d3 P1
          have hzz := HZ.out
          unfold cmpI at hzz
          rcases Nat.lt_trichotomy i k with g | g | g
          · have g1 : (i : Int) < k := by omega
            have g2 : ((i : Int) == k) = false := beq_false_of_ne (by omega)
            have g3 : ¬ (k : Int) < i := by omega
            rw [if_pos g1] at hzz
            have z1 : (z != -1) = false := by rw [← hzz]; rfl
            have g4 : ¬ (i : Int) = k := by omega
            clear hzz HZ g
            go_wp2
            go_roundw
            case rel => exact ⟨k + 1, by omega, by go_num, HBz⟩
            case measure => simp [intOf]; omega
          · subst g
            have g1 : ¬ (i : Int) < i := by omega
            rw [if_neg g1, if_neg g1] at hzz
            have z1 : (z != 0) = false := by rw [← hzz]; rfl
            clear hzz HZ
            go_wp2
            go_roundw
            case rel => exact ⟨i + 1, by omega, by go_num, HBz⟩
            case measure => simp [intOf]; omega
          · have g1 : ¬ (i : Int) < k := by omega
            have g2 : ((i : Int) == k) = false := beq_false_of_ne (by omega)
            have g3 : (k : Int) < i := by omega
            rw [if_neg g1, if_pos g3] at hzz
            have z1 : (z != 1) = false := by rw [← hzz]; rfl
            have g4 : ¬ (i : Int) = k := by omega
            clear hzz HZ g
            go_wp2
            go_roundw
            case rel => exact ⟨k + 1, by omega, by go_num, HBz⟩
            case measure => simp [intOf]; omega
        · have hk0 : ¬ (k : Int) < 12 := by omega
          go_wp2
          go_roundw
          case rel => exact ⟨i + 1, by omega, by go_num, HB⟩
          case measure => simp [intOf]; omega
    · have hi0 : ¬ (i : Int) < 12 := by omega
      obtain ⟨b, off, k1, n1, s1, u1, hbe, hbb, e1, e2, e3, c0, c1, c2, c3, htu, ht⟩ := HB.out.2.get (i := 0) (x := .mk 0 2 ⟨#[]⟩ []) rfl
      obtain ⟨b', off', k2, n2, s2, u2, hbe', hbb', e4, e5, e6, d0, d1, d2, d3, htu', ht'⟩ := HB.out.2.get (i := 1) (x := .mk 0 10 ⟨#[]⟩ []) rfl
      obtain ⟨b2, off2, k3, n3, s3, u3, hbe2, hbb2, e7, e8, e9, f0, f1, f2, f3, htu2, ht2⟩ := HB.out.2.get (i := 9) (x := .mk 2 0 ⟨#[97]⟩ [.mk 1 1 ⟨#[]⟩ [], .mk 1 2 ⟨#[]⟩ []]) rfl
      cases hbe
      cases hbe'
      cases hbe2
      simp only [Nat.zero_add, Nat.reduceMul, Nat.reduceAdd] at c0 c1 c2 c3 d0 d1 d2 d3 f0 f1 f2 f3
      simp only [Tm.k] at e1 e4 e7
      simp only [Tm.n] at e2 e5 e8
      simp only [Tm.s] at e3 e6 e9
      subst e1 e2 e3 e4 e5 e6 e7 e8 e9
      obtain ⟨a31, c31, rfl, z1, z2, _⟩ := htu2.len
      have HK := Lib.hid (And.intro z1 z2)
      have F := Lib.hid (And.intro f0 (And.intro f1 (And.intro f2 f3)))
      have T1 := Lib.hid (fun (wq : World) (hq : Below wr.heap.size wr wq) => otest_at ⟨#[61]⟩ (TmV.ext hq _ _ ht) (TmV.ext hq _ _ ht'))
      have T2 := Lib.hid (fun (wq : World) (hq : Below wr.heap.size wr wq) => otest_at ⟨#[64, 61, 60]⟩ (TmV.ext hq _ _ ht) (TmV.ext hq _ _ ht))
      have T3 := Lib.hid (fun (wq : World) (hq : Below wr.heap.size wr wq) => otest_at ⟨#[61, 61]⟩ (leaf_tm wq (i64_of (n := 5) (by omega) (by omega)) i64_0 b00) (TmV.ext hq _ _ ht))
      have T4 := Lib.hid (fun (wq : World) (hq : Below wr.heap.size wr wq) => Cmp_at (leaf_tm wq (i64_of (n := 5) (by omega) (by omega)) i64_0 b00) (TmV.ext hq _ _ ht))
      have T5 := Lib.hid (fun wq => key_at (k := 2) (n := 0) (s := ⟨#[97]⟩) (a := a31) (m := 2) (c := c31) z1 z2 wq)
      rw [ok_t1] at T1
      rw [ok_t2] at T2
      rw [ok_t3] at T3
      rw [ok_c] at T4
      rw [show placeK 2 2 = 3 from rfl] at T5
      have HBr := Lib.hid HB.out.1
      clear ht ht' ht2 htu htu' htu2 z1 z2 HS
      clear hi12
      have HWR := Lib.hid (Below.refl wr.heap.size wr)
      go_wp2_with fail
      (refine wp_region_class (fun w' => ((w'.cell? ⟨wg19.heap.size, 0, none⟩ = some (.int .i64 0) ∧ w'.cell? ⟨wg19.heap.size, 1, none⟩ = some (.int .i64 2) ∧ w'.cell? ⟨wg19.heap.size, 2, none⟩ = some (.string ⟨#[]⟩) ∧ w'.cell? ⟨wg19.heap.size, 3, none⟩ = some u1) ∧ (w'.cell? ⟨wg19.heap.size, 4, none⟩ = some (.int .i64 0) ∧ w'.cell? ⟨wg19.heap.size, 5, none⟩ = some (.int .i64 10) ∧ w'.cell? ⟨wg19.heap.size, 6, none⟩ = some (.string ⟨#[]⟩) ∧ w'.cell? ⟨wg19.heap.size, 7, none⟩ = some u2)) ∧ Below wr.heap.size wr w') (by kernel_rfl) (by kernel_rfl) (⟨⟨⟨c0, c1, c2, c3⟩, d0, d1, d2, d3⟩, HWR.out.drew⟩) ?_; (repeat (first | go_big_quiet_skip | (go_big_quiet_want; refine quiet_of ?_; apply Exists.intro; refine ⟨fun wq hq => ?_, ?_⟩; (focus ((try dsimp only at hq); go_simp; (first | done | with_reducible rfl | ((go_at_call 13; refine (T1.out wq hq.2).mono ?_; rintro e w6 ⟨rfl, h6⟩; exact ⟨rfl, ⟨⟨cell_later h6 hq.1.1.1, cell_later h6 hq.1.1.2.1, cell_later h6 hq.1.1.2.2.1, cell_later h6 hq.1.1.2.2.2⟩, cell_later h6 hq.1.2.1, cell_later h6 hq.1.2.2.1, cell_later h6 hq.1.2.2.2.1, cell_later h6 hq.1.2.2.2.2⟩, Below.trans hq.2 (h6.mono hq.2.size)⟩)) | fail))); try simp only [Act.put, List.setIfInBounds_toArray, List.set_cons_zero, List.set_cons_succ]; go_big_quiet_on) | fail)); refine wpQuiet_nil ?_; intro wz hz)
      have HWR := Lib.hid hz.2
      obtain ⟨⟨⟨c0, c1, c2, c3⟩, d0, d1, d2, d3⟩, _⟩ := hz
      go_wp2_with fail
      (refine wp_region_class (fun w' => ((w'.cell? ⟨wg19.heap.size, 0, none⟩ = some (.int .i64 0) ∧ w'.cell? ⟨wg19.heap.size, 1, none⟩ = some (.int .i64 2) ∧ w'.cell? ⟨wg19.heap.size, 2, none⟩ = some (.string ⟨#[]⟩) ∧ w'.cell? ⟨wg19.heap.size, 3, none⟩ = some u1) ∧ (w'.cell? ⟨wg19.heap.size, 4, none⟩ = some (.int .i64 0) ∧ w'.cell? ⟨wg19.heap.size, 5, none⟩ = some (.int .i64 10) ∧ w'.cell? ⟨wg19.heap.size, 6, none⟩ = some (.string ⟨#[]⟩) ∧ w'.cell? ⟨wg19.heap.size, 7, none⟩ = some u2)) ∧ Below wr.heap.size wr w') (by kernel_rfl) (by kernel_rfl) (⟨⟨⟨c0, c1, c2, c3⟩, d0, d1, d2, d3⟩, HWR.out.drew⟩) ?_; (repeat (first | go_big_quiet_skip | (go_big_quiet_want; refine quiet_of ?_; apply Exists.intro; refine ⟨fun wq hq => ?_, ?_⟩; (focus ((try dsimp only at hq); go_simp; (first | done | with_reducible rfl | ((go_at_call 13; refine (T2.out wq hq.2).mono ?_; rintro e w6 ⟨rfl, h6⟩; exact ⟨rfl, ⟨⟨cell_later h6 hq.1.1.1, cell_later h6 hq.1.1.2.1, cell_later h6 hq.1.1.2.2.1, cell_later h6 hq.1.1.2.2.2⟩, cell_later h6 hq.1.2.1, cell_later h6 hq.1.2.2.1, cell_later h6 hq.1.2.2.2.1, cell_later h6 hq.1.2.2.2.2⟩, Below.trans hq.2 (h6.mono hq.2.size)⟩)) | fail))); try simp only [Act.put, List.setIfInBounds_toArray, List.set_cons_zero, List.set_cons_succ]; go_big_quiet_on) | fail)); refine wpQuiet_nil ?_; intro wz hz)
      have HWR := Lib.hid hz.2
      obtain ⟨⟨⟨c0, c1, c2, c3⟩, d0, d1, d2, d3⟩, _⟩ := hz
      (go_wp2_with fail; go_fit (T3.out _ HWR.out); rintro e w7 ⟨rfl, b7⟩)
      have HWR := Lib.hid (Ext.trans' HWR.out b7)
      have f0 := cell_later HWR.out F.out.1
      have f1 := cell_later HWR.out F.out.2.1
      have f2 := cell_later HWR.out F.out.2.2.1
      have f3 := cell_later HWR.out F.out.2.2.2
      have c0 := cell_later b7 c0
      have c1 := cell_later b7 c1
      have c2 := cell_later b7 c2
      have c3 := cell_later b7 c3
      clear b7
      (go_wp2_with fail; go_fit (T5.out _); rintro e w8 ⟨rfl, b8⟩)
      have HWR := Lib.hid (Ext.trans' HWR.out b8)
      have c0 := cell_later b8 c0
      have c1 := cell_later b8 c1
      have c2 := cell_later b8 c2
      have c3 := cell_later b8 c3
      clear b8
      (go_wp2_with fail; go_fit (T4.out _ HWR.out); rintro e w9 ⟨rfl, b9⟩)
      have HBe := Lib.hid (Ext.trans' HBr.out (Ext.trans' HWR.out b9))
      clear b9
      go_wp2
      go_ret
      exact ⟨rfl, HBe.out⟩
end Go.Proofs.Ytnnadmabgaopdaa
