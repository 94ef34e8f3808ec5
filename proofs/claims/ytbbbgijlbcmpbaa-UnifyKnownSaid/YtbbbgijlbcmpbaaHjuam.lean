import Derived.Test.YtbbbgijlbcmpbaaHjuak
import Derived.Test.YtbbbgijlbcmpbaaHjual
import Derived.Test.YtbbbgijlbcmpbaaHjuae
import Derived.Test.YtbbbgijlbcmpbaaHjuaa
import Derived.Test.YtbbbgijlbcmpbaaHjuad
import Derived.Test.YtbbbgijlbcmpbaaHjuab
import Derived.Lib.Strings
import Derived.Deep.QuietTactic
import Derived.Test.YtbbbgijlbcmpbaaHjuac
import Derived.Test.YtbbbgijlbcmpbaaRows
import Derived.Test.YtbbbgijlbcmpbaaHjuai
import Derived.Test.YtbbbgijlbcmpbaaHjuaj
import Derived.Test.YtbbbgijlbcmpbaaHjuaf
set_option linter.unusedVariables false
set_option linter.unusedSimpArgs false
/- Stage 12's laws: awake. -/
namespace Go.Proofs.Ytbbbgijlbcmpbaa
open Go.RowKit
set_option linter.unusedVariables false

def fA : Tm := .mk 2 0 ⟨#[102]⟩ [varV 0, atomT ⟨#[98]⟩]
def fB : Tm := .mk 2 0 ⟨#[102]⟩ [atomT ⟨#[97]⟩, varV 1]
theorem awake_both : bothB 2 [] fA fB = ⟨true, 5, 0, [(1, atomT ⟨#[98]⟩), (0, atomT ⟨#[97]⟩)]⟩ := by kernel_rfl
theorem good_b : goodT (atomT ⟨#[98]⟩) = true := by decide +kernel
theorem atomb_tm (w : World) : TmV w (atomT ⟨#[98]⟩) (.agg #[.int .i64 2, .int .i64 0, .string ⟨#[98]⟩, .slice none 0 0]) := leaf_tm w i64_2 i64_0 (by unfold BIG; decide)
theorem full_a : fullB [(1, atomT ⟨#[98]⟩), (0, atomT ⟨#[97]⟩)] 0 = atomT ⟨#[97]⟩ := by kernel_rfl
theorem full_b : fullB [(1, atomT ⟨#[98]⟩), (0, atomT ⟨#[97]⟩)] 1 = atomT ⟨#[98]⟩ := by kernel_rfl
/-- A variable that stands for an atom, walked. -/
theorem walk_atom {V w : World} {F : List Nat} {p : Value} {N : Nat} {R S : List (Int × Tm)} (h : IsB V F w p N R) (hs : Sync R S) {n : Nat} (hn : n < N) {s : ByteArray} (hf : fullB S n = atomT s) :
    Calls Try.prog 24 #[p, .agg #[.int .i64 0, .int .i64 n, .string ⟨#[]⟩, .slice none 0 0]] w fun e w' => ∃ v', e = .returned v' ∧ TmV V (atomT s) v' ∧ Below w.heap.size w w' := by
  have hN := h.tri.2
  refine (Walk_at h (x := varV (n : Int)) (leaf_tm V i64_0 (by unfold I64; omega) (by unfold BIG; decide)) (var_good (by omega) (by omega)) (fun m hm => by rw [occ_varV] at hm; simp at hm; subst hm; omega)).mono ?_
  rintro e w' ⟨y, v', rfl, hy, hwk, htop, b⟩
  have hze : y = atomT s := top_leaf hwk.good htop (hwk.same.trans (by rw [sub_varV, hs.full, hf]; rfl))
  subst hze
  exact ⟨v', rfl, hy, b⟩
set_option maxHeartbeats 8000000 in
set_option maxRecDepth 100000 in
theorem uawake_at (w : World) : Calls Try.prog 40 #[] w fun e w' => e = .returned (.bool true) ∧ Below w.heap.size w w' := by
  go_enter Try.func40, Try.ntmps40
  (go_wp2_with fail; go_fit (both12_at (V := w) (Stays.refl w) 2 (by omega)); rintro e w1 ⟨p, q, rfl, h1⟩)
  obtain ⟨F, F2, hI, _, hF, _, _, hB⟩ := h1
  obtain ⟨bt, rfl⟩ : ∃ bt, p = .pointer (some ⟨bt, 0, none⟩) := by obtain ⟨bt, _, _, _, rfl, _⟩ := hI.open; exact ⟨bt, rfl⟩
  have hlt := hI.lt
  have HI := Lib.hid (And.intro hI (And.intro hF (And.intro hB hlt)))
  have hold : ∀ wq : World, w1.heap.size ≤ wq.heap.size → Old (awayB F) wq := fun wq hle k hk => by
    have : ¬ k ∈ F := fun hm => by have := hlt k hm; omega
    simp [awayB, this]
  have HOLD := Lib.hid hold
  clear hI hF hB hlt hold
  (go_wp2_with fail; go_fit (var_at _ 0); rintro e w2 ⟨rfl, b2⟩)
  (go_wp2_with fail; go_fit (atom_at _ ⟨#[98]⟩); rintro e w3 ⟨rfl, b3⟩)
  have hb3 := Ext.trans' b2 b3
  have hT1 := two_hide (D := awayB F) w3 31 (k := 0) (n := 0) (k' := 2) (n' := 0) (s := ⟨#[]⟩) (s' := ⟨#[98]⟩) i64_0 i64_0 (by unfold BIG; decide) i64_2 i64_0 (by unfold BIG; decide) (HOLD.out w3 hb3.size)
  obtain ⟨w4, e4, b4, z4, x4⟩ := box_new w3 #[.int .i64 0, .int .i64 0, .string ⟨#[]⟩, .slice none 0 0, .int .i64 2, .int .i64 0, .string ⟨#[98]⟩, .slice none 0 0] 31
  rw [e4] at hT1
  have hb4 := Ext.trans' hb3 b4
  have HB4 := Lib.hid hb4
  have C := comp_hide ⟨#[102]⟩ (by unfold BIG; decide) (HOLD.out w4 hb4.size) hT1
  clear b2 b3 hb3 hb4 b4 z4 x4 hT1
  go_wp2_with fail
  (try rw [e4])
  go_fit (C)
  rintro e w5 ⟨a5, c5, rfl, ht5, b5⟩
  have HB5 := Lib.hid (Ext.trans' HB4.out b5)
  have HT5 := Lib.hid (show TmV (hide (awayB F) w5) fA (.agg #[.int .i64 2, .int .i64 0, .string ⟨#[102]⟩, .slice a5 2 c5]) from ht5)
  clear b5 ht5 C e4
  (go_wp2_with fail; go_fit (atom_at _ ⟨#[97]⟩); rintro e w6 ⟨rfl, b6⟩)
  (go_wp2_with fail; go_fit (var_at _ 1); rintro e w7 ⟨rfl, b7⟩)
  have hb7 := Ext.trans' HB5.out (Ext.trans' b6 b7)
  have hT1 := two_hide (D := awayB F) w7 31 (k := 2) (n := 0) (k' := 0) (n' := 1) (s := ⟨#[97]⟩) (s' := ⟨#[]⟩) i64_2 i64_0 (by unfold BIG; decide) i64_0 i64_1 (by unfold BIG; decide) (HOLD.out w7 hb7.size)
  obtain ⟨w8, e8, b8, z8, x8⟩ := box_new w7 #[.int .i64 2, .int .i64 0, .string ⟨#[97]⟩, .slice none 0 0, .int .i64 0, .int .i64 1, .string ⟨#[]⟩, .slice none 0 0] 31
  rw [e8] at hT1
  have hb8 := Ext.trans' hb7 b8
  have HB8 := Lib.hid (And.intro hb8 (Ext.trans' b6 (Ext.trans' b7 b8)))
  have C := comp_hide ⟨#[102]⟩ (by unfold BIG; decide) (HOLD.out w8 hb8.size) hT1
  clear b6 b7 hb7 hb8 b8 z8 x8 hT1
  go_wp2_with fail
  (try rw [e8])
  go_fit (C)
  rintro e w9 ⟨a9, c9, rfl, ht9, b9⟩
  have HB9 := Lib.hid (And.intro (Ext.trans' HB8.out.1 b9) (Ext.trans' HB8.out.2 b9))
  have HT9 := Lib.hid (show TmV (hide (awayB F) w9) fB (.agg #[.int .i64 2, .int .i64 0, .string ⟨#[102]⟩, .slice a9 2 c9]) from ht9)
  clear b9 ht9 C e8
  have hI9 := (HI.out.1.ext HB9.out.1).rebase
  have C := Both_at hI9 (S := []) trivial (TmV.later HB9.out.2 HT5.out) HT9.out
  rw [awake_both] at C
  have HF9 := Lib.hid (And.intro HI.out.2.1 (HI.out.2.2.1.trans (HB9.out.1.mono HI.out.2.2.1.size)))
  clear hI9
  generalize hide (awayB F) w9 = V at *
  (go_wp2_with fail; go_fit (C); rintro e w10 ⟨F10, R10, rfl, i10, s10, t10, in10⟩)
  have H10 := Lib.hid (And.intro i10 (And.intro s10 (Touch.own HF9.out.2 t10 HF9.out.1)))
  clear i10 s10 t10 in10 C
  (go_wp2_with fail; go_fit (var_at _ 0); rintro e w11 ⟨rfl, b11⟩)
  have C := walk_atom (H10.out.1.ext b11) H10.out.2.1 (n := 0) (by omega) full_a
  have HB11 := Lib.hid b11
  clear b11
  (go_wp2_with fail; go_fit (C); rintro e w12 ⟨v12, rfl, hv12, b12⟩)
  obtain ⟨k12, n12, s12, a12, m12, c12, rfl, f1, f2, f3, f4⟩ := four_of hv12
  have HB12 := Lib.hid (And.intro (Ext.trans' HB11.out b12) hv12)
  clear b12 C f1 f2 f3 f4 hv12
  (go_wp2_with fail; go_fit (var_at _ 1); rintro e w13 ⟨rfl, b13⟩)
  have HB13 := Lib.hid (Ext.trans' HB12.out.1 b13)
  have C := walk_atom (H10.out.1.ext HB13.out) H10.out.2.1 (n := 1) (by omega) full_b
  clear b13
  (go_wp2_with fail; go_fit (C); rintro e w14 ⟨v14, rfl, hv14, b14⟩)
  obtain ⟨k14, n14, s14, a14, m14, c14, rfl, f1, f2, f3, f4⟩ := four_of hv14
  have HB14 := Lib.hid (And.intro (Ext.trans' HB13.out b14) hv14)
  clear b14 C f1 f2 f3 f4 hv14
  obtain ⟨w15, e15, b15, z15, x15⟩ := box_new w14 #[.int .i64 k12, .int .i64 n12, .string s12, .slice a12 m12 c12] 31
  obtain ⟨w16, e16, b16, z16, x16⟩ := box_new w15 #[.int .i64 k14, .int .i64 n14, .string s14, .slice a14 m14 c14] 31
  have HX := Lib.hid (And.intro (x15.ext b16) x16)
  rw [z15] at HX
  have HB16 := Lib.hid (Ext.trans' HB14.out.1 (Ext.trans' b15 b16))
  have HE := Lib.hid (And.intro e15 e16)
  clear b15 z15 x15 b16 z16 x16 e15 e16
  go_upto_region 4 with fail
  (try rw [HE.out.1])
  (try rw [HE.out.2])
  obtain ⟨x0, x1, x2, x3, _⟩ := HX.out.1.four
  obtain ⟨y0, y1, y2, y3, _⟩ := HX.out.2.four
  have HA := Lib.hid (fun (wq : World) (hq : Below w16.heap.size w16 wq) => TmV.stay (H10.out.1.see.1.later (Ext.trans' HB16.out hq)) _ _ HB12.out.2)
  have HBb := Lib.hid (fun (wq : World) (hq : Below w16.heap.size w16 wq) => TmV.stay (H10.out.1.see.1.later (Ext.trans' HB16.out hq)) _ _ HB14.out.2)
  refine wp_region_held_drew (S := fun w' => (w'.cell? ⟨w14.heap.size, 0, none⟩ = some (.int .i64 k12) ∧ w'.cell? ⟨w14.heap.size, 1, none⟩ = some (.int .i64 n12) ∧ w'.cell? ⟨w14.heap.size, 2, none⟩ = some (.string s12) ∧ w'.cell? ⟨w14.heap.size, 3, none⟩ = some (.slice a12 m12 c12) ∧ w'.cell? ⟨w14.heap.size + 1, 0, none⟩ = some (.int .i64 k14) ∧ w'.cell? ⟨w14.heap.size + 1, 1, none⟩ = some (.int .i64 n14) ∧ w'.cell? ⟨w14.heap.size + 1, 2, none⟩ = some (.string s14) ∧ w'.cell? ⟨w14.heap.size + 1, 3, none⟩ = some (.slice a14 m14 c14)) ∧ Below w16.heap.size w16 w') (by kernel_rfl) ⟨⟨x0, x1, x2, x3, y0, y1, y2, y3⟩, (Below.refl _ _).drew⟩ (fun hHeld => ?_)
  first | (refine held_t (i := 0) hHeld ?_; apply Exists.intro; refine ⟨fun wq hq => ?_, ?_⟩; (focus ((try dsimp only at hq); go_simp; (first | done | with_reducible rfl | fail)))) | refine held_s (i := 0) hHeld ?_ | fail
  first | (refine held_t (i := 1) hHeld ?_; apply Exists.intro; refine ⟨fun wq hq => ?_, ?_⟩; (focus ((try dsimp only at hq); go_simp; (first | done | with_reducible rfl | fail)))) | refine held_s (i := 1) hHeld ?_ | fail
  try simp only [Act.put, List.setIfInBounds_toArray, List.set_cons_zero, List.set_cons_succ]
  first | (refine held_t (i := 2) hHeld ?_; apply Exists.intro; refine ⟨fun wq hq => ?_, ?_⟩; (focus ((try dsimp only at hq); go_simp; (first | done | with_reducible rfl | fail)))) | refine held_s (i := 2) hHeld ?_ | fail
  first | (refine held_t (i := 3) hHeld ?_; apply Exists.intro; refine ⟨fun wq hq => ?_, ?_⟩; (focus ((try dsimp only at hq); go_simp; (first | done | with_reducible rfl | fail)))) | refine held_s (i := 3) hHeld ?_ | fail
  try simp only [Act.put, List.setIfInBounds_toArray, List.set_cons_zero, List.set_cons_succ]
  first | (refine held_t (i := 4) hHeld ?_; apply Exists.intro; refine ⟨fun wq hq => ?_, ?_⟩; (focus ((try dsimp only at hq); go_simp; (first | done | with_reducible rfl | fail)))) | refine held_s (i := 4) hHeld ?_ | fail
  first | (refine held_t (i := 5) hHeld ?_; apply Exists.intro; refine ⟨fun wq hq => ?_, ?_⟩; (focus ((try dsimp only at hq); go_simp; (first | done | with_reducible rfl | fail)))) | refine held_s (i := 5) hHeld ?_ | fail
  try simp only [Act.put, List.setIfInBounds_toArray, List.set_cons_zero, List.set_cons_succ]
  first | (refine held_t (i := 6) hHeld ?_; apply Exists.intro; refine ⟨fun wq hq => ?_, ?_⟩; (focus ((try dsimp only at hq); go_simp; (first | done | with_reducible rfl | fail)))) | refine held_s (i := 6) hHeld ?_ | fail
  first | (refine held_t (i := 7) hHeld ?_; apply Exists.intro; refine ⟨fun wq hq => ?_, ?_⟩; (focus ((try dsimp only at hq); go_simp; (first | done | with_reducible rfl | fail)))) | refine held_s (i := 7) hHeld ?_ | fail
  try simp only [Act.put, List.setIfInBounds_toArray, List.set_cons_zero, List.set_cons_succ]
  first | (refine held_t (i := 8) hHeld ?_; apply Exists.intro; refine ⟨fun wq hq => ?_, ?_⟩; (focus ((try dsimp only at hq); go_simp; (first | done | with_reducible rfl | fail)))) | refine held_s (i := 8) hHeld ?_ | fail
  first | (refine held_t (i := 9) hHeld ?_; apply Exists.intro; refine ⟨fun wq hq => ?_, ?_⟩; (focus ((try dsimp only at hq); go_simp; (first | done | with_reducible rfl | fail)))) | refine held_s (i := 9) hHeld ?_ | fail
  try simp only [Act.put, List.setIfInBounds_toArray, List.set_cons_zero, List.set_cons_succ]
  first | (refine held_t (i := 10) hHeld ?_; apply Exists.intro; refine ⟨fun wq hq => ?_, ?_⟩; (focus ((try dsimp only at hq); go_simp; (first | done | with_reducible rfl | fail)))) | refine held_s (i := 10) hHeld ?_ | fail
  try simp only [Act.put, List.setIfInBounds_toArray, List.set_cons_zero, List.set_cons_succ]
  refine held_c 11 fun K hK => ?_
  go_simp
  (go_at_call 45; refine (atom_at _ ⟨#[97]⟩).mono ?_; rintro e w6 ⟨rfl, h6⟩)
  refine hK.out _ _ (⟨⟨cell_later h6 hHeld.1.1, cell_later h6 hHeld.1.2.1, cell_later h6 hHeld.1.2.2.1, cell_later h6 hHeld.1.2.2.2.1, cell_later h6 hHeld.1.2.2.2.2.1, cell_later h6 hHeld.1.2.2.2.2.2.1, cell_later h6 hHeld.1.2.2.2.2.2.2.1, cell_later h6 hHeld.1.2.2.2.2.2.2.2⟩, Ext.trans' hHeld.2 h6⟩) (fun hHeld => ?_)
  clear hK K
  try simp only [Act.put, List.setIfInBounds_toArray, List.set_cons_zero, List.set_cons_succ]
  refine held_c 12 fun K hK => ?_
  go_simp
  (go_at_call 25; refine (Same_at (HA.out _ hHeld.2) (atom_tm _)).mono ?_; rintro e w6 ⟨rfl, h6⟩; rw [good_atom, same_atom])
  refine hK.out _ _ (⟨⟨cell_later h6 hHeld.1.1, cell_later h6 hHeld.1.2.1, cell_later h6 hHeld.1.2.2.1, cell_later h6 hHeld.1.2.2.2.1, cell_later h6 hHeld.1.2.2.2.2.1, cell_later h6 hHeld.1.2.2.2.2.2.1, cell_later h6 hHeld.1.2.2.2.2.2.2.1, cell_later h6 hHeld.1.2.2.2.2.2.2.2⟩, Ext.trans' hHeld.2 h6⟩) (fun hHeld => ?_)
  clear hK K
  try simp only [Act.put, List.setIfInBounds_toArray, List.set_cons_zero, List.set_cons_succ]
  first | (refine held_t (i := 13) hHeld ?_; apply Exists.intro; refine ⟨fun wq hq => ?_, ?_⟩; (focus ((try dsimp only at hq); go_simp; (first | done | with_reducible rfl | fail)))) | refine held_s (i := 13) hHeld ?_ | fail
  first | (refine held_t (i := 14) hHeld ?_; apply Exists.intro; refine ⟨fun wq hq => ?_, ?_⟩; (focus ((try dsimp only at hq); go_simp; (first | done | with_reducible rfl | fail)))) | refine held_s (i := 14) hHeld ?_ | fail
  try simp only [Act.put, List.setIfInBounds_toArray, List.set_cons_zero, List.set_cons_succ]
  first | (refine held_t (i := 15) hHeld ?_; apply Exists.intro; refine ⟨fun wq hq => ?_, ?_⟩; (focus ((try dsimp only at hq); go_simp; (first | done | with_reducible rfl | fail)))) | refine held_s (i := 15) hHeld ?_ | fail
  try simp only [Act.put, List.setIfInBounds_toArray, List.set_cons_zero, List.set_cons_succ]
  refine held_c 16 fun K hK => ?_
  go_simp
  (go_at_call 45; refine (atom_at _ ⟨#[98]⟩).mono ?_; rintro e w6 ⟨rfl, h6⟩)
  refine hK.out _ _ (⟨⟨cell_later h6 hHeld.1.1, cell_later h6 hHeld.1.2.1, cell_later h6 hHeld.1.2.2.1, cell_later h6 hHeld.1.2.2.2.1, cell_later h6 hHeld.1.2.2.2.2.1, cell_later h6 hHeld.1.2.2.2.2.2.1, cell_later h6 hHeld.1.2.2.2.2.2.2.1, cell_later h6 hHeld.1.2.2.2.2.2.2.2⟩, Ext.trans' hHeld.2 h6⟩) (fun hHeld => ?_)
  clear hK K
  try simp only [Act.put, List.setIfInBounds_toArray, List.set_cons_zero, List.set_cons_succ]
  refine held_c 17 fun K hK => ?_
  go_simp
  (go_at_call 25; refine (Same_at (HBb.out _ hHeld.2) (atomb_tm _)).mono ?_; rintro e w6 ⟨rfl, h6⟩; rw [good_b, same_self])
  refine hK.out _ _ (⟨⟨cell_later h6 hHeld.1.1, cell_later h6 hHeld.1.2.1, cell_later h6 hHeld.1.2.2.1, cell_later h6 hHeld.1.2.2.2.1, cell_later h6 hHeld.1.2.2.2.2.1, cell_later h6 hHeld.1.2.2.2.2.2.1, cell_later h6 hHeld.1.2.2.2.2.2.2.1, cell_later h6 hHeld.1.2.2.2.2.2.2.2⟩, Ext.trans' hHeld.2 h6⟩) (fun hHeld => ?_)
  clear hK K
  try simp only [Act.put, List.setIfInBounds_toArray, List.set_cons_zero, List.set_cons_succ]
  first | (refine held_t (i := 18) hHeld ?_; apply Exists.intro; refine ⟨fun wq hq => ?_, ?_⟩; (focus ((try dsimp only at hq); go_simp; (first | done | with_reducible rfl | fail)))) | refine held_s (i := 18) hHeld ?_ | fail
  first | (refine held_t (i := 19) hHeld ?_; apply Exists.intro; refine ⟨fun wq hq => ?_, ?_⟩; (focus ((try dsimp only at hq); go_simp; (first | done | with_reducible rfl | fail)))) | refine held_s (i := 19) hHeld ?_ | fail
  try simp only [Act.put, List.setIfInBounds_toArray, List.set_cons_zero, List.set_cons_succ]
  have HEND := Lib.hid (Ext.trans' HB16.out hHeld.2)
  clear hHeld
  refine wpAnyH_done (by kernel_rfl) ?_ _
  go_wp2
  go_ret
  exact ⟨rfl, H10.out.2.2.trans (HEND.out.mono H10.out.2.2.size)⟩
end Go.Proofs.Ytbbbgijlbcmpbaa
/- The document's side of chapter 13: rename, walked. -/
namespace Go.Proofs.Ytbbbgijlbcmpbaa
open Go.RowKit
set_option linter.unusedVariables false

theorem pos_spec {n : Int} : ∀ {l : List Int}, n ∈ l → posI l n < l.length ∧ l[posI l n]? = some n ∧ ∀ (j : Nat) (y : Int), j < posI l n → l[j]? = some y → ¬ y = n
  | x :: r, h => by
    rw [posI]
    by_cases e : x = n
    · rw [if_pos e]
      exact ⟨by simp, by simp [e], fun j y hj => by omega⟩
    · rw [if_neg e]
      have hr : n ∈ r := by
        rcases List.mem_cons.1 h with h | h
        · exact absurd h.symm e
        · exact h
      obtain ⟨h1, h2, h3⟩ := pos_spec hr
      refine ⟨by simp; omega, by simpa using h2, fun j y hj hy => ?_⟩
      cases j with
      | zero => simp at hy; subst hy; exact e
      | succ j => exact h3 j y (by omega) (by simpa using hy)
end Go.Proofs.Ytbbbgijlbcmpbaa
/- The document's side of chapter 13: From, Alike, walked. -/
namespace Go.Proofs.Ytbbbgijlbcmpbaa
open Go.RowKit
set_option linter.unusedVariables false

mutual
theorem xvars_len : ∀ (t : Tm) (l : List Int), (varsT t l).length ≤ l.length + sizeN t
  | .mk k n s ts, l => by
    rw [varsT, sizeN]
    by_cases hk : k = 0
    · rw [if_pos hk]
      split
      · omega
      · simp
    · rw [if_neg hk]
      have := xvarss_len ts l
      omega
theorem xvarss_len : ∀ (ts : List Tm) (l : List Int), (varsL ts l).length ≤ l.length + sizesN ts
  | [], l => by rw [varsL, sizesN]; omega
  | x :: r, l => by
    rw [varsL, sizesN]
    have h1 := xvars_len x l
    have h2 := xvarss_len r (varsT x l)
    omega
end
end Go.Proofs.Ytbbbgijlbcmpbaa
/- Closed laws over a Binds: what is carried from call to call. -/
namespace Go.Proofs.Ytbbbgijlbcmpbaa
open Go.RowKit
set_option linter.unusedVariables false

/-- A Binds of the law's own, cells and terms beside it. -/
def KB (W w : World) (p : Value) (N : Nat) (S : List (Int × Tm)) (fs : List (Nat × Nat × Value)) (ts : List (Tm × Value)) : Prop :=
  ∃ F R, IsB (hide (awayB F) w) F w p N R ∧ Sync R S ∧ (∀ k ∈ F, W.heap.size ≤ k) ∧ Below W.heap.size W w ∧ (∀ f ∈ fs, (hide (awayB F) w).cell? ⟨f.1, f.2.1, none⟩ = some f.2.2) ∧ ∀ t ∈ ts, TmV (hide (awayB F) w) t.1 t.2
section
variable {W w w' : World} {p : Value} {N : Nat} {S : List (Int × Tm)} {fs : List (Nat × Nat × Value)} {ts : List (Tm × Value)}
theorem KB.bel (h : KB W w p N S fs ts) : Below W.heap.size W w := by
  obtain ⟨F, R, h1, h2, h3, h4, h5, h6⟩ := h; exact h4
theorem KB.ext (h : KB W w p N S fs ts) (hb : Below w.heap.size w w') : KB W w' p N S fs ts := by
  obtain ⟨F, R, h1, h2, h3, h4, h5, h6⟩ := h
  have hs : Stays (hide (awayB F) w) (hide (awayB F) w') := Stays.below hb fun _ _ h => h
  exact ⟨F, R, (h1.ext hb).rebase, h2, h3, h4.trans (hb.mono h4.size), fun f hf => hs.2 _ _ (h5 f hf), fun t ht => TmV.stay hs _ _ (h6 t ht)⟩
theorem KB.get (h : KB W w p N S fs ts) {b o : Nat} {v : Value} (hf : (b, o, v) ∈ fs) : w.cell? ⟨b, o, none⟩ = some v := by
  obtain ⟨F, R, h1, h2, h3, h4, h5, h6⟩ := h
  exact (Stays.unhide _ _).2 _ _ (h5 _ hf)
theorem KB.tm (h : KB W w p N S fs ts) {x : Tm} {v : Value} (hf : (x, v) ∈ ts) : TmV w x v := by
  obtain ⟨F, R, h1, h2, h3, h4, h5, h6⟩ := h
  exact (h6 _ hf).bare
theorem KB.four (h : KB W w p N S fs ts) {b : Nat} {v0 v1 v2 v3 : Value} (hb : w.heap.size ≤ b) (hx : Below w.heap.size w w') (hc : Box w' b [v0, v1, v2, v3]) : KB W w' p N S ((b, 0, v0) :: (b, 1, v1) :: (b, 2, v2) :: (b, 3, v3) :: fs) ts := by
  obtain ⟨c0, c1, c2, c3, _⟩ := hc.four
  obtain ⟨F, R, h1, h2, h3, h4, h5, h6⟩ := h
  have hs : Stays (hide (awayB F) w) (hide (awayB F) w') := Stays.below hx fun _ _ h => h
  have hn : ¬ b ∈ F := fun hm => by have := h1.lt b hm; omega
  have hh : ∀ j, (hide (awayB F) w').cell? ⟨b, j, none⟩ = w'.cell? ⟨b, j, none⟩ := fun j => hide_cell _ _ _ (by simp [awayB, hn])
  refine ⟨F, R, (h1.ext hx).rebase, h2, h3, h4.trans (hx.mono h4.size), fun f hf => ?_, fun t ht => TmV.stay hs _ _ (h6 t ht)⟩
  rcases List.mem_cons.1 hf with rfl | hf
  · exact (hh 0).trans c0
  rcases List.mem_cons.1 hf with rfl | hf
  · exact (hh 1).trans c1
  rcases List.mem_cons.1 hf with rfl | hf
  · exact (hh 2).trans c2
  rcases List.mem_cons.1 hf with rfl | hf
  · exact (hh 3).trans c3
  · exact hs.2 _ _ (h5 f hf)
theorem old_under {w w' : World} (hb : w.heap.size ≤ w'.heap.size) : Old (under w.heap.size) w' := fun k hk => by simp; omega
/-- The same, behind a call that turned it. -/
theorem KB.turned {F F' : List Nat} {R R' S' : List (Int × Tm)} (h1 : IsB (hide (awayB F) w) F w p N R) (h3 : ∀ k ∈ F, W.heap.size ≤ k) (h4 : Below W.heap.size W w) (h5 : ∀ f ∈ fs, (hide (awayB F) w).cell? ⟨f.1, f.2.1, none⟩ = some f.2.2) (h6 : ∀ t ∈ ts, TmV (hide (awayB F) w) t.1 t.2)
    (i : IsB (hide (awayB F) w) F' w' p N R') (s : Sync R' S') (t : Touch F w w') (hin : ∀ k ∈ F', k ∈ F ∨ w.heap.size ≤ k) : KB W w' p N S' fs ts := by
  have hs : Stays (hide (awayB F) w) (hide (awayB F') w') := by
    refine ⟨by rw [hide_size, hide_size]; exact t.size, fun a v hv => ?_⟩
    have n1 : ¬ a.block ∈ F' := fun hm => by rw [i.see.2 a hm] at hv; cases hv
    rw [hide_cell _ _ _ (by simp [awayB, n1])]
    exact i.see.1.2 a v hv
  exact ⟨F', R', i.rebase, s, fun k hk => (hin k hk).elim (h3 k) (fun h => Nat.le_trans h4.size h), Touch.own h4 t h3, fun f hf => hs.2 _ _ (h5 f hf), fun x hx => TmV.stay hs _ _ (h6 x hx)⟩
theorem KB_set (h : KB W w p N S fs ts) (hb : Below w.heap.size w w') {x : Tm} {v : Value} (ht : TmV (hide (under w.heap.size) w') x v) {n : Int} (hn : I64 n) {c : Int} (hc : setB N S n x = c) {S' : List (Int × Tm)} (hS : S' = if c = 0 then (n, x) :: S else S) :
    Calls Try.prog 17 #[p, .int .i64 n, v] w' fun e w'' => e = .returned (.int .i64 c) ∧ KB W w'' p N S' fs ts := by
  obtain ⟨F, R, h1, h2, h3, h4, h5, h6⟩ := h
  have hs : Stays (hide (awayB F) w) (hide (awayB F) w') := Stays.below hb fun _ _ h => h
  have i1 := (h1.ext hb).rebase
  refine (Set_at i1 hn (TmV.away h1.lt ht)).mono ?_
  rintro e w'' ⟨F', R', rfl, i, t, hin, hcase⟩
  have hcc : setB N R n x = c := by rw [h2.setB]; exact hc
  rw [hcc] at hcase ⊢
  refine ⟨rfl, KB.turned i1 h3 (h4.trans (hb.mono h4.size)) (fun f hf => hs.2 _ _ (h5 f hf)) (fun t ht => TmV.stay hs _ _ (h6 t ht)) i ?_ t hin⟩
  rcases hcase with ⟨h0, y, rfl, hy⟩ | ⟨h0, rfl⟩
  · rw [hS, if_pos h0]; exact h2.set hy
  · rw [hS, if_neg h0]; exact h2
theorem KB_both (h : KB W w p N S fs ts) (hb : Below w.heap.size w w') {x y : Tm} {vx vy : Value} (hx : TmV (hide (under w.heap.size) w') x vx) (hy : TmV (hide (under w.heap.size) w') y vy) {b : BRes} (hc : bothB N S x y = b) :
    Calls Try.prog 42 #[p, vx, vy] w' fun e w'' => e = .returned (.tuple #[.bool b.ok, .int .i64 b.cost, .int .i64 b.err]) ∧ KB W w'' p N b.set fs ts := by
  obtain ⟨F, R, h1, h2, h3, h4, h5, h6⟩ := h
  have hs : Stays (hide (awayB F) w) (hide (awayB F) w') := Stays.below hb fun _ _ h => h
  have i1 := (h1.ext hb).rebase
  refine (Both_at i1 h2 (TmV.away h1.lt hx) (TmV.away h1.lt hy)).mono ?_
  rintro e w'' ⟨F', R', rfl, i, s, t, hin⟩
  rw [hc] at s ⊢
  exact ⟨rfl, KB.turned i1 h3 (h4.trans (hb.mono h4.size)) (fun f hf => hs.2 _ _ (h5 f hf)) (fun t ht => TmV.stay hs _ _ (h6 t ht)) i s t hin⟩
theorem KB_mark (h : KB W w p N S fs ts) (hb : Below w.heap.size w w') {m : Nat} (hm : S.length = m) : Calls Try.prog 43 #[p] w' fun e w'' => e = .returned (.int .i64 m) ∧ w' = w'' := by
  obtain ⟨F, R, h1, h2, h3, h4, h5, h6⟩ := h
  have C := Mark_at (h1.ext hb)
  rw [h2.len, hm] at C
  exact C
theorem KB_new {W w : World} {p q : Value} {V w0 : World} {N : Nat} (h : BothI V w0 p q N w) (hb : Below W.heap.size W w0) : KB W w p N [] [] [] := by
  obtain ⟨F, F2, h1, h2, h3, h4, h5, h6⟩ := h
  exact ⟨F, [], h1.rebase, trivial, fun k hk => Nat.le_trans hb.size (h3 k hk), hb.trans (h6.mono hb.size), fun f hf => (by cases hf), fun t ht => (by cases ht)⟩
/-- A term with one leaf. -/
theorem one_hide {D : Nat → Bool} (w : World) (ty : TypeId) {k n : Int} {s : ByteArray} (hk : I64 k) (hn : I64 n) (hs : s.size ≤ BIG) (hD : Old D w) :
    Tms (hide D (w.alloc (.cells #[.int .i64 k, .int .i64 n, .string s, .slice none 0 0] ty))) (.slice (some ⟨w.heap.size, 0, none⟩) 1 1) [.mk k n s []] := by
  obtain ⟨w1, e1, B1, z1, X1⟩ := box_new w #[.int .i64 k, .int .i64 n, .string s, .slice none 0 0] ty
  rw [e1]
  have hc : ∀ j u, [Value.int .i64 k, .int .i64 n, .string s, .slice none 0 0][j]? = some u → (hide D w1).cell? ⟨w.heap.size, j, none⟩ = some u := fun j u hj => by
    rw [hide_cell _ _ _ (hD _ (Nat.le_refl _))]
    exact X1.cells j u hj
  refine ⟨some ⟨w.heap.size, 0, none⟩, 1, rfl, by simp, by unfold maxLen; omega, by unfold BIG; simp, Or.inr ⟨_, 0, rfl, by rw [hide_size]; exact X1.lt, ?_⟩⟩
  rw [TmRow, TmRow]
  exact ⟨⟨_, _, _, _, hc 0 _ rfl, hc 1 _ rfl, hc 2 _ rfl, hc 3 _ rfl, leaf_tm _ hk hn hs⟩, trivial⟩
/-- Comp of one leaf, of two, made since w0. -/
theorem comp_one {w0 : World} (hb : Below w0.heap.size w0 w) (t s : ByteArray) (ht : t.size ≤ BIG) {k n : Int} (hk : I64 k) (hn : I64 n) (hs : s.size ≤ BIG) :
    Calls Try.prog 20 #[.string t, .slice (some ⟨w.heap.size, 0, none⟩) 1 1] (w.alloc (.cells #[.int .i64 k, .int .i64 n, .string s, .slice none 0 0] 31)) fun e w' => ∃ a c, e = .returned (.agg #[.int .i64 2, .int .i64 0, .string t, .slice a 1 c]) ∧ TmV (hide (under w0.heap.size) w') (.mk 2 0 t [.mk k n s []]) (.agg #[.int .i64 2, .int .i64 0, .string t, .slice a 1 c]) ∧ Below w0.heap.size w0 w' := by
  have h1 := one_hide (D := under w0.heap.size) w 31 hk hn hs (old_under hb.size)
  refine (comp_hide t ht (old_under (by have := hb.size; have := (bel1' w (.cells #[.int .i64 k, .int .i64 n, .string s, .slice none 0 0] 31)).size; omega)) h1).mono ?_
  rintro e w' ⟨a, c, rfl, hT, hB⟩
  exact ⟨a, c, rfl, hT, Ext.trans' hb (Ext.trans' (bel1' w _) hB)⟩
theorem comp_two {w0 : World} (hb : Below w0.heap.size w0 w) (t s s' : ByteArray) (ht : t.size ≤ BIG) {k n k' n' : Int} (hk : I64 k) (hn : I64 n) (hs : s.size ≤ BIG) (hk' : I64 k') (hn' : I64 n') (hs' : s'.size ≤ BIG) :
    Calls Try.prog 20 #[.string t, .slice (some ⟨w.heap.size, 0, none⟩) 2 2] (w.alloc (.cells #[.int .i64 k, .int .i64 n, .string s, .slice none 0 0, .int .i64 k', .int .i64 n', .string s', .slice none 0 0] 31)) fun e w' => ∃ a c, e = .returned (.agg #[.int .i64 2, .int .i64 0, .string t, .slice a 2 c]) ∧ TmV (hide (under w0.heap.size) w') (.mk 2 0 t [.mk k n s [], .mk k' n' s' []]) (.agg #[.int .i64 2, .int .i64 0, .string t, .slice a 2 c]) ∧ Below w0.heap.size w0 w' := by
  have h1 := two_hide (D := under w0.heap.size) w 31 hk hn hs hk' hn' hs' (old_under hb.size)
  refine (comp_hide t ht (old_under (by have := hb.size; have := (bel1' w (.cells #[.int .i64 k, .int .i64 n, .string s, .slice none 0 0, .int .i64 k', .int .i64 n', .string s', .slice none 0 0] 31)).size; omega)) h1).mono ?_
  rintro e w' ⟨a, c, rfl, hT, hB⟩
  exact ⟨a, c, rfl, hT, Ext.trans' hb (Ext.trans' (bel1' w _) hB)⟩
end
end Go.Proofs.Ytbbbgijlbcmpbaa
/- What the closed law of chapter 11 reckons. Nothing here is walked. -/
namespace Go.Proofs.Ytbbbgijlbcmpbaa

def oneT (f : ByteArray) (x : Tm) : Tm := .mk 2 0 f [x]
def fS : ByteArray := ⟨#[102]⟩
def dblT (n : Int) : Tm := .mk 2 0 ⟨#[100]⟩ [varV n, varV n]
end Go.Proofs.Ytbbbgijlbcmpbaa
/- A term made alike with itself, and with itself by other names: how it goes, at which cost. Nothing here is walked. -/
namespace Go.Proofs.Ytbbbgijlbcmpbaa

/-- Whole: none of its variables stands for anything. -/
def WhT (S : List (Int × Tm)) (x : Tm) : Prop := formedT x = true ∧ ∀ m ∈ occT x, fullB S m = varV m
theorem WhT.sub {S : List (Int × Tm)} {x : Tm} (h : WhT S x) : subT (fullB S) x = x := sub_id x h.1 h.2
/-- What comes of one made alike with itself. -/
def SelfP (S : List (Int × Tm)) (c z : Nat) (r : URes) : Prop := r.set = S ∧ (c + z ≤ 2000 → r.ok = true ∧ r.cost = c + z) ∧ (¬ c + z ≤ 2000 → r.ok = false ∧ 2000 < r.cost)
theorem self_list {S : List (Int × Tm)} {f : List (Int × Tm) → Tm → Tm → Nat → URes} {c0 : Nat}
    (ih : ∀ (x : Tm) (c : Nat), WhT S x → c0 ≤ c → c ≤ 2000 → SelfP S c (sizeN x) (f S x x c)) :
    ∀ (xs : List Tm) (c : Nat), (∀ x ∈ xs, WhT S x) → c0 ≤ c → c ≤ 2000 → SelfP S c (sizesN xs) (uniL f S xs xs c)
  | [], c, _, _, hc => by
    rw [uniL, sizesN]
    · exact ⟨rfl, fun _ => ⟨rfl, rfl⟩, fun h => absurd hc h⟩
    · intro x r y q e; cases e
  | x :: r, c, hs, hc0, hc => by
    obtain ⟨h1, h2, h3⟩ := ih x c (hs x (by simp)) hc0 hc
    rw [uniL, sizesN]
    by_cases hz : c + sizeN x ≤ 2000
    · obtain ⟨h4, h5⟩ := h2 hz
      rw [if_pos h4, h1, h5]
      have hl := self_list ih r (c + sizeN x) (fun z hz => hs z (by simp [hz])) (by omega) hz
      unfold SelfP at hl ⊢
      rw [show c + (sizeN x + sizesN r) = c + sizeN x + sizesN r by omega]
      exact hl
    · obtain ⟨h4, h5⟩ := h3 hz
      rw [if_neg (by rw [h4]; simp)]
      exact ⟨h1, fun q => by omega, fun _ => ⟨rfl, h5⟩⟩
theorem self_uni {S : List (Int × Tm)} : ∀ (M : Nat) (x : Tm) (c : Nat), WhT S (subT (fullB S) x) → c ≤ 2000 → 2000 ≤ M + c → SelfP S c (sizeN (subT (fullB S) x)) (uniT M S x x c)
  | 0, x, c, _, hc, hM => by
    have := size_pos (subT (fullB S) x)
    rw [uniT]
    exact ⟨rfl, fun q => by omega, fun _ => ⟨rfl, by show 2000 < c + 1; omega⟩⟩
  | M + 1, x, c, hw, hc, hM => by
    have hp := size_pos (subT (fullB S) x)
    rw [uniT]
    by_cases h1 : 2000 < c + 1
    · rw [if_pos h1]
      exact ⟨rfl, fun q => by omega, fun _ => ⟨rfl, h1⟩⟩
    · rw [if_neg h1]
      generalize subT (fullB S) x = X at hw hp ⊢
      obtain ⟨k, n, s, ts⟩ := X
      by_cases hk : k = 0
      · subst hk
        have hts : ts = [] := by have := (formed_var hw.1).1; unfold varV at this; simp at this; exact this.2
        subst hts
        rw [uniW, if_pos rfl, if_pos rfl, sizeN, sizesN]
        unfold joinB
        rw [if_pos rfl]
        exact ⟨rfl, fun _ => ⟨rfl, rfl⟩, fun q => by omega⟩
      · rw [uniW, if_neg hk, if_neg hk, if_pos ⟨rfl, rfl, rfl, rfl⟩, sizeN]
        obtain ⟨hf, hv⟩ := hw
        rw [occ_not hk] at hv
        rw [formedT, Bool.and_eq_true] at hf
        have hl := self_list (S := S) (f := uniT M) (c0 := c + 1) (fun x c' g1 g4 g5 => by
          have := self_uni M x c' (by rw [g1.sub]; exact g1) g5 (by omega)
          rw [g1.sub] at this
          exact this) ts (c + 1) (fun x hx => ⟨formed_mem hf.2 hx, fun m hm => hv m (mem_occL.2 ⟨x, hx, hm⟩)⟩) (Nat.le_refl _) (by omega)
        unfold SelfP at hl ⊢
        rw [show c + (sizesN ts + 1) = c + 1 + sizesN ts by omega]
        exact hl
end Go.Proofs.Ytbbbgijlbcmpbaa
/- Stage 12's laws: the pairs that come in; lists that are set alike. -/
namespace Go.Proofs.Ytbbbgijlbcmpbaa
open Go.RowKit
set_option linter.unusedVariables false

theorem Sync.refl : ∀ R : List (Int × Tm), Sync R R
  | [] => trivial
  | p :: R => ⟨Sync.refl R, rfl, rfl⟩
section
open Go.ChangeShapes Go.WideShapes Go.ChangeAt Go.Deep
set_option maxRecDepth 100000
end
end Go.Proofs.Ytbbbgijlbcmpbaa
/- The document's side of chapter 12: Could, walked. -/
namespace Go.Proofs.Ytbbbgijlbcmpbaa
open Go.RowKit
set_option linter.unusedVariables false

/-- How many variables. -/
def numV (x : Tm) : Nat := (if goodT x then varsT x [] else []).length
/-- What Could answers. -/
def couldB (x y : Tm) : Bool := goodT x && goodT y && (bothB (numV x + numV y) [] (renT 0 x) (renT (numV x) y)).ok
theorem numV_le (x : Tm) : numV x ≤ 2000 := by
  unfold numV
  cases hg : goodT x
  · simp
  · have h1 := xvars_len x []
    have h2 := (good_parts hg).1
    simp at h1 ⊢
    omega
end Go.Proofs.Ytbbbgijlbcmpbaa
/- What the closed law of chapter 12 reckons. -/
namespace Go.Proofs.Ytbbbgijlbcmpbaa
open Go.RowKit
set_option linter.unusedVariables false

def uS0 : List (Int × Tm) := [(3, varV 1)]
def uD : Nat → List (Int × Tm)
  | 0 => uS0
  | j + 1 => ((5 + j : Nat), dblT ((6 + j : Nat) : Int)) :: uD j
def uE : List (Int × Tm) := (25, dblT 6) :: uD 15
def f2T (a b : Tm) : Tm := .mk 2 0 ⟨#[102]⟩ [a, b]
def gfT : Tm := .mk 2 0 ⟨#[102]⟩ [.mk 2 0 ⟨#[103]⟩ [varV 0]]
theorem uk1 : bothB 40 [] (varV 0) (oneT fS (varV 0)) = ⟨false, 3, 0, []⟩ := by kernel_rfl
theorem uk2 : bothB 40 [] (varV 3) (varV 1) = ⟨true, 1, 0, uS0⟩ := by kernel_rfl
theorem uk3 : bothB 40 uS0 (varV 40) (intT 1) = ⟨false, 0, 1, uS0⟩ := by kernel_rfl
theorem uk4 : bothB 40 uS0 (f2T (varV 2) (intT 1)) (f2T (intT 2) (intT 3)) = ⟨false, 4, 0, uS0⟩ := by kernel_rfl
theorem uk5 : ∀ j, j < 15 → setB 40 (uD j) ((5 + j : Nat) : Int) (dblT ((6 + j : Nat) : Int)) = 0 := by decide +kernel
theorem uk8 : couldB (oneT fS (varV 0)) gfT = true := by kernel_rfl
theorem uk9 : couldB (atomT ⟨#[97]⟩) (atomT ⟨#[98]⟩) = false := by kernel_rfl
theorem uk10 : couldB (.mk 7 0 ⟨#[]⟩ []) (atomT ⟨#[98]⟩) = false := by kernel_rfl
theorem uk11 : (goodT (varV 1) && goodT (varV 1) && sameT (varV 1) (varV 1)) = true := by kernel_rfl
theorem uk12 : fullB uS0 3 = .mk 0 1 ⟨#[]⟩ [] := by kernel_rfl
theorem tri_u : ∀ j, j ≤ 15 → Tri 40 (uD j)
  | 0, _ => Tri.setx (N := 40) (R := []) trivial (by kernel_rfl)
  | j + 1, h => Tri.setx (tri_u j (by omega)) (uk5 j (by omega))
theorem mem_u : ∀ (k j : Nat), j < k → (((5 + j : Nat) : Int), dblT ((6 + j : Nat) : Int)) ∈ uD k
  | 0, j, h => by omega
  | k + 1, j, h => by
    rw [uD]
    by_cases e : j = k
    · subst e; exact List.mem_cons_self
    · exact List.mem_cons_of_mem _ (mem_u k j (by omega))
theorem sub_dbl (A : Int → Tm) (n : Int) : subT A (dblT n) = .mk 2 0 ⟨#[100]⟩ [A n, A n] := by
  unfold dblT
  rw [sub_not _ (by omega), subL, subL, subL, sub_varV]
theorem occ_u : ∀ i, i ≤ 15 → ∀ m ∈ occT (fullB (uD 15) ((20 - i : Nat) : Int)), m = 20
  | 0, _, m, h => by
    rw [full_free (by decide +kernel), occ_varV] at h
    simpa using h
  | i + 1, hi, m, h => by
    have e := full_mem (by omega) (tri_u 15 (by omega)) (mem_u 15 (14 - i) (by omega))
    simp only at e
    rw [sub_dbl] at e
    rw [show (20 - (i + 1) : Nat) = 5 + (14 - i) by omega, e, occ_not (by omega)] at h
    rw [occL, occL, occL, List.append_nil, List.mem_append, or_self, show 6 + (14 - i) = 20 - i by omega] at h
    exact occ_u i (by omega) m h
theorem uk6 : setB 40 (uD 15) 25 (dblT 6) = 0 := by
  unfold setB
  rw [if_pos (by kernel_rfl), if_neg (by rw [show getB (uD 15) 25 = none by kernel_rfl]; simp), if_neg]
  rw [sub_dbl, occ_not (by omega), occL, occL, occL, List.append_nil, List.mem_append, or_self]
  intro h
  have := occ_u 14 (by omega) 25 h
  omega
theorem tri_e : Tri 40 uE := Tri.setx (tri_u 15 (by omega)) uk6
theorem mem_e {j : Nat} (h : j < 15) : (((5 + j : Nat) : Int), dblT ((6 + j : Nat) : Int)) ∈ uE := List.mem_cons_of_mem _ (mem_u 15 j h)
theorem size_e : ∀ i, i ≤ 15 → 2 ^ i ≤ sizeN (fullB uE ((20 - i : Nat) : Int))
  | 0, _ => size_pos _
  | i + 1, hi => by
    have e := full_mem (by omega) tri_e (mem_e (j := 14 - i) (by omega))
    simp only at e
    rw [sub_dbl] at e
    rw [show (20 - (i + 1) : Nat) = 5 + (14 - i) by omega, e, sizeN, sizesN, sizesN, sizesN, show 6 + (14 - i) = 20 - i by omega, Nat.pow_succ]
    have := size_e i (by omega)
    omega
theorem same_e : subT (fullB uE) (varV 25) = subT (fullB uE) (varV 5) := by
  have e1 := full_mem (by omega) tri_e (p := (25, dblT 6)) List.mem_cons_self
  have e2 := full_mem (by omega) tri_e (mem_e (j := 0) (by omega))
  rw [sub_varV, sub_varV]
  exact e1.trans e2.symm
theorem uni_congr {K : Nat} {S : List (Int × Tm)} {x y z : Tm} {c : Nat} (h : subT (fullB S) y = subT (fullB S) z) : uniT (K + 1) S x y c = uniT (K + 1) S x z c := by rw [uniT, uniT, h]
theorem uk7 : bothB 40 uE (varV 25) (varV 5) = ⟨false, 0, 12, uE⟩ := by
  have oks := OkS.of_tri tri_e (by omega) (Sync.refl uE)
  have hin : InN 40 (varV 25) := ⟨by kernel_rfl, fun m hm => by rw [occ_varV] at hm; simp at hm; omega⟩
  have hs := self_uni (S := uE) 2000 (varV 25) 0 ⟨(oks.inN hin).1, oks.fixT (varV 25)⟩ (by omega) (by omega)
  have hz : 2 ^ 15 ≤ sizeN (subT (fullB uE) (varV 25)) := by
    rw [same_e, sub_varV]
    exact size_e 15 (by omega)
  have hc := (hs.2.2 (by omega)).2
  have he : uniT 2000 uE (varV 25) (varV 5) 0 = uniT 2000 uE (varV 25) (varV 25) 0 := uni_congr (K := 1999) same_e.symm
  unfold bothB endB
  rw [he, if_pos (by kernel_rfl), if_pos hc]
section
variable {W w w' : World} {p : Value} {N : Nat} {S : List (Int × Tm)} {fs : List (Nat × Nat × Value)} {ts : List (Tm × Value)}
/-- A variable that stands for a leaf, walked: the leaf is kept. -/
theorem KB_walk (h : KB W w p N S fs ts) (hb : Below w.heap.size w w') {n : Nat} (hn : n < N) {k m : Int} {s : ByteArray} (hf : fullB S n = .mk k m s []) :
    Calls Try.prog 24 #[p, .agg #[.int .i64 0, .int .i64 n, .string ⟨#[]⟩, .slice none 0 0]] w' fun e w'' => ∃ v', e = .returned v' ∧ KB W w'' p N S fs ((.mk k m s [], v') :: ts) ∧ Below w'.heap.size w' w'' := by
  have hk := h.ext hb
  obtain ⟨F, R, h1, h2, h3, h4, h5, h6⟩ := hk
  have hN := h1.tri.2
  refine (Walk_at h1 (x := varV (n : Int)) (leaf_tm _ i64_0 (by unfold I64; omega) (by unfold BIG; decide)) (var_good (by omega) (by omega)) (fun m hm => by rw [occ_varV] at hm; simp at hm; subst hm; omega)).mono ?_
  rintro e w'' ⟨y, v', rfl, hy, hwk, htop, b⟩
  have hze : y = .mk k m s [] := top_leaf hwk.good htop (hwk.same.trans (by rw [sub_varV, h2.full, hf]))
  subst hze
  have hs : Stays (hide (awayB F) w') (hide (awayB F) w'') := Stays.below b fun _ _ h => h
  refine ⟨v', rfl, ⟨F, R, (h1.ext b).rebase, h2, h3, h4.trans (b.mono h4.size), fun f hf => hs.2 _ _ (h5 f hf), fun t ht => ?_⟩, b⟩
  rcases List.mem_cons.1 ht with rfl | ht
  · exact TmV.stay hs _ _ hy
  · exact TmV.stay hs _ _ (h6 t ht)
end
/-- Comp of one term whatever. -/
theorem comp_lone {w : World} (t : ByteArray) (ht : t.size ≤ BIG) {x : Tm} {k n : Int} {s : ByteArray} {a : Option Addr} {m c : Nat} (hx : TmV w x (.agg #[.int .i64 k, .int .i64 n, .string s, .slice a m c])) :
    Calls Try.prog 20 #[.string t, .slice (some ⟨w.heap.size, 0, none⟩) 1 1] (w.alloc (.cells #[.int .i64 k, .int .i64 n, .string s, .slice a m c] 31))
      fun e w' => ∃ q z, e = .returned (.agg #[.int .i64 2, .int .i64 0, .string t, .slice q 1 z]) ∧ TmV w' (.mk 2 0 t [x]) (.agg #[.int .i64 2, .int .i64 0, .string t, .slice q 1 z]) ∧ Below w.heap.size w w' := by
  obtain ⟨w1, e1, B1, z1, X1⟩ := box_new w #[.int .i64 k, .int .i64 n, .string s, .slice a m c] 31
  rw [e1]
  have hc : ∀ j u, [Value.int .i64 k, .int .i64 n, .string s, .slice a m c][j]? = some u → (hide (fun _ => false) w1).cell? ⟨w.heap.size, j, none⟩ = some u := fun j u hj => by
    rw [hide_none]
    exact X1.cells j u hj
  have hT : Tms (hide (fun _ => false) w1) (.slice (some ⟨w.heap.size, 0, none⟩) 1 1) [x] := by
    refine ⟨some ⟨w.heap.size, 0, none⟩, 1, rfl, by simp, by unfold maxLen; omega, by unfold BIG; simp, Or.inr ⟨_, 0, rfl, by rw [hide_size]; exact X1.lt, ?_⟩⟩
    rw [TmRow, TmRow]
    exact ⟨⟨_, _, _, _, hc 0 _ rfl, hc 1 _ rfl, hc 2 _ rfl, hc 3 _ rfl, by rw [hide_none]; exact TmV.ext B1 _ _ hx⟩, trivial⟩
  refine (comp_hide t ht (fun _ _ => rfl) hT).mono ?_
  rintro e w' ⟨q, z, rfl, h, b⟩
  exact ⟨q, z, rfl, h.bare, Ext.trans' B1 b⟩
end Go.Proofs.Ytbbbgijlbcmpbaa
/- Package unify: apart's map of names. -/
namespace Go.Proofs.Ytbbbgijlbcmpbaa
open Go.RowKit Go.Maps
set_option linter.unusedVariables false

/-- A variable without letters, as a value. -/
def leafVal (v : Int) : Value := .agg #[.int .i64 0, .int .i64 v, .string ⟨#[]⟩, .slice none 0 0]
theorem leafVal_inj {u v : Int} (h : leafVal u = leafVal v) : u = v := by
  unfold leafVal at h
  simp only [Value.agg.injEq] at h
  have h2 := congrArg Array.toList h
  simpa using h2
open Classical in
/-- How it reads as an element. -/
noncomputable def leafE (u : Value) : Option (DataW Unit × List MemPlace) := if h : ∃ v, u = leafVal v then some (.lit (.int .i64 (Classical.choose h)), []) else none
theorem leafE_mk (v : Int) : leafE (leafVal v) = some (.lit (.int .i64 v), []) := by
  have h : ∃ v', leafVal v = leafVal v' := ⟨v, rfl⟩
  unfold leafE
  rw [dif_pos h, ← leafVal_inj (Classical.choose_spec h)]
theorem leafE_inv {u : Value} {z : DataW Unit × List MemPlace} (h : leafE u = some z) : ∃ v, u = leafVal v ∧ z = (.lit (.int .i64 v), []) := by
  unfold leafE at h
  split at h
  · rename_i he
    exact ⟨_, Classical.choose_spec he, (Option.some.inj h).symm⟩
  · cases h
theorem pos_app {n : Int} (m : List Int) : ∀ {l : List Int}, n ∈ l → posI (l ++ m) n = posI l n
  | x :: r, h => by
    rw [List.cons_append, posI, posI]
    by_cases e : x = n
    · rw [if_pos e, if_pos e]
    · rw [if_neg e, if_neg e, pos_app m (by
        rcases List.mem_cons.1 h with h | h
        · exact absurd h.symm e
        · exact h)]
theorem pos_new {n : Int} : ∀ {l : List Int}, ¬ n ∈ l → posI (l ++ [n]) n = l.length
  | [], _ => by simp [posI]
  | x :: r, h => by
    rw [List.cons_append, posI, if_neg (fun e => h (by simp [e])), pos_new (fun q => h (by simp [q]))]
    rfl
theorem pos_pre {n : Int} {l L : List Int} (h : l <+: L) (hn : n ∈ l) : posI L n = posI l n := by
  obtain ⟨m, rfl⟩ := h
  exact pos_app m hn
mutual
theorem avars_pre : ∀ (t : Tm) (l : List Int), l <+: varsT t l
  | .mk k n s ts, l => by
    rw [varsT]
    split
    · split
      · exact List.prefix_refl _
      · exact List.prefix_append _ _
    · exact avarss_pre ts l
theorem avarss_pre : ∀ (ts : List Tm) (l : List Int), l <+: varsL ts l
  | [], l => by rw [varsL]; exact List.prefix_refl _
  | x :: r, l => by
    rw [varsL]
    exact (avars_pre x l).trans (avarss_pre r _)
end
theorem avarss_app : ∀ (a b : List Tm) (l : List Int), varsL (a ++ b) l = varsL b (varsL a l)
  | [], b, l => by rw [List.nil_append, varsL]
  | x :: r, b, l => by rw [List.cons_append, varsL, varsL, avarss_app r b]
/-- The map of names: each of l stands for a variable, from N0 on, in l's order. -/
def NamedM (w : World) (mb N0 : Nat) (l : List Int) : Prop := ∃ D : DataW Unit, w.ownsMap Try.prog 2 leafE mb l.length D ∧ Tidy D ∧ (∀ v, Maps.has D (.int .i64 v) = true ↔ v ∈ l) ∧ ∀ v, v ∈ l → ∀ z, D.atKey (.int .i64 v) z = .lit (.int .i64 ((N0 : Int) + (posI l v : Int)))
theorem NamedM.nil (w : World) (N0 : Nat) : NamedM (w.alloc (.map #[] 0)) w.heap.size N0 [] := ⟨.map [], World.ownsMap_made w _ _ _, tidy_empty, fun v => by simp [Maps.has], fun v h => by cases h⟩
theorem NamedM.put {w' : World} {mb N0 : Nat} {l : List Int} {n : Int} {D : DataW Unit} (h1 : Tidy D) (h2 : ∀ v, Maps.has D (.int .i64 v) = true ↔ v ∈ l) (h3 : ∀ v, v ∈ l → ∀ z, D.atKey (.int .i64 v) z = .lit (.int .i64 ((N0 : Int) + (posI l v : Int)))) (hn : ¬ n ∈ l)
    (h : w'.ownsMap Try.prog 2 leafE mb (l.length + 1) (D.put (.int .i64 n) (.lit (.int .i64 ((N0 : Int) + (l.length : Int)))))) : NamedM w' mb N0 (l ++ [n]) := by
  refine ⟨_, by rw [List.length_append]; exact h, h1.put (by trivial) _, fun u => ?_, fun u hu z => ?_⟩
  · by_cases e : u = n
    · subst e
      rw [has_put_same h1.isMap (by trivial)]
      simp
    · rw [has_put_other (fun e' => e (by injection e')), h2 u]
      simp [e]
  · by_cases e : u = n
    · subst e
      rw [atKey_put_same h1.isMap (by trivial), pos_new hn]
    · have hul : u ∈ l := by simpa [e] using hu
      rw [atKey_put_other (fun e' => e (by injection e')), h3 u hul z, pos_app _ hul]
theorem NamedM.block {w w' : World} {mb N0 : Nat} {l : List Int} (h : NamedM w mb N0 l) (e : w'.heap[mb]? = w.heap[mb]?) : NamedM w' mb N0 l := by
  obtain ⟨D, ⟨es, clock, h1, h2⟩, q⟩ := h
  exact ⟨D, ⟨es, clock, e.trans h1, h2⟩, q⟩
theorem NamedM.lt {w : World} {mb N0 : Nat} {l : List Int} (h : NamedM w mb N0 l) : mb < w.heap.size := by
  obtain ⟨D, q1, _⟩ := h
  exact q1.lt
theorem NamedM.ext {w w' : World} {mb N0 : Nat} {l : List Int} (h : NamedM w mb N0 l) (b : Below w.heap.size w w') : NamedM w' mb N0 l := h.block (b.block mb h.lt)
theorem NamedM.touch {w w' : World} {F : List Nat} {mb N0 : Nat} {l : List Int} (h : NamedM w mb N0 l) (t : Touch F w w') (hn : ¬ mb ∈ F) : NamedM w' mb N0 l := h.block (t.block mb h.lt hn)
theorem zeroLeaf (w : World) : (zeroValue 31).run Try.prog w = .ok (leafVal 0) w := by kernel_rfl
/-- What stands in the map: looked up. -/
theorem NamedM.look {w : World} {mb N0 : Nat} {l : List Int} (h : NamedM w mb N0 l) {n : Int} (hn : I64 n) : (Instr.lookup 115 (.map (some mb)) (.int .i64 n) true).run Try.prog w = .ok (.tuple #[leafVal (if n ∈ l then (N0 : Int) + (posI l n : Int) else 0), .bool (decide (n ∈ l))]) w := by
  obtain ⟨D, q1, q2, q3, q4⟩ := h
  obtain ⟨v, ps, hrun, hv⟩ := q1.look_ok lKeyed Try.underlying115 (zeroLeaf w) (leafE_mk 0) (lKey hn)
  rw [hrun]
  obtain ⟨u, rfl, hu⟩ := leafE_inv hv
  have hu1 := congrArg Prod.fst hu
  dsimp only at hu1
  clear hu hv hrun
  by_cases hm : n ∈ l
  · rw [if_pos hm, (q3 n).2 hm, decide_eq_true hm]
    rw [q4 n hm] at hu1
    cases hu1
    rfl
  · have hf : Maps.has D (.int .i64 n) = false := by
      cases hh : Maps.has D (.int .i64 n)
      · rfl
      · exact absurd ((q3 n).1 hh) hm
    rw [if_neg hm, hf, decide_eq_false hm]
    rw [atKey_of_not_has hf] at hu1
    cases hu1
    rfl
/-- A name is put into it. -/
theorem NamedM.store {w : World} {mb N0 : Nat} {l : List Int} (h : NamedM w mb N0 l) {n : Int} (hn : I64 n) (hl : l.length < maxLen) (hm : ¬ n ∈ l) :
    ∃ w', (Instr.mapUpdate 115 (.map (some mb)) (.int .i64 n) (leafVal ((N0 : Int) + (l.length : Int)))).run Try.prog w = .ok () w' ∧ NamedM w' mb N0 (l ++ [n]) ∧ Touch [mb] w w' := by
  obtain ⟨D, q1, q2, q3, q4⟩ := h
  obtain ⟨w', hrun, ho, ht⟩ := q1.store lKeyed Try.underlying115 hl (lKey hn) (leafE_mk _)
  refine ⟨w', hrun, NamedM.put q2 q3 q4 hm ho, ?_⟩
  obtain ⟨g1, g2, g3, g4, g5⟩ := ht.grown
  exact ⟨g1, g2, g3, g4, fun k hk hne => g5 k hk (fun e => hne (by simp at e; simp [e]))⟩
end Go.Proofs.Ytbbbgijlbcmpbaa
/- Package unify: apart, a variable. -/
namespace Go.Proofs.Ytbbbgijlbcmpbaa
open Go.RowKit Go.Maps
set_option linter.unusedVariables false

/-- New blocks, but for some. -/
def newU (F : List Nat) (n : Nat) : Nat → Bool := fun k => decide (k < n) || decide (k ∈ F)
theorem newU_false {F : List Nat} {n k : Nat} : newU F n k = false ↔ n ≤ k ∧ ¬ k ∈ F := by simp [newU]
/-- What apart leaves. -/
def ApartP (V : World) (F : List Nat) (w : World) (p : Value) (N0 mb : Nat) (L l' : List Int) (x : Tm) (e : Ending) (w' : World) : Prop :=
  ∃ F' v', e = .returned v' ∧ IsB V F' w' p (N0 + l'.length) [] ∧ NamedM w' mb N0 l' ∧ TmV (hide (newU F' w.heap.size) w') (subT (renV L N0) x) v' ∧ Touch (mb :: F) w w' ∧ ∀ k ∈ F', k ∈ F ∨ w.heap.size ≤ k
theorem touch_set4 (w : World) (b : Nat) (u0 u1 u2 u3 : Value) : Touch [b] w (set4 w b u0 u1 u2 u3) :=
  (((touch_one w b 0 u0).trans (touch_one _ b 1 u1) (fun k hk => Or.inl hk)).trans (touch_one _ b 2 u2) (fun k hk => Or.inl hk)).trans (touch_one _ b 3 u3) (fun k hk => Or.inl hk)
section
variable {V w : World} {F : List Nat} {p : Value} {N0 mb : Nat} {L l : List Int}
set_option maxHeartbeats 4000000 in
set_option maxRecDepth 100000 in
theorem apart_var {n : Int} {s : ByteArray} {ts : List Tm} (hpre : varsT (.mk 0 n s ts) l <+: L) (hL : N0 + L.length ≤ 65536) (h : IsB V F w p (N0 + l.length) []) (hm : NamedM w mb N0 l) (hmF : ¬ mb ∈ F) (hmV : Blind V [mb]) {v : Value} (hv : TmV V (.mk 0 n s ts) v) :
    Calls Try.prog 83 #[p, v, .map (some mb)] w (ApartP V F w p N0 mb L (varsT (.mk 0 n s ts) l) (.mk 0 n s ts)) := by
  obtain ⟨u, rfl, hss, hkk, hnn, hu⟩ := tmV_iff.1 hv
  obtain ⟨a, c, rfl, hb1, hb2, hb3⟩ := hu.len
  obtain ⟨w1, e1, B1, z1, X1⟩ := box_new w #[.int .i64 0, .int .i64 n, .string s, .slice a ts.length c] 31
  obtain ⟨w2, e2, B2, z2, X2⟩ := box_new w1 #[.int .i64 0, .int .i64 0, .string ⟨#[]⟩, .slice none 0 0] 31
  have X1 := X1.ext B2
  have B12 := Ext.trans' B1 B2
  rw [z1] at X2 z2
  have HE := Lib.hid (And.intro e1 e2)
  have HB2 := Lib.hid (And.intro B12 (And.intro X1 (And.intro X2 z2)))
  have HI := Lib.hid (And.intro h (And.intro hm (And.intro hmF hmV)))
  have hres : subT (renV L N0) (.mk 0 n s ts) = varV ((N0 : Int) + (posI L n : Int)) := by rw [sub_var]; rfl
  unfold ApartP
  rw [hres]
  have HNN := Lib.hid (And.intro hnn hss)
  have hmlt := hm.lt
  obtain ⟨x0, x1, x2, x3, _⟩ := X1.four
  obtain ⟨y0, y1, y2, y3, yf⟩ := X2.four
  by_cases hn : n ∈ l
  · have hvt : varsT (.mk 0 n s ts) l = l := by rw [varsT, if_pos rfl, if_pos (by simpa using hn)]
    rw [hvt] at hpre ⊢
    rw [pos_pre hpre hn]
    obtain ⟨hp1, _, _⟩ := pos_spec hn
    have hlL := hpre.length_le
    have hlook := (hm.ext B12).look hnn
    rw [if_pos hn, decide_eq_true hn] at hlook
    obtain ⟨z, hz⟩ : ∃ z, (N0 : Int) + (posI l n : Int) = z := ⟨_, rfl⟩
    have HZ := Lib.hid (show I64 z by unfold I64; omega)
    rw [hz] at hlook ⊢
    unfold leafVal at hlook
    obtain ⟨w3, e3, B3, z3, X3⟩ := box_new w2 #[.int .i64 0, .int .i64 z, .string ⟨#[]⟩, .slice none 0 0] 31
    have HE3 := Lib.hid e3
    have HX3 := Lib.hid (And.intro B3 (And.intro X3 (X2.ext B3)))
    clear hvt hpre hp1 hlL hz h hm hmF hmV B1 B2 z1 e1 e2 B12 X1 X2 hv hu hss hkk hnn hres e3 B3 z3 X3 hb1 hb2 hb3 hn z2
    go_enter Try.func83, Try.ntmps83
    go_upto_region 1 with fail
    (try rw [HE.out.1, HE.out.2])
    go_upto_region 11 with fail
    (try rw [HE3.out])
    obtain ⟨r0, r1, r2, r3, rf⟩ := HX3.out.2.1.four
    clear y0 y1 y2 y3 yf
    obtain ⟨y0, y1, y2, y3, yf⟩ := HX3.out.2.2.four
    clear hlook x0 x1 x2 x3
    go_wp2
    refine bodyPost_ret (v := .agg #[.int .i64 0, .int .i64 z, .string ⟨#[]⟩, .slice none 0 0]) (by rw [results_cell1 rfl]; go_simp) rfl ?_
    have hb := Below.set4 (b := w.heap.size + 1) (Ext.trans' HB2.out.1 HX3.out.1) (by omega) (.int .i64 0) (.int .i64 z) (.string ⟨#[]⟩) (.slice none 0 0)
    exact ⟨F, _, rfl, HI.out.1.ext hb, HI.out.2.1.ext hb, leaf_tm _ i64_0 HZ.out (by unfold BIG; decide), Touch.of_below hb _, fun k hk => Or.inl hk⟩
  · have hvt : varsT (.mk 0 n s ts) l = l ++ [n] := by rw [varsT, if_pos rfl, if_neg (by simpa using hn)]
    rw [hvt] at hpre ⊢
    have hq2 : N0 + (l ++ [n]).length = N0 + l.length + 1 := by simp; omega
    rw [pos_pre hpre (by simp), pos_new hn, hq2]
    have hlL := hpre.length_le
    rw [List.length_append, List.length_singleton] at hlL
    have hlook := (hm.ext B12).look hnn
    rw [if_neg hn, decide_eq_false hn] at hlook
    have HST := Lib.hid (fun (wq : World) (hq : NamedM wq mb N0 l) => hq.store hnn (by unfold maxLen; omega) hn)
    have hcast : (N0 : Int) + (l.length : Int) = ((N0 + l.length : Nat) : Int) := by omega
    rw [hcast] at HST ⊢
    have C := Fresh_at (h.ext B12) (by omega)
    obtain ⟨q, hq⟩ : ∃ q, N0 + l.length = q := ⟨_, rfl⟩
    rw [hq] at HST HI C ⊢
    have HZ := Lib.hid (show I64 (q : Int) by unfold I64; omega)
    unfold leafVal at hlook
    obtain ⟨w3, e3, B3, z3, X3⟩ := box_new w2 #[.int .i64 0, .int .i64 0, .string ⟨#[]⟩, .slice none 0 0] 31
    have HE3 := Lib.hid e3
    have HX3 := Lib.hid (And.intro B3 (And.intro X3 (And.intro (X2.ext B3) (X1.ext B3))))
    have C := Fresh_at ((HI.out.1.ext HB2.out.1).ext B3) (by omega)
    have hlt3 := X3.lt
    clear hvt hpre hq2 hlL hcast hq h hm hmF hmV B1 B2 z1 e1 e2 B12 X1 X2 hv hu hss hkk hnn hres e3 B3 z3 X3 hb1 hb2 hb3 hn z2
    go_enter Try.func83, Try.ntmps83
    go_upto_region 1 with fail
    (try rw [HE.out.1, HE.out.2])
    go_upto_region 11 with fail
    (try rw [HE3.out])
    clear hlook x0 x1 x2 x3 y0 y1 y2 y3 yf
    (go_wp2_with fail; go_fit (C); rintro e w4 ⟨F4, rfl, i4, t4, in4⟩)
    have hF3 : ∀ k ∈ F, k < w.heap.size := HI.out.1.lt
    have hs2 := HB2.out.1.size
    have hsz : w.heap.size + 1 < w2.heap.size := by have := HB2.out.2.2.2; omega
    have hn3 : ¬ w2.heap.size ∈ F := fun hm => by have := hF3 _ hm; omega
    have hn2 : ¬ (w.heap.size + 1) ∈ F := fun hm => by have := hF3 _ hm; omega
    have hn1 : ¬ w.heap.size ∈ F := fun hm => by have := hF3 _ hm; omega
    have hx4 := t4.box hn3 HX3.out.2.1
    have hr4 := t4.box hn2 HX3.out.2.2.1
    have ht4 := t4.box hn1 HX3.out.2.2.2
    have hm4 : NamedM w4 mb N0 l := ((HI.out.2.1.ext HB2.out.1).ext HX3.out.1).touch t4 HI.out.2.2.1
    have hw3 : w.heap.size ≤ w3.heap.size := (Ext.trans' HB2.out.1 HX3.out.1).size
    obtain ⟨w5, e5⟩ : ∃ w5, set4 w4 w2.heap.size (.int .i64 0) (.int .i64 q) (.string ⟨#[]⟩) (.slice none 0 0) = w5 := ⟨_, rfl⟩
    have t5 : Touch [w2.heap.size] w4 w5 := by rw [← e5]; exact touch_set4 _ _ _ _ _ _
    have hm5 : NamedM w5 mb N0 l := hm4.touch t5 (by simp; omega)
    obtain ⟨w6, hrun, hm6, t6⟩ := HST.out w5 hm5
    have hx5 : Box w5 w2.heap.size [.int .i64 0, .int .i64 q, .string ⟨#[]⟩, .slice none 0 0] := by
      rw [← e5]
      exact (((hx4.set (k := 0) (u := .int .i64 0) (by simp)).set (k := 1) (u := .int .i64 q) (by simp)).set (k := 2) (u := .string ⟨#[]⟩) (by simp)).set (k := 3) (u := .slice none 0 0) (by simp)
    have ht5 := t5.box (by simp; omega) ht4
    have hx6 := t6.box (by simp; omega) hx5
    have hr6 := t6.box (by simp; omega) (t5.box (by simp; omega) hr4)
    unfold leafVal at hrun
    have H6 := Lib.hid (And.intro i4 (And.intro t4 (And.intro in4 (And.intro t5 (And.intro t6 (And.intro hm6 (And.intro hx6 hr6)))))))
    have HE5 := Lib.hid (show (((w4.setCell ⟨w2.heap.size, 0, none⟩ (.int .i64 0)).setCell ⟨w2.heap.size, 1, none⟩ (.int .i64 q)).setCell ⟨w2.heap.size, 2, none⟩ (.string ⟨#[]⟩)).setCell ⟨w2.heap.size, 3, none⟩ (.slice none 0 0) = w5 from e5)
    obtain ⟨x0, x1, x2, x3, xf⟩ := hx4.four
    obtain ⟨d0, d1, d2, d3, _⟩ := ht5.four
    obtain ⟨f0, f1, f2, f3, _⟩ := hx5.four
    clear i4 t4 in4 t5 t6 hm4 hm5 hm6 hx4 hx5 hx6 hr4 hr6 ht4 ht5 e5 C hF3 hn3 hn2 hn1
    go_upto_region 13 with fail
    (try rw [HE5.out])
    clear x0 x1 x2 x3 xf
    go_upto_region 14 with fail
    clear d0 d1 d2 d3 f0 f1 f2 f3 hrun
    obtain ⟨x0, x1, x2, x3, _⟩ := H6.out.2.2.2.2.2.2.1.four
    obtain ⟨y0, y1, y2, y3, yf⟩ := H6.out.2.2.2.2.2.2.2.four
    go_wp2
    refine bodyPost_ret (v := .agg #[.int .i64 0, .int .i64 q, .string ⟨#[]⟩, .slice none 0 0]) (by rw [results_cell1 rfl]; go_simp) rfl ?_
    obtain ⟨i4, t4, in4, t5, t6, hm6, hx6, hr6⟩ := H6.out
    have t7 := touch_set4 w6 (w.heap.size + 1) (.int .i64 0) (.int .i64 q) (.string ⟨#[]⟩) (.slice none 0 0)
    have hF3 : ∀ k ∈ F, k < w.heap.size := HI.out.1.lt
    have hs34 := t4.size
    have hnew : ∀ k, w.heap.size ≤ k → k < w3.heap.size → ¬ k ∈ F4 := fun k h1 h2 hm => (in4 k hm).elim (fun h => by have := hF3 k h; omega) (fun h => by omega)
    have hmb : ¬ mb ∈ F4 := fun hm => (in4 mb hm).elim HI.out.2.2.1 (fun h => by omega)
    have hsee := HI.out.1.see.1
    have i5 := i4.touch t5 (fun k hk => by simp at hk; subst hk; exact hnew _ (by omega) hlt3) (Blind.new hsee (fun k hk => by simp at hk; omega))
    have i6 := i5.touch t6 (fun k hk => by simp at hk; subst hk; exact hmb) HI.out.2.2.2
    have i7 := i6.touch t7 (fun k hk => by simp at hk; subst hk; exact hnew _ (by omega) (by omega)) (Blind.new hsee (fun k hk => by simp at hk; omega))
    have hm7 := hm6.touch t7 (by simp; omega)
    have tt : Touch (mb :: F) w w3 := Touch.of_below (Ext.trans' HB2.out.1 HX3.out.1) _
    have tt4 : Touch (mb :: F) w w4 := tt.trans t4 (fun k hk => Or.inl (List.mem_cons_of_mem _ hk))
    have tt5 : Touch (mb :: F) w w5 := tt4.trans t5 (fun k hk => by simp at hk; exact Or.inr (by omega))
    have tt6 : Touch (mb :: F) w w6 := tt5.trans t6 (fun k hk => by simp at hk; exact Or.inl (by simp [hk]))
    exact ⟨F4, _, rfl, i7, hm7, leaf_tm _ i64_0 HZ.out (by unfold BIG; decide), tt6.trans t7 (fun k hk => by simp at hk; exact Or.inr (by omega)), fun k hk => (in4 k hk).imp id (fun h => by omega)⟩
end
end Go.Proofs.Ytbbbgijlbcmpbaa
/- Stage 13's laws: binds, awake. -/
namespace Go.Proofs.Ytbbbgijlbcmpbaa
open Go.RowKit
set_option linter.unusedVariables false

theorem big_0 : (⟨#[]⟩ : ByteArray).size ≤ BIG := by unfold BIG; decide
theorem big_1 (c : UInt8) : (⟨#[c]⟩ : ByteArray).size ≤ BIG := by show 1 ≤ BIG; unfold BIG; omega
theorem var_rd (w : World) (n : Int) (h : I64 n) : TmV w (varV n) (.agg #[.int .i64 0, .int .i64 n, .string ⟨#[]⟩, .slice none 0 0]) := leaf_tm w i64_0 h big_0
theorem int_rd (w : World) (n : Int) (h : I64 n) : TmV w (intT n) (.agg #[.int .i64 1, .int .i64 n, .string ⟨#[]⟩, .slice none 0 0]) := leaf_tm w i64_1 h big_0
end Go.Proofs.Ytbbbgijlbcmpbaa
