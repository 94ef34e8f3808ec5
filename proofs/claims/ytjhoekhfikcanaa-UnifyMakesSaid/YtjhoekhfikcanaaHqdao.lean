import Derived.Test.YtjhoekhfikcanaaHqdam
import Derived.Test.YtjhoekhfikcanaaHqdan
import Derived.Test.YtjhoekhfikcanaaHqdag
import Derived.Test.YtjhoekhfikcanaaHqdab
import Derived.Test.YtjhoekhfikcanaaHqdae
import Derived.Test.YtjhoekhfikcanaaHqdah
set_option linter.unusedVariables false
set_option linter.unusedSimpArgs false
/- Stage 12's laws: awake. -/
namespace Go.Proofs.Ytjhoekhfikcanaa
open Go.RowKit
set_option linter.unusedVariables false

def fA : Tm := .mk 2 0 ⟨#[102]⟩ [varV 0, atomT ⟨#[98]⟩]
def fB : Tm := .mk 2 0 ⟨#[102]⟩ [atomT ⟨#[97]⟩, varV 1]
theorem awake_both : bothB 2 [] fA fB = ⟨true, 5, 0, [(1, atomT ⟨#[98]⟩), (0, atomT ⟨#[97]⟩)]⟩ := by kernel_rfl
theorem good_b : goodT (atomT ⟨#[98]⟩) = true := by decide +kernel
theorem atomb_tm (w : World) : TmV w (atomT ⟨#[98]⟩) (.agg #[.int .i64 2, .int .i64 0, .string ⟨#[98]⟩, .slice none 0 0]) := leaf_tm w i64_2 i64_0 (by unfold BIG; decide)
theorem full_a : fullB [(1, atomT ⟨#[98]⟩), (0, atomT ⟨#[97]⟩)] 0 = atomT ⟨#[97]⟩ := by kernel_rfl
theorem full_b : fullB [(1, atomT ⟨#[98]⟩), (0, atomT ⟨#[97]⟩)] 1 = atomT ⟨#[98]⟩ := by kernel_rfl
/-- A variable that stands for an atom, walked. -/
theorem walk_atom {V w : World} {F : List Nat} {p : Value} {N : Nat} {R S : List (Int × Tm)} (h : IsB V F w p N R) (hs : Sync R S) {n : Nat} (hn : n < N) {s : ByteArray} (hf : fullB S n = atomT s) :
    Calls Try.prog 18 #[p, .agg #[.int .i64 0, .int .i64 n, .string ⟨#[]⟩, .slice none 0 0]] w fun e w' => ∃ v', e = .returned v' ∧ TmV V (atomT s) v' ∧ Below w.heap.size w w' := by
  have hN := h.tri.2
  refine (Walk_at h (x := varV (n : Int)) (leaf_tm V i64_0 (by unfold I64; omega) (by unfold BIG; decide)) (var_good (by omega) (by omega)) (fun m hm => by rw [occ_varV] at hm; simp at hm; subst hm; omega)).mono ?_
  rintro e w' ⟨y, v', rfl, hy, hwk, htop, b⟩
  have hze : y = atomT s := top_leaf hwk.good htop (hwk.same.trans (by rw [sub_varV, hs.full, hf]; rfl))
  subst hze
  exact ⟨v', rfl, hy, b⟩
set_option maxHeartbeats 8000000 in
set_option maxRecDepth 100000 in
theorem uawake_at (w : World) : Calls Try.prog 34 #[] w fun e w' => e = .returned (.bool true) ∧ Below w.heap.size w w' := by
  go_enter Try.func34, Try.ntmps34
  (go_wp2_with fail; go_fit (both12_at (V := w) (Stays.refl w) 2 (by omega)); rintro e w1 ⟨p, q, rfl, h1⟩)
  obtain ⟨F, F2, hI, _, hF, _, _, hB⟩ := h1
  obtain ⟨bt, rfl⟩ : ∃ bt, p = .pointer (some ⟨bt, 0, none⟩) := by obtain ⟨bt, _, _, _, rfl, _⟩ := hI.open; exact ⟨bt, rfl⟩
  have hlt := hI.lt
  have HI := Lib.hid (And.intro hI (And.intro hF (And.intro hB hlt)))
  have hold : ∀ wq : World, w1.heap.size ≤ wq.heap.size → Old (awayB F) wq := fun wq hle k hk => by
    have : ¬ k ∈ F := fun hm => by have := hlt k hm; omega
    simp [awayB, this]
  have HOLD := Lib.hid hold
  clear hI hF hB hlt hold
  (go_wp2_with fail; go_fit (var_at _ 0); rintro e w2 ⟨rfl, b2⟩)
  (go_wp2_with fail; go_fit (atom_at _ ⟨#[98]⟩); rintro e w3 ⟨rfl, b3⟩)
  have hb3 := Ext.trans' b2 b3
  have hT1 := two_hide (D := awayB F) w3 31 (k := 0) (n := 0) (k' := 2) (n' := 0) (s := ⟨#[]⟩) (s' := ⟨#[98]⟩) i64_0 i64_0 (by unfold BIG; decide) i64_2 i64_0 (by unfold BIG; decide) (HOLD.out w3 hb3.size)
  obtain ⟨w4, e4, b4, z4, x4⟩ := box_new w3 #[.int .i64 0, .int .i64 0, .string ⟨#[]⟩, .slice none 0 0, .int .i64 2, .int .i64 0, .string ⟨#[98]⟩, .slice none 0 0] 31
  rw [e4] at hT1
  have hb4 := Ext.trans' hb3 b4
  have HB4 := Lib.hid hb4
  have C := comp_hide ⟨#[102]⟩ (by unfold BIG; decide) (HOLD.out w4 hb4.size) hT1
  clear b2 b3 hb3 hb4 b4 z4 x4 hT1
  go_wp2_with fail
  (try rw [e4])
  go_fit (C)
  rintro e w5 ⟨a5, c5, rfl, ht5, b5⟩
  have HB5 := Lib.hid (Ext.trans' HB4.out b5)
  have HT5 := Lib.hid (show TmV (hide (awayB F) w5) fA (.agg #[.int .i64 2, .int .i64 0, .string ⟨#[102]⟩, .slice a5 2 c5]) from ht5)
  clear b5 ht5 C e4
  (go_wp2_with fail; go_fit (atom_at _ ⟨#[97]⟩); rintro e w6 ⟨rfl, b6⟩)
  (go_wp2_with fail; go_fit (var_at _ 1); rintro e w7 ⟨rfl, b7⟩)
  have hb7 := Ext.trans' HB5.out (Ext.trans' b6 b7)
  have hT1 := two_hide (D := awayB F) w7 31 (k := 2) (n := 0) (k' := 0) (n' := 1) (s := ⟨#[97]⟩) (s' := ⟨#[]⟩) i64_2 i64_0 (by unfold BIG; decide) i64_0 i64_1 (by unfold BIG; decide) (HOLD.out w7 hb7.size)
  obtain ⟨w8, e8, b8, z8, x8⟩ := box_new w7 #[.int .i64 2, .int .i64 0, .string ⟨#[97]⟩, .slice none 0 0, .int .i64 0, .int .i64 1, .string ⟨#[]⟩, .slice none 0 0] 31
  rw [e8] at hT1
  have hb8 := Ext.trans' hb7 b8
  have HB8 := Lib.hid (And.intro hb8 (Ext.trans' b6 (Ext.trans' b7 b8)))
  have C := comp_hide ⟨#[102]⟩ (by unfold BIG; decide) (HOLD.out w8 hb8.size) hT1
  clear b6 b7 hb7 hb8 b8 z8 x8 hT1
  go_wp2_with fail
  (try rw [e8])
  go_fit (C)
  rintro e w9 ⟨a9, c9, rfl, ht9, b9⟩
  have HB9 := Lib.hid (And.intro (Ext.trans' HB8.out.1 b9) (Ext.trans' HB8.out.2 b9))
  have HT9 := Lib.hid (show TmV (hide (awayB F) w9) fB (.agg #[.int .i64 2, .int .i64 0, .string ⟨#[102]⟩, .slice a9 2 c9]) from ht9)
  clear b9 ht9 C e8
  have hI9 := (HI.out.1.ext HB9.out.1).rebase
  have C := Both_at hI9 (S := []) trivial (TmV.later HB9.out.2 HT5.out) HT9.out
  rw [awake_both] at C
  have HF9 := Lib.hid (And.intro HI.out.2.1 (HI.out.2.2.1.trans (HB9.out.1.mono HI.out.2.2.1.size)))
  clear hI9
  generalize hide (awayB F) w9 = V at *
  (go_wp2_with fail; go_fit (C); rintro e w10 ⟨F10, R10, rfl, i10, s10, t10, in10⟩)
  have H10 := Lib.hid (And.intro i10 (And.intro s10 (Touch.own HF9.out.2 t10 HF9.out.1)))
  clear i10 s10 t10 in10 C
  (go_wp2_with fail; go_fit (var_at _ 0); rintro e w11 ⟨rfl, b11⟩)
  have C := walk_atom (H10.out.1.ext b11) H10.out.2.1 (n := 0) (by omega) full_a
  have HB11 := Lib.hid b11
  clear b11
  (go_wp2_with fail; go_fit (C); rintro e w12 ⟨v12, rfl, hv12, b12⟩)
  obtain ⟨k12, n12, s12, a12, m12, c12, rfl, f1, f2, f3, f4⟩ := four_of hv12
  have HB12 := Lib.hid (And.intro (Ext.trans' HB11.out b12) hv12)
  clear b12 C f1 f2 f3 f4 hv12
  (go_wp2_with fail; go_fit (var_at _ 1); rintro e w13 ⟨rfl, b13⟩)
  have HB13 := Lib.hid (Ext.trans' HB12.out.1 b13)
  have C := walk_atom (H10.out.1.ext HB13.out) H10.out.2.1 (n := 1) (by omega) full_b
  clear b13
  (go_wp2_with fail; go_fit (C); rintro e w14 ⟨v14, rfl, hv14, b14⟩)
  obtain ⟨k14, n14, s14, a14, m14, c14, rfl, f1, f2, f3, f4⟩ := four_of hv14
  have HB14 := Lib.hid (And.intro (Ext.trans' HB13.out b14) hv14)
  clear b14 C f1 f2 f3 f4 hv14
  obtain ⟨w15, e15, b15, z15, x15⟩ := box_new w14 #[.int .i64 k12, .int .i64 n12, .string s12, .slice a12 m12 c12] 31
  obtain ⟨w16, e16, b16, z16, x16⟩ := box_new w15 #[.int .i64 k14, .int .i64 n14, .string s14, .slice a14 m14 c14] 31
  have HX := Lib.hid (And.intro (x15.ext b16) x16)
  rw [z15] at HX
  have HB16 := Lib.hid (Ext.trans' HB14.out.1 (Ext.trans' b15 b16))
  have HE := Lib.hid (And.intro e15 e16)
  clear b15 z15 x15 b16 z16 x16 e15 e16
  go_upto_region 4 with fail
  (try rw [HE.out.1])
  (try rw [HE.out.2])
  obtain ⟨x0, x1, x2, x3, _⟩ := HX.out.1.four
  obtain ⟨y0, y1, y2, y3, _⟩ := HX.out.2.four
  have HA := Lib.hid (fun (wq : World) (hq : Below w16.heap.size w16 wq) => TmV.stay (H10.out.1.see.1.later (Ext.trans' HB16.out hq)) _ _ HB12.out.2)
  have HBb := Lib.hid (fun (wq : World) (hq : Below w16.heap.size w16 wq) => TmV.stay (H10.out.1.see.1.later (Ext.trans' HB16.out hq)) _ _ HB14.out.2)
  refine wp_region_held_drew (S := fun w' => (w'.cell? ⟨w14.heap.size, 0, none⟩ = some (.int .i64 k12) ∧ w'.cell? ⟨w14.heap.size, 1, none⟩ = some (.int .i64 n12) ∧ w'.cell? ⟨w14.heap.size, 2, none⟩ = some (.string s12) ∧ w'.cell? ⟨w14.heap.size, 3, none⟩ = some (.slice a12 m12 c12) ∧ w'.cell? ⟨w14.heap.size + 1, 0, none⟩ = some (.int .i64 k14) ∧ w'.cell? ⟨w14.heap.size + 1, 1, none⟩ = some (.int .i64 n14) ∧ w'.cell? ⟨w14.heap.size + 1, 2, none⟩ = some (.string s14) ∧ w'.cell? ⟨w14.heap.size + 1, 3, none⟩ = some (.slice a14 m14 c14)) ∧ Below w16.heap.size w16 w') (by kernel_rfl) ⟨⟨x0, x1, x2, x3, y0, y1, y2, y3⟩, (Below.refl _ _).drew⟩ (fun hHeld => ?_)
  first | (refine held_t (i := 0) hHeld ?_; apply Exists.intro; refine ⟨fun wq hq => ?_, ?_⟩; (focus ((try dsimp only at hq); go_simp; (first | done | with_reducible rfl | fail)))) | refine held_s (i := 0) hHeld ?_ | fail
  first | (refine held_t (i := 1) hHeld ?_; apply Exists.intro; refine ⟨fun wq hq => ?_, ?_⟩; (focus ((try dsimp only at hq); go_simp; (first | done | with_reducible rfl | fail)))) | refine held_s (i := 1) hHeld ?_ | fail
  try simp only [Act.put, List.setIfInBounds_toArray, List.set_cons_zero, List.set_cons_succ]
  first | (refine held_t (i := 2) hHeld ?_; apply Exists.intro; refine ⟨fun wq hq => ?_, ?_⟩; (focus ((try dsimp only at hq); go_simp; (first | done | with_reducible rfl | fail)))) | refine held_s (i := 2) hHeld ?_ | fail
  first | (refine held_t (i := 3) hHeld ?_; apply Exists.intro; refine ⟨fun wq hq => ?_, ?_⟩; (focus ((try dsimp only at hq); go_simp; (first | done | with_reducible rfl | fail)))) | refine held_s (i := 3) hHeld ?_ | fail
  try simp only [Act.put, List.setIfInBounds_toArray, List.set_cons_zero, List.set_cons_succ]
  first | (refine held_t (i := 4) hHeld ?_; apply Exists.intro; refine ⟨fun wq hq => ?_, ?_⟩; (focus ((try dsimp only at hq); go_simp; (first | done | with_reducible rfl | fail)))) | refine held_s (i := 4) hHeld ?_ | fail
  first | (refine held_t (i := 5) hHeld ?_; apply Exists.intro; refine ⟨fun wq hq => ?_, ?_⟩; (focus ((try dsimp only at hq); go_simp; (first | done | with_reducible rfl | fail)))) | refine held_s (i := 5) hHeld ?_ | fail
  try simp only [Act.put, List.setIfInBounds_toArray, List.set_cons_zero, List.set_cons_succ]
  first | (refine held_t (i := 6) hHeld ?_; apply Exists.intro; refine ⟨fun wq hq => ?_, ?_⟩; (focus ((try dsimp only at hq); go_simp; (first | done | with_reducible rfl | fail)))) | refine held_s (i := 6) hHeld ?_ | fail
  first | (refine held_t (i := 7) hHeld ?_; apply Exists.intro; refine ⟨fun wq hq => ?_, ?_⟩; (focus ((try dsimp only at hq); go_simp; (first | done | with_reducible rfl | fail)))) | refine held_s (i := 7) hHeld ?_ | fail
  try simp only [Act.put, List.setIfInBounds_toArray, List.set_cons_zero, List.set_cons_succ]
  first | (refine held_t (i := 8) hHeld ?_; apply Exists.intro; refine ⟨fun wq hq => ?_, ?_⟩; (focus ((try dsimp only at hq); go_simp; (first | done | with_reducible rfl | fail)))) | refine held_s (i := 8) hHeld ?_ | fail
  first | (refine held_t (i := 9) hHeld ?_; apply Exists.intro; refine ⟨fun wq hq => ?_, ?_⟩; (focus ((try dsimp only at hq); go_simp; (first | done | with_reducible rfl | fail)))) | refine held_s (i := 9) hHeld ?_ | fail
  try simp only [Act.put, List.setIfInBounds_toArray, List.set_cons_zero, List.set_cons_succ]
  first | (refine held_t (i := 10) hHeld ?_; apply Exists.intro; refine ⟨fun wq hq => ?_, ?_⟩; (focus ((try dsimp only at hq); go_simp; (first | done | with_reducible rfl | fail)))) | refine held_s (i := 10) hHeld ?_ | fail
  try simp only [Act.put, List.setIfInBounds_toArray, List.set_cons_zero, List.set_cons_succ]
  refine held_c 11 fun K hK => ?_
  go_simp
  (go_at_call 39; refine (atom_at _ ⟨#[97]⟩).mono ?_; rintro e w6 ⟨rfl, h6⟩)
  refine hK.out _ _ (⟨⟨cell_later h6 hHeld.1.1, cell_later h6 hHeld.1.2.1, cell_later h6 hHeld.1.2.2.1, cell_later h6 hHeld.1.2.2.2.1, cell_later h6 hHeld.1.2.2.2.2.1, cell_later h6 hHeld.1.2.2.2.2.2.1, cell_later h6 hHeld.1.2.2.2.2.2.2.1, cell_later h6 hHeld.1.2.2.2.2.2.2.2⟩, Ext.trans' hHeld.2 h6⟩) (fun hHeld => ?_)
  clear hK K
  try simp only [Act.put, List.setIfInBounds_toArray, List.set_cons_zero, List.set_cons_succ]
  refine held_c 12 fun K hK => ?_
  go_simp
  (go_at_call 19; refine (Same_at (HA.out _ hHeld.2) (atom_tm _)).mono ?_; rintro e w6 ⟨rfl, h6⟩; rw [good_atom, same_atom])
  refine hK.out _ _ (⟨⟨cell_later h6 hHeld.1.1, cell_later h6 hHeld.1.2.1, cell_later h6 hHeld.1.2.2.1, cell_later h6 hHeld.1.2.2.2.1, cell_later h6 hHeld.1.2.2.2.2.1, cell_later h6 hHeld.1.2.2.2.2.2.1, cell_later h6 hHeld.1.2.2.2.2.2.2.1, cell_later h6 hHeld.1.2.2.2.2.2.2.2⟩, Ext.trans' hHeld.2 h6⟩) (fun hHeld => ?_)
  clear hK K
  try simp only [Act.put, List.setIfInBounds_toArray, List.set_cons_zero, List.set_cons_succ]
  first | (refine held_t (i := 13) hHeld ?_; apply Exists.intro; refine ⟨fun wq hq => ?_, ?_⟩; (focus ((try dsimp only at hq); go_simp; (first | done | with_reducible rfl | fail)))) | refine held_s (i := 13) hHeld ?_ | fail
  first | (refine held_t (i := 14) hHeld ?_; apply Exists.intro; refine ⟨fun wq hq => ?_, ?_⟩; (focus ((try dsimp only at hq); go_simp; (first | done | with_reducible rfl | fail)))) | refine held_s (i := 14) hHeld ?_ | fail
  try simp only [Act.put, List.setIfInBounds_toArray, List.set_cons_zero, List.set_cons_succ]
  first | (refine held_t (i := 15) hHeld ?_; apply Exists.intro; refine ⟨fun wq hq => ?_, ?_⟩; (focus ((try dsimp only at hq); go_simp; (first | done | with_reducible rfl | fail)))) | refine held_s (i := 15) hHeld ?_ | fail
  try simp only [Act.put, List.setIfInBounds_toArray, List.set_cons_zero, List.set_cons_succ]
  refine held_c 16 fun K hK => ?_
  go_simp
  (go_at_call 39; refine (atom_at _ ⟨#[98]⟩).mono ?_; rintro e w6 ⟨rfl, h6⟩)
  refine hK.out _ _ (⟨⟨cell_later h6 hHeld.1.1, cell_later h6 hHeld.1.2.1, cell_later h6 hHeld.1.2.2.1, cell_later h6 hHeld.1.2.2.2.1, cell_later h6 hHeld.1.2.2.2.2.1, cell_later h6 hHeld.1.2.2.2.2.2.1, cell_later h6 hHeld.1.2.2.2.2.2.2.1, cell_later h6 hHeld.1.2.2.2.2.2.2.2⟩, Ext.trans' hHeld.2 h6⟩) (fun hHeld => ?_)
  clear hK K
  try simp only [Act.put, List.setIfInBounds_toArray, List.set_cons_zero, List.set_cons_succ]
  refine held_c 17 fun K hK => ?_
  go_simp
  (go_at_call 19; refine (Same_at (HBb.out _ hHeld.2) (atomb_tm _)).mono ?_; rintro e w6 ⟨rfl, h6⟩; rw [good_b, same_self])
  refine hK.out _ _ (⟨⟨cell_later h6 hHeld.1.1, cell_later h6 hHeld.1.2.1, cell_later h6 hHeld.1.2.2.1, cell_later h6 hHeld.1.2.2.2.1, cell_later h6 hHeld.1.2.2.2.2.1, cell_later h6 hHeld.1.2.2.2.2.2.1, cell_later h6 hHeld.1.2.2.2.2.2.2.1, cell_later h6 hHeld.1.2.2.2.2.2.2.2⟩, Ext.trans' hHeld.2 h6⟩) (fun hHeld => ?_)
  clear hK K
  try simp only [Act.put, List.setIfInBounds_toArray, List.set_cons_zero, List.set_cons_succ]
  first | (refine held_t (i := 18) hHeld ?_; apply Exists.intro; refine ⟨fun wq hq => ?_, ?_⟩; (focus ((try dsimp only at hq); go_simp; (first | done | with_reducible rfl | fail)))) | refine held_s (i := 18) hHeld ?_ | fail
  first | (refine held_t (i := 19) hHeld ?_; apply Exists.intro; refine ⟨fun wq hq => ?_, ?_⟩; (focus ((try dsimp only at hq); go_simp; (first | done | with_reducible rfl | fail)))) | refine held_s (i := 19) hHeld ?_ | fail
  try simp only [Act.put, List.setIfInBounds_toArray, List.set_cons_zero, List.set_cons_succ]
  have HEND := Lib.hid (Ext.trans' HB16.out hHeld.2)
  clear hHeld
  refine wpAnyH_done (by kernel_rfl) ?_ _
  go_wp2
  go_ret
  exact ⟨rfl, H10.out.2.2.trans (HEND.out.mono H10.out.2.2.size)⟩
end Go.Proofs.Ytjhoekhfikcanaa
/- The document's side of chapter 13: rename, walked. -/
namespace Go.Proofs.Ytjhoekhfikcanaa
open Go.RowKit
set_option linter.unusedVariables false

theorem pos_spec {n : Int} : ∀ {l : List Int}, n ∈ l → posI l n < l.length ∧ l[posI l n]? = some n ∧ ∀ (j : Nat) (y : Int), j < posI l n → l[j]? = some y → ¬ y = n
  | x :: r, h => by
    rw [posI]
    by_cases e : x = n
    · rw [if_pos e]
      exact ⟨by simp, by simp [e], fun j y hj => by omega⟩
    · rw [if_neg e]
      have hr : n ∈ r := by
        rcases List.mem_cons.1 h with h | h
        · exact absurd h.symm e
        · exact h
      obtain ⟨h1, h2, h3⟩ := pos_spec hr
      refine ⟨by simp; omega, by simpa using h2, fun j y hj hy => ?_⟩
      cases j with
      | zero => simp at hy; subst hy; exact e
      | succ j => exact h3 j y (by omega) (by simpa using hy)
/-- What holds as the Args are renamed. -/
def RenI (Ts : List Tm) (w : World) (lb m : Nat) (vs : List Value) (j : Nat) (wr : World) : Prop :=
  ∃ ps : List TmP, ps.length = j ∧ ps.map (·.1) = Ts.take j ∧ Lay wr lb m ps ∧ (∀ p ∈ ps, TmV (hide (under (lb + 1)) wr) p.1 (pVal p)) ∧ Below w.heap.size w wr ∧
    Box wr w.heap.size vs ∧ Box wr (w.heap.size + 1) [.int .i64 0, .int .i64 0, .string ⟨#[]⟩, .slice none 0 0]
/-- What rename answers. -/
def RenP (w : World) (T : Tm) (e : Ending) (w' : World) : Prop := ∃ v', e = .returned v' ∧ TmV (hide (under w.heap.size) w') T v' ∧ Below w.heap.size w w'
set_option maxHeartbeats 8000000 in
set_option maxRecDepth 100000 in
theorem rename_at : ∀ (M : Nat) (x : Tm), sizeN x ≤ M → ∀ (l : List Int) (first : Int), formedT x = true → (∀ m ∈ occT x, m ∈ l) → 0 ≤ first → first + l.length ≤ 4294967296 → ∀ (w : World) (v lv : Value), TmV w x v → Nums w lv l →
    Calls Try.prog 89 #[v, lv, .int .i64 first] w (RenP w (subT (renV l first) x))
  | 0, x, h, l, first, hf, ho, h0, h1, w, v, lv, hv, hl => by have := size_pos x; omega
  | M + 1, .mk k n s ts, h, l, first, hf, ho, h0, h1, w, v, lv, hv, hl => by
    obtain ⟨u, rfl, hss, hkk, hnn, hu⟩ := tmV_iff.1 hv
    obtain ⟨a, c, rfl, hb1, hb2, hb3⟩ := hu.len
    unfold maxLen at hb2
    obtain ⟨la, lc, rfl, hl1, hl2⟩ := hl.len
    unfold maxLen at hl2
    obtain ⟨w1, e1, B1, z1, X1⟩ := box_new w #[.int .i64 k, .int .i64 n, .string s, .slice a ts.length c] 48
    obtain ⟨w2, e2, B2, z2, X2⟩ := box_new w1 #[.int .i64 0, .int .i64 0, .string ⟨#[]⟩, .slice none 0 0] 48
    have X1 := X1.ext B2
    have B12 := Ext.trans' B1 B2
    rw [z1] at X2 z2
    have HE := Lib.hid (And.intro e1 e2)
    have HB2 := Lib.hid (And.intro B12 (And.intro X1 (And.intro X2 z2)))
    have HL := Lib.hid hl
    clear B1 B2 z1 e1 e2 hl B12
    by_cases hk0 : k = 0
    · subst hk0
      have hT : subT (renV l first) (.mk 0 n s ts) = varV (first + (posI l n : Int)) := by rw [sub_var]; rfl
      rw [hT]
      obtain ⟨hp1, hp2, hp3⟩ := pos_spec (ho n (by rw [occ_var]; simp))
      obtain ⟨P, hP⟩ : ∃ P, posI l n = P := ⟨_, rfl⟩
      rw [hP] at hp1 hp2 hp3 ⊢
      obtain ⟨z, hz⟩ : ∃ z, first + (P : Int) = z := ⟨_, rfl⟩
      have hwz : IntKind.i64.wrap z = z := by rw [IntKind.wrap_i64]; omega
      have HP := Lib.hid (And.intro hp2 hp3)
      have HZ := Lib.hid (show I64 z by unfold I64; omega)
      obtain ⟨q, hq⟩ : ∃ q, l.length = q := ⟨_, rfl⟩
      have HQ := Lib.hid hq
      rw [hq] at hl1 hp1 HL ⊢
      rw [hz]
      have hz2 := hz
      clear hT hP hp2 hp3 hf ho hv hu h hq X1 X2 hss hkk hnn h0 h1 hz
      go_enter Try.func89, Try.ntmps89
      go_upto_region 1 with fail
      (try rw [HE.out.1, HE.out.2])
      obtain ⟨x0, x1, x2, x3, _⟩ := HB2.out.2.1.four
      go_wp2_with fail
      go_loopw [7] (fun v wr => ∃ i : Nat, i ≤ P ∧ v = .int .i64 i ∧ Hid (Below w2.heap.size w2 wr)) (fun v _ => P + 1 - (intOf v).toNat)
      case atStart => exact ⟨0, Nat.zero_le _, rfl, Lib.hid (Below.refl _ _)⟩
      case round =>
        obtain ⟨i, hi, rfl, HB⟩ := hrel
        have hiq : (i : Int) < q := by omega
        obtain ⟨y, hy⟩ : ∃ y, l[i]? = some y := ⟨_, List.getElem?_eq_getElem (by rw [HQ.out]; omega)⟩
        obtain ⟨gb, go, rfl, _, c0⟩ := HL.out.get hy
        have c0 := cell_later HB.out (cell_later HB2.out.1 c0)
        have x1 := (HB2.out.2.1.ext HB.out).cells 1 _ rfl
        clear x0 x2 x3
        by_cases hiP : i = P
        · subst hiP
          obtain rfl : n = y := by have := HP.out.1; rw [hy] at this; exact (Option.some.inj this).symm
          have hnn2 : (n == n) = true := by simp
          clear hy
          go_wp2_with fail
          go_quiet (fail)
          have HBQ := Lib.hid (belN HB.out nq)
          obtain ⟨r0, r1, r2, r3, rf⟩ := (HB2.out.2.2.1.ext HBQ.out).four
          clear c0 x1
          generalize wr.drewN nq = w6 at *
          go_wp2
          refine bodyPost_ret (v := .agg #[.int .i64 0, .int .i64 z, .string ⟨#[]⟩, .slice none 0 0]) (by rw [results_cell1 rfl]; go_simp) rfl ⟨_, rfl, leaf_tm _ i64_0 HZ.out (by unfold BIG; decide), ?_⟩
          exact Below.set4 (Ext.trans' HB2.out.1 HBQ.out) (by omega) _ _ _ _
        · have hne : (y == n) = false := by have := HP.out.2 i y (by omega) hy; simpa using this
          clear hy
          go_wp2_with fail
          go_quiet (fail)
          have HBQ := Lib.hid (belN HB.out nq)
          go_wp2
          go_roundw
          case rel => exact ⟨i + 1, by omega, by go_num, HBQ⟩
          case measure => simp [intOf]; omega
    · have hk0' : (k == 0) = false := by simpa using hk0
      have hT : subT (renV l first) (.mk k n s ts) = .mk k n s (subL (renV l first) ts) := sub_not _ hk0 _ _ _
      rw [hT]
      obtain ⟨m, hm⟩ : ∃ m, ts.length = m := ⟨_, rfl⟩
      by_cases hm0 : m = 0
      · subst hm0
        obtain rfl : ts = [] := List.eq_nil_of_length_eq_zero hm
        have HV := Lib.hid (show ∀ w', TmV (hide (under w.heap.size) w') (.mk k n s (subL (renV l first) [])) (.agg #[.int .i64 k, .int .i64 n, .string s, .slice a 0 c]) from fun w' => by rw [subL]; exact tmV_iff.2 ⟨_, rfl, hss, hkk, hnn, a, c, rfl, Nat.zero_le _, by unfold maxLen; omega, by simp, Or.inl rfl⟩)
        obtain ⟨x0, x1, x2, x3, _⟩ := HB2.out.2.1.four
        obtain ⟨r0, r1, r2, r3, rf⟩ := HB2.out.2.2.1.four
        clear hT hm hf ho hv hu h X1 X2 hss hkk hnn h0 h1
        go_enter Try.func89, Try.ntmps89
        go_upto_region 1 with fail
        (try rw [HE.out.1, HE.out.2])
        go_wp2
        refine bodyPost_ret (v := .agg #[.int .i64 k, .int .i64 n, .string s, .slice a 0 c]) (by rw [results_cell1 rfl]; go_simp) rfl ⟨_, rfl, HV.out _, ?_⟩
        first
        | exact Below.set4 (b := w.heap.size + 1) HB2.out.1 (by omega) _ _ _ _
        | exact Ext.trans' (bel1' w _) (bel1' _ _)
      · have hm1 : ((m : Int) == 0) = false := beq_false_of_ne (by omega)
        obtain ⟨rfl, rfl, hm8'⟩ : k = 2 ∧ n = 0 ∧ ts.length ≤ 8 := formed_args hf (fun e => hm0 (by rw [← hm, e]; rfl))
        have hm8 : m ≤ 8 := by omega
        rw [formedT, Bool.and_eq_true] at hf
        rw [occ_not hk0] at ho
        have IH := Lib.hid (fun (y : Tm) (hy : y ∈ ts) => rename_at M y (mem_size h hy) l first (formed_mem hf.2 hy) (fun i hi => ho i (mem_occL.2 ⟨y, hy, hi⟩)) h0 h1)
        have HU := Lib.hid hu
        have HM := Lib.hid hm
        have HYB := Lib.hid hss
        obtain ⟨Ts, hTs⟩ : ∃ Ts, subL (renV l first) ts = Ts := ⟨_, rfl⟩
        have HTS := Lib.hid (And.intro hTs (show Ts.length = m by rw [← hTs, subL_len, hm]))
        rw [hTs]
        obtain ⟨q, hq⟩ : ∃ q, l.length = q := ⟨_, rfl⟩
        rw [hm] at hb1 hb3 hu HU X1 HB2 HE ⊢
        rw [hq] at hl1 HL ⊢
        have hz2 := HB2.out.2.2.2
        obtain ⟨w7, e7⟩ : ∃ w7, w2.alloc (.cells (madeCells #[.int .i64 0, .int .i64 0, .string ⟨#[]⟩, .slice none 0 0] (m * 4)) 48) = w7 := ⟨_, rfl⟩
        obtain ⟨lb, hlb⟩ : ∃ lb, w2.heap.size = lb := ⟨_, rfl⟩
        have HMK := make_terms m hm8 w2
        rw [e7, hlb] at HMK
        have hL0 : Lay w7 lb m [] := hlb ▸ e7 ▸ lay_new w2 m _
        have hb7 : Below w2.heap.size w2 w7 := e7 ▸ bel1' w2 _
        have hlbw : lb = w.heap.size + 1 + 1 := by omega
        have HI7 := Lib.hid (show RenI Ts w lb m [.int .i64 2, .int .i64 0, .string s, .slice a m c] 0 w7 from
          ⟨[], rfl, by simp, hL0, fun p hp => (by cases hp), Ext.trans' HB2.out.1 hb7, HB2.out.2.1.ext hb7, HB2.out.2.2.1.ext hb7⟩)
        have HLB := Lib.hid hlbw
        obtain ⟨x0, x1, x2, x3, _⟩ := HB2.out.2.1.four
        clear hL0 hb7 e7 hlb hT hm hf ho hv hu h X1 X2 hss hkk hnn h0 h1 hTs hq hm8' hz2 hlbw
        go_enter Try.func89, Try.ntmps89
        go_upto_region 1 with fail
        (try rw [HE.out.1, HE.out.2])
        go_upto_region 11 with fail
        clear x0 x1 x2 x3 HMK hm1
        go_wp2_with fail
        go_loopw [9] (fun z wr => ∃ j : Nat, j ≤ m ∧ z = .int .i64 j ∧ Hid (RenI Ts w lb m [.int .i64 2, .int .i64 0, .string s, .slice a m c] j wr)) (fun z _ => m - (intOf z).toNat)
        case atStart => exact ⟨0, Nat.zero_le _, rfl, HI7⟩
        case round =>
          obtain ⟨j, hj, rfl, HP⟩ := hrel
          obtain ⟨ps, hpl, hpm, hLy, hpT, hbw, hx5, hx8⟩ := HP.out
          obtain ⟨y0, y1, y2, y3, yf⟩ := hx5.four
          have hl3 : w.heap.size + 1 < lb := by have := HLB.out; omega
          by_cases hjm : j < m
          · obtain ⟨y, hy⟩ : ∃ u, ts[j]? = some u := ⟨_, List.getElem?_eq_getElem (by rw [HM.out]; exact hjm)⟩
            obtain ⟨gb, go, ku, nu, su, vu, rfl, _, _, _, _, d0, d1, d2, d3, _, htu⟩ := HU.out.get hy
            have g0 := cell_later hbw d0
            have g1 := cell_later hbw d1
            have g2 := cell_later hbw d2
            have g3 := cell_later hbw d3
            have hTj : Ts[j]? = some (subT (renV l first) y) := by rw [← HTS.out.1]; exact sizes_map_drop hy
            obtain ⟨U, hUU⟩ : ∃ U, subT (renV l first) y = U := ⟨_, rfl⟩
            rw [hUU] at hTj
            have HC := Lib.hid (fun (wq : World) (hb : Below wr.heap.size wr wq) => IH.out y (List.mem_of_getElem? hy) wq _ _ (TmV.ext (Ext.trans' hbw hb) _ _ htu) (HL.out.ext (Ext.trans' hbw hb)))
            rw [hUU] at HC
            have hjm2 : (j : Int) < m := by omega
            obtain ⟨r0, r1, r2, r3⟩ := hLy.rest j (by omega) hjm
            have rfz := hLy.fz
            have HPS := Lib.hid (And.intro hpl (And.intro hpm (And.intro hLy (And.intro hpT (And.intro hbw (And.intro hx5 (And.intro hx8 hTj)))))))
            clear hpl hpm hLy hpT hbw hx5 hx8 hTj hy htu d0 d1 d2 d3 hUU HP y0 y1 y2 yf
            have C := HC.out wr (Below.refl _ _)
            (go_wp2_with fail; go_fit (C); rintro e w8 ⟨v8, rfl, hTU, b8⟩)
            obtain ⟨k5, n5, s5, a5, l5, c5, rfl, _, _, _, hpv⟩ := four_of hTU
            have hpc : pCells (U, .slice a5 l5 c5) = [.int .i64 k5, .int .i64 n5, .string s5, .slice a5 l5 c5] := by
              have := hpv
              simp only [pVal, Value.agg.injEq] at this
              have h2 := congrArg Array.toList this
              exact h2.symm
            have HN := Lib.hid (show RenI Ts w lb m [.int .i64 2, .int .i64 0, .string s, .slice (some ⟨gb, go, none⟩) m c] (j + 1) (setAt w8 lb (j * 4) (.int .i64 k5) (.int .i64 n5) (.string s5) (.slice a5 l5 c5)) from by
              obtain ⟨hpl, hpm, hLy, hpT, hbw, hx5, hx8, hTj⟩ := HPS.out
              have hd : under (lb + 1) lb = true := by simp
              have hstay : ∀ t v, TmV (hide (under (lb + 1)) w8) t v → TmV (hide (under (lb + 1)) (setAt w8 lb (j * 4) (.int .i64 k5) (.int .i64 n5) (.string s5) (.slice a5 l5 c5))) t v := fun t v ht =>
                TmV.stay (((((Stays.set (D := under (lb + 1)) ⟨lb, j * 4, none⟩ _ hd).trans (Stays.set ⟨lb, j * 4 + 1, none⟩ _ hd)).trans (Stays.set ⟨lb, j * 4 + 2, none⟩ _ hd)).trans (Stays.set ⟨lb, j * 4 + 3, none⟩ _ hd))) _ _ ht
              have hlbl := hLy.lt
              have hLp := (hLy.later b8).put (by rw [hpl]; exact hjm) hpc
              rw [hpl] at hLp
              have hb8 := Ext.trans' hbw b8
              refine ⟨ps ++ [(U, .slice a5 l5 c5)], by rw [List.length_append, hpl]; rfl, by rw [List.map_append, hpm, take_next hTj]; rfl, hLp, fun p hp => hstay _ _ ?_, (((hb8.setCell (p := ⟨lb, j * 4, none⟩) (by show w.heap.size ≤ lb; omega) _).setCell (p := ⟨lb, j * 4 + 1, none⟩) (by show w.heap.size ≤ lb; omega) _).setCell (p := ⟨lb, j * 4 + 2, none⟩) (by show w.heap.size ≤ lb; omega) _).setCell (p := ⟨lb, j * 4 + 3, none⟩) (by show w.heap.size ≤ lb; omega) _, ((((hx5.ext b8).far (by omega)).far (by omega)).far (by omega)).far (by omega), ((((hx8.ext b8).far (by omega)).far (by omega)).far (by omega)).far (by omega)⟩
              rcases List.mem_append.1 hp with hp | hp
              · exact TmV.stay (Stays.hide b8.size fun k hk hd => ⟨hd, b8.block k hk⟩) _ _ (hpT p hp)
              · rw [List.mem_singleton] at hp
                subst hp
                rw [← hpv]
                exact TmV.stay (Stays.less fun k hk => by simp at hk ⊢; omega) _ _ hTU)
            have hjl : ps.length = j := HPS.out.1
            obtain ⟨r0, r1, r2, r3⟩ := ((HPS.out.2.2.1).later b8).rest j (by omega) hjm
            have rfz := ((HPS.out.2.2.1).later b8).fz
            clear hjl C b8 hTU hpv hpc g0 g1 g2 g3 y3
            go_wp2
            go_roundw
            case rel => exact ⟨j + 1, by omega, by go_num, HN⟩
            case measure => simp [intOf]; omega
          · have hjm2 : j = m := by omega
            subst hjm2
            have HE9 := Lib.hid HP.out
            clear hpl hpm hLy hpT hbw hx5 HP
            have HR9 := rcomp_at wr s (some ⟨lb, 0, none⟩) j j
            (go_wp2_with fail; go_fit (HR9); rintro e w9 ⟨rfl, b9⟩)
            obtain ⟨r0, r1, r2, r3, rf⟩ := (hx8.ext b9).four
            have HB9 := Lib.hid b9
            have HFA := Lib.hid (show TmV (hide (under w.heap.size) (set4 w9 (w.heap.size + 1) (.int .i64 2) (.int .i64 0) (.string s) (.slice (some ⟨lb, 0, none⟩) j j))) (.mk 2 0 s Ts) (.agg #[.int .i64 2, .int .i64 0, .string s, .slice (some ⟨lb, 0, none⟩) j j]) ∧ Below w.heap.size w (set4 w9 (w.heap.size + 1) (.int .i64 2) (.int .i64 0) (.string s) (.slice (some ⟨lb, 0, none⟩) j j)) from by
              obtain ⟨ps, hpl, hpm, hLy, hpT, hbw, hx5, hx8⟩ := HE9.out
              have htk : Ts.take j = Ts := List.take_of_length_le (by rw [HTS.out.2]; exact Nat.le_refl _)
              rw [htk] at hpm
              refine ⟨?_, Below.set4 (b := w.heap.size + 1) (Ext.trans' hbw HB9.out) (by omega) _ _ _ _⟩
              refine tmV_iff.2 ⟨_, rfl, HYB.out, i64_2, i64_0, ?_⟩
              have hlf : under lb lb = false := by simp
              have h1 := (hLy.later HB9.out).out (D := under lb) hpl hlf (fun p hp => TmV.stay (Stays.less fun k hk => by simp at hk ⊢; omega) _ _ (TmV.stay (Stays.hide (D := under (lb + 1)) (D' := under (lb + 1)) HB9.out.size fun k hk hd => ⟨hd, HB9.out.block k hk⟩) _ _ (hpT p hp))) (by unfold BIG; omega)
              rw [hpm] at h1
              have hd1 : under lb (w.heap.size + 1) = true := by simp; omega
              have h2 := h1.stay ((((Stays.set (D := under lb) ⟨w.heap.size + 1, 0, none⟩ (.int .i64 2) hd1).trans (Stays.set ⟨w.heap.size + 1, 1, none⟩ (.int .i64 0) hd1)).trans (Stays.set ⟨w.heap.size + 1, 2, none⟩ (.string s) hd1)).trans (Stays.set ⟨w.heap.size + 1, 3, none⟩ (.slice (some ⟨lb, 0, none⟩) j j) hd1))
              exact h2.stay (Stays.less fun k hk => by simp at hk ⊢; omega))
            clear b9 y0 y1 y2 y3 yf hx8
            go_wp2
            refine bodyPost_ret (v := .agg #[.int .i64 2, .int .i64 0, .string s, .slice (some ⟨lb, 0, none⟩) j j]) (by rw [results_cell1 rfl]; go_simp) rfl ⟨_, rfl, HFA.out.1, HFA.out.2⟩
end Go.Proofs.Ytjhoekhfikcanaa
/- The document's side of chapter 13: From, Alike, walked. -/
namespace Go.Proofs.Ytjhoekhfikcanaa
open Go.RowKit
set_option linter.unusedVariables false

/-- What From answers: the term, the next, the error. -/
def fromB (first : Int) (x : Tm) : Tm × Int × Int := if goodT x = true then (renT first x, first + ((varsT x []).length : Int), 0) else (varV 0, 0, 1)
theorem results_cell3' {fn : Func} {p u v : Tmp} {ty : TypeId} (h : fn.results = #[.cell p ty, .tmp u, .tmp v]) (tmps : Array Value) (P : Program) (w : World) :
    (results fn tmps).run P w =
      ((asAddr (tmps.getD p undef)).run P w).andThen fun a w₁ => ((loadVar ty a).run P w₁).andThen fun x w₂ => .ok (.tuple #[x, tmps.getD u undef, tmps.getD v undef]) w₂ := by
  simp only [results, h]
  simp [Sem.run_bind, Result.andThen]
mutual
theorem xvars_len : ∀ (t : Tm) (l : List Int), (varsT t l).length ≤ l.length + sizeN t
  | .mk k n s ts, l => by
    rw [varsT, sizeN]
    by_cases hk : k = 0
    · rw [if_pos hk]
      split
      · omega
      · simp
    · rw [if_neg hk]
      have := xvarss_len ts l
      omega
theorem xvarss_len : ∀ (ts : List Tm) (l : List Int), (varsL ts l).length ≤ l.length + sizesN ts
  | [], l => by rw [varsL, sizesN]; omega
  | x :: r, l => by
    rw [varsL, sizesN]
    have h1 := xvars_len x l
    have h2 := xvarss_len r (varsT x l)
    omega
end
set_option maxHeartbeats 8000000 in
set_option maxRecDepth 100000 in
theorem From_at (x : Tm) (first : Int) (h0 : 0 ≤ first) (h1 : first ≤ 1000000000) (w : World) (v : Value) (hv : TmV w x v) :
    Calls Try.prog 68 #[v, .int .i64 first] w fun e w' => ∃ r, e = .returned (.tuple #[r, .int .i64 (fromB first x).2.1, .int .i64 (fromB first x).2.2]) ∧ TmV (hide (under w.heap.size) w') (fromB first x).1 r ∧ Below w.heap.size w w' := by
  obtain ⟨k, n, s, a, m, c, rfl⟩ := hv.full
  obtain ⟨w1, e1, B1, z1, X1⟩ := box_new w #[.int .i64 k, .int .i64 n, .string s, .slice a m c] 48
  obtain ⟨w2, e2, B2, z2, X2⟩ := box_new w1 #[.int .i64 0, .int .i64 0, .string ⟨#[]⟩, .slice none 0 0] 48
  have X1 := X1.ext B2
  have B12 := Ext.trans' B1 B2
  rw [z1] at X2 z2
  have HE := Lib.hid (And.intro e1 e2)
  have HB2 := Lib.hid (And.intro B12 (And.intro X1 (And.intro X2 z2)))
  have HV := Lib.hid (fun (wq : World) (hb : Below w.heap.size w wq) => TmV.ext hb _ _ hv)
  have hfi : ¬ (first < 0) := by omega
  have hfi2 : decide (first < 0) = false := by simp; omega
  have hfi3 : decide ((2147483648 : Int) ≤ first) = false := by simp; omega
  have hfi4 : ¬ ((2147483648 : Int) ≤ first) := by omega
  obtain ⟨x0, x1, x2, x3, _⟩ := X1.four
  have C := rgood_at x w2 _ (HV.out _ B12)
  clear B1 B2 z1 e1 e2 B12 X1 X2 hv
  cases hg : goodT x
  · have hr : fromB first x = (varV 0, 0, 1) := by unfold fromB; rw [hg]; rfl
    rw [hr]
    rw [hg] at C
    clear hr hg
    go_enter Try.func68, Try.ntmps68
    go_upto_region 1 with fail
    (try rw [HE.out.1, HE.out.2])
    (go_wp2_with fail; go_fit (C); rintro e w3 ⟨rfl, b3⟩)
    have HB3 := Lib.hid (Ext.trans' HB2.out.1 b3)
    obtain ⟨r0, r1, r2, r3, rf⟩ := (HB2.out.2.2.1.ext b3).four
    clear b3
    go_wp2
    refine bodyPost_ret (v := .tuple #[.agg #[.int .i64 0, .int .i64 0, .string ⟨#[]⟩, .slice none 0 0], .int .i64 0, .int .i64 1]) (by rw [results_cell3' rfl]; go_simp) rfl ⟨_, rfl, leaf_tm _ i64_0 i64_0 (by unfold BIG; decide), ?_⟩
    exact Below.set4 (b := w.heap.size + 1) HB3.out (by omega) _ _ _ _
  · have hlen := xvars_len x []
    have hsz := (good_parts hg).1
    obtain ⟨L, hL⟩ : ∃ L, (varsT x []).length = L := ⟨_, rfl⟩
    have hr : fromB first x = (renT first x, first + (L : Int), 0) := by unfold fromB; rw [hg, hL]; rfl
    rw [hr]
    rw [hg] at C
    have hLb : L ≤ 2000 := by simp at hlen; omega
    obtain ⟨z, hz⟩ : ∃ z, first + (L : Int) = z := ⟨_, rfl⟩
    have hwz : IntKind.i64.wrap z = z := by rw [IntKind.wrap_i64]; omega
    have hz2 : ¬ ((2147483648 : Int) < z) := by omega
    have HVR := Lib.hid (fun (wq : World) (hb : Below w.heap.size w wq) => rVars_at x wq _ (HV.out _ hb))
    rw [hg, if_pos rfl] at HVR
    have HRN := Lib.hid (fun (wq : World) (hb : Below w.heap.size w wq) (lv : Value) (hl : Nums wq lv (varsT x [])) => rename_at _ x (Nat.le_refl _) (varsT x []) first (good_parts hg).2.2 (fun i hi => (mem_vars2 x []).2 (Or.inr hi)) h0 (by rw [hL]; omega) wq _ lv (HV.out _ hb) hl)
    have HL := Lib.hid hL
    rw [hz]
    have HT := Lib.hid (show subT (renV (varsT x []) first) x = renT first x from rfl)
    clear hr hg hlen hsz hL
    go_enter Try.func68, Try.ntmps68
    go_upto_region 1 with fail
    (try rw [HE.out.1, HE.out.2])
    (go_wp2_with fail; go_fit (C); rintro e w3 ⟨rfl, b3⟩)
    have HB3 := Lib.hid (Ext.trans' HB2.out.1 b3)
    have HX3 := Lib.hid (And.intro (HB2.out.2.1.ext b3) (HB2.out.2.2.1.ext b3))
    clear b3 C x0 x1 x2 x3
    obtain ⟨x0, x1, x2, x3, _⟩ := HX3.out.1.four
    have C := HVR.out w3 HB3.out
    (go_wp2_with fail; go_fit (C); rintro e w4 ⟨rv, rfl, hnv, b4⟩)
    obtain ⟨ra, rc, rfl, hrc1, hrc2⟩ := hnv.len
    rw [HL.out] at hrc1 ⊢
    unfold maxLen at hrc2
    have HB4 := Lib.hid (Ext.trans' HB3.out b4)
    have HX4 := Lib.hid (And.intro (HX3.out.1.ext b4) (HX3.out.2.ext b4))
    have HNV := Lib.hid hnv
    clear b4 C x0 x1 x2 x3 hnv
    obtain ⟨x0, x1, x2, x3, _⟩ := HX4.out.1.four
    have C := HRN.out w4 HB4.out _ HNV.out
    rw [HL.out] at C
    (go_wp2_with fail; go_fit (C); rintro e w5 ⟨v5, rfl, ht5, b5⟩)
    obtain ⟨k5, n5, s5, a5, l5, c5, rfl, f1, f2, f3, f4⟩ := four_of ht5
    have HB5 := Lib.hid (Ext.trans' HB4.out b5)
    obtain ⟨r0, r1, r2, r3, rf⟩ := (HX4.out.2.ext b5).four
    have HFA := Lib.hid (show TmV (hide (under w.heap.size) (set4 w5 (w.heap.size + 1) (.int .i64 k5) (.int .i64 n5) (.string s5) (.slice a5 l5 c5))) (renT first x) (.agg #[.int .i64 k5, .int .i64 n5, .string s5, .slice a5 l5 c5]) from by
      have hz := HB2.out.2.2.2
      have hsz4 : w.heap.size + 1 < w4.heap.size := HX4.out.2.lt
      have hd : under w4.heap.size (w.heap.size + 1) = true := by simp; omega
      have hle := HB4.out.size
      exact TmV.stay (Stays.less fun k hk => by simp at hk ⊢; omega) _ _ (TmV.stay ((((Stays.set (D := under w4.heap.size) ⟨w.heap.size + 1, 0, none⟩ (.int .i64 k5) hd).trans (Stays.set ⟨w.heap.size + 1, 1, none⟩ (.int .i64 n5) hd)).trans (Stays.set ⟨w.heap.size + 1, 2, none⟩ (.string s5) hd)).trans (Stays.set ⟨w.heap.size + 1, 3, none⟩ (.slice a5 l5 c5) hd)) _ _ ht5))
    clear b5 C x0 x1 x2 x3 ht5 f1 f2 f3 f4
    go_wp2
    refine bodyPost_ret (v := .tuple #[.agg #[.int .i64 k5, .int .i64 n5, .string s5, .slice a5 l5 c5], .int .i64 z, .int .i64 0]) (by rw [results_cell3' rfl]; go_simp) rfl ⟨_, rfl, HFA.out, ?_⟩
    exact Below.set4 (b := w.heap.size + 1) HB5.out (by omega) _ _ _ _
set_option maxHeartbeats 8000000 in
set_option maxRecDepth 100000 in
theorem Alike_yes (x y : Tm) (hx : goodT x = true) (hy : goodT y = true) (hr : renT 0 x = renT 0 y) (w : World) (vx vy : Value) (hvx : TmV w x vx) (hvy : TmV w y vy) :
    Calls Try.prog 45 #[vx, vy] w fun e w' => e = .returned (.bool true) ∧ Below w.heap.size w w' := by
  obtain ⟨k, n, s, a, m, c, rfl⟩ := hvx.full
  obtain ⟨k', n', s', a', m', c', rfl⟩ := hvy.full
  obtain ⟨w1, e1, B1, z1, X1⟩ := box_new w #[.int .i64 k, .int .i64 n, .string s, .slice a m c] 48
  obtain ⟨w2, e2, B2, z2, X2⟩ := box_new w1 #[.int .i64 k', .int .i64 n', .string s', .slice a' m' c'] 48
  have X1 := X1.ext B2
  have B12 := Ext.trans' B1 B2
  rw [z1] at X2 z2
  obtain ⟨x0, x1, x2, x3, _⟩ := X1.four
  have HE := Lib.hid (And.intro e1 e2)
  have HB2 := Lib.hid (And.intro B12 (And.intro X1 X2))
  have HVY := Lib.hid (fun (wq : World) (hb : Below w.heap.size w wq) => TmV.ext hb _ _ hvy)
  have C := From_at x 0 (by omega) (by omega) w2 _ (TmV.ext B12 _ _ hvx)
  have hfx : fromB 0 x = (renT 0 x, 0 + ((varsT x []).length : Int), 0) := by unfold fromB; rw [hx]; rfl
  have hfy : fromB 0 y = (renT 0 x, 0 + ((varsT y []).length : Int), 0) := by unfold fromB; rw [hy, hr]; rfl
  rw [hfx] at C
  have HFY := Lib.hid (fun (wq : World) (hb : Below w.heap.size w wq) => From_at y 0 (by omega) (by omega) wq _ (HVY.out _ hb))
  rw [hfy] at HFY
  obtain ⟨T, hT⟩ : ∃ T, renT 0 x = T := ⟨_, rfl⟩
  rw [hT] at C HFY
  obtain ⟨zx, hzx⟩ : ∃ z, 0 + ((varsT x []).length : Int) = z := ⟨_, rfl⟩
  obtain ⟨zy, hzy⟩ : ∃ z, 0 + ((varsT y []).length : Int) = z := ⟨_, rfl⟩
  rw [hzx] at C
  rw [hzy] at HFY
  clear B1 B2 z1 e1 e2 B12 X1 X2 hvx hvy hfx hfy hr hT hzx hzy hx hy z2
  go_enter Try.func45, Try.ntmps45
  go_upto_region 1 with fail
  (try rw [HE.out.1, HE.out.2])
  (go_wp2_with fail; go_fit (C); rintro e w3 ⟨r, rfl, ht, b3⟩)
  obtain ⟨k3, n3, s3, a3, m3, c3, rfl, f1, f2, f3, f4⟩ := four_of ht
  obtain ⟨w4, e4, b4, z4, x4⟩ := box_new w3 #[.int .i64 k3, .int .i64 n3, .string s3, .slice a3 m3 c3] 48
  have HB4 := Lib.hid (Ext.trans' HB2.out.1 (Ext.trans' b3 b4))
  have HX4 := Lib.hid (And.intro (HB2.out.2.2.ext (Ext.trans' b3 b4)) x4)
  have HT4 := Lib.hid (TmV.ext b4 _ _ ht.bare)
  have HE4 := Lib.hid e4
  clear f1 f2 f3 f4 ht b3 b4 z4 x4 e4 C x0 x1 x2 x3
  obtain ⟨x0, x1, x2, x3, _⟩ := HX4.out.1.four
  have C := HFY.out w4 HB4.out
  go_upto_region 2 with fail
  (try rw [HE4.out])
  (go_wp2_with fail; go_fit (C); rintro e w5 ⟨r, rfl, ht, b5⟩)
  obtain ⟨k5, n5, s5, a5, m5, c5, rfl, f1, f2, f3, f4⟩ := four_of ht
  obtain ⟨w6, e6, b6, z6, x6⟩ := box_new w5 #[.int .i64 k5, .int .i64 n5, .string s5, .slice a5 m5 c5] 48
  have HB6 := Lib.hid (Ext.trans' HB4.out (Ext.trans' b5 b6))
  have HX6 := Lib.hid (And.intro (HX4.out.2.ext (Ext.trans' b5 b6)) x6)
  have HT6 := Lib.hid (And.intro (TmV.ext (Ext.trans' b5 b6) _ _ HT4.out) (TmV.ext b6 _ _ ht.bare))
  have HE6 := Lib.hid e6
  clear f1 f2 f3 f4 ht b5 b6 z6 x6 e6 C x0 x1 x2 x3
  obtain ⟨x0, x1, x2, x3, _⟩ := HX6.out.1.four
  obtain ⟨y0, y1, y2, y3, _⟩ := HX6.out.2.four
  have C := rsame_at _ T (Nat.le_refl _) T w6 _ _ HT6.out.1 HT6.out.2
  rw [same_self] at C
  go_upto_region 3 with fail
  (try rw [HE6.out])
  (go_wp2_with fail; go_fit (C); rintro e w7 ⟨rfl, b7⟩)
  have HB7 := Lib.hid (Ext.trans' HB6.out b7)
  clear b7
  go_wp2
  go_ret
  exact ⟨rfl, HB7.out⟩
end Go.Proofs.Ytjhoekhfikcanaa
