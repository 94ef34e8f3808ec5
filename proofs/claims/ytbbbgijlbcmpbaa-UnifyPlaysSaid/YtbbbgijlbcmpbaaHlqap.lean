import Derived.Test.YtbbbgijlbcmpbaaHlqao
import Derived.Test.YtbbbgijlbcmpbaaHlqam
import Derived.Test.YtbbbgijlbcmpbaaHlqag
import Derived.Test.YtbbbgijlbcmpbaaHlqak
import Derived.Test.YtbbbgijlbcmpbaaHlqab
set_option linter.unusedVariables false
set_option linter.unusedSimpArgs false
/- Stage 12's laws: both. -/
namespace Go.Proofs.Ytbbbgijlbcmpbaa
open Go.RowKit
set_option linter.unusedVariables false

section
variable {V w : World}
set_option maxHeartbeats 8000000 in
theorem both12_at (hs : Stays V w) (n : Nat) (hn : n ≤ 60000) : Calls Try.prog 41 #[.int .i64 n] w fun e w' => ∃ p q, e = .returned (.tuple #[p, q]) ∧ BothI V w p q n w' := by
  have HS := Lib.hid hs
  have C := New_at (V := V) (w := w) hs
  clear hs
  go_enter Try.func41, Try.ntmps41
  (go_wp2_with fail; go_fit (C); rintro e w1 ⟨p, F, rfl, h1, b1, hf1⟩)
  obtain ⟨w2, e2⟩ : ∃ w2, w1.alloc (.cells #[.slice none 0 0, .slice none 0 0, .slice none 0 0] 53) = w2 := ⟨_, rfl⟩
  have hr2 := IsR.new (HS.out.later b1) e2
  have hb2 : Below w1.heap.size w1 w2 := by rw [← e2]; exact bel1' _ _
  obtain ⟨q, hq⟩ : ∃ q : Value, .pointer (some ⟨w1.heap.size, 0, none⟩) = q := ⟨_, rfl⟩
  rw [hq] at hr2
  have H2 := Lib.hid (show BothI V w p q 0 w2 from ⟨F, [w1.heap.size], h1.ext hb2, hr2, hf1, fun k hk => by simp at hk; have := b1.size; omega, fun k hk hm => by simp at hm; have := h1.lt k hk; omega, Ext.trans' b1 hb2⟩)
  clear h1 hr2 b1 hb2 hf1
  have HE2 := Lib.hid e2
  have HQ := Lib.hid hq
  clear e2 hq
  go_upto_region 2 with fail
  rw [HE2.out, HQ.out]
  go_wp2_with fail
  go_loopw [6] (fun z wr => ∃ j : Nat, j ≤ n ∧ z = .int .i64 j ∧ Hid (BothI V w p q j wr)) (fun z _ => n - (intOf z).toNat)
  case atStart => exact ⟨0, Nat.zero_le _, rfl, H2⟩
  case round =>
    obtain ⟨j, hj, rfl, HP⟩ := hrel
    by_cases hjn : j < n
    · obtain ⟨F, F2, h1, h2, h3, h4, h5, h6⟩ := HP.out
      have hjn2 : (j : Int) < n := by omega
      have C1 := Fresh_at h1 (by omega)
      have HP2 := Lib.hid (And.intro h2 (And.intro h3 (And.intro h4 (And.intro h5 h6))))
      have HV := Lib.hid h1.see
      have HSZ := Lib.hid h2.lt
      clear h1 h2 h3 h4 h5 h6 HP
      (go_wp2_with fail; go_fit (C1); rintro e w5 ⟨F', rfl, h1, t1, hin⟩)
      obtain ⟨h2, h3, h4, h5, h6⟩ := HP2.out
      have h2' := h2.touch t1 h5 HV.out.2
      have C2 := RFresh_at h2' (by omega)
      have hF' : ∀ k ∈ F', w.heap.size ≤ k := fun k hk => (hin k hk).elim (h3 k) (fun h => by have := h6.size; omega)
      have hd' : ∀ k ∈ F', ¬ k ∈ F2 := fun k hk hm => (hin k hk).elim (fun h => h5 k h hm) (fun h => by have := HSZ.out k hm; omega)
      have H5 := Lib.hid (show IsB V F' w5 p (j + 1) [] ∧ (∀ k ∈ F', w.heap.size ≤ k) ∧ (∀ k ∈ F', ¬ k ∈ F2) ∧ (∀ k ∈ F2, w.heap.size ≤ k) ∧ Below w.heap.size w w5 from ⟨h1, hF', hd', h4, h6.trans (t1.below h6.size h3)⟩)
      have HV2 := Lib.hid h2'.see
      clear h1 t1 hin h2 h3 h4 h5 h6 h2' hF' hd'
      (go_wp2_with fail; go_fit (C2); rintro e w6 ⟨F2', rfl, h2, t2, hin2⟩)
      obtain ⟨h1, hF', hd', h4, h6⟩ := H5.out
      have HN := Lib.hid (show BothI V w p q (j + 1) w6 from ⟨F', F2', h1.touch t2 (fun k hk hm => hd' k hm hk) HV2.out.2, h2, hF', fun k hk => (hin2 k hk).elim (h4 k) (fun h => by have := h6.size; omega), fun k hk hm => (hin2 k hm).elim (hd' k hk) (fun h => by have := h1.lt k hk; omega), h6.trans (t2.below h6.size h4)⟩)
      clear h1 hF' hd' h4 h6 h2 t2 hin2
      go_wp2
      go_roundw
      case rel => exact ⟨j + 1, by omega, by go_num, HN⟩
      case measure => simp [intOf]; omega
    · have hjn2 : j = n := by omega
      subst hjn2
      go_wp2
      go_ret2
      exact ⟨p, q, rfl, HP.out⟩
end
end Go.Proofs.Ytbbbgijlbcmpbaa
/- Stage 12's laws: awake. -/
namespace Go.Proofs.Ytbbbgijlbcmpbaa
open Go.RowKit
set_option linter.unusedVariables false

def fA : Tm := .mk 2 0 ⟨#[102]⟩ [varV 0, atomT ⟨#[98]⟩]
def fB : Tm := .mk 2 0 ⟨#[102]⟩ [atomT ⟨#[97]⟩, varV 1]
theorem awake_both : bothB 2 [] fA fB = ⟨true, 5, 0, [(1, atomT ⟨#[98]⟩), (0, atomT ⟨#[97]⟩)]⟩ := by kernel_rfl
theorem good_b : goodT (atomT ⟨#[98]⟩) = true := by decide +kernel
theorem atomb_tm (w : World) : TmV w (atomT ⟨#[98]⟩) (.agg #[.int .i64 2, .int .i64 0, .string ⟨#[98]⟩, .slice none 0 0]) := leaf_tm w i64_2 i64_0 (by unfold BIG; decide)
theorem full_a : fullB [(1, atomT ⟨#[98]⟩), (0, atomT ⟨#[97]⟩)] 0 = atomT ⟨#[97]⟩ := by kernel_rfl
theorem full_b : fullB [(1, atomT ⟨#[98]⟩), (0, atomT ⟨#[97]⟩)] 1 = atomT ⟨#[98]⟩ := by kernel_rfl
/-- A variable that stands for an atom, walked. -/
theorem walk_atom {V w : World} {F : List Nat} {p : Value} {N : Nat} {R S : List (Int × Tm)} (h : IsB V F w p N R) (hs : Sync R S) {n : Nat} (hn : n < N) {s : ByteArray} (hf : fullB S n = atomT s) :
    Calls Try.prog 24 #[p, .agg #[.int .i64 0, .int .i64 n, .string ⟨#[]⟩, .slice none 0 0]] w fun e w' => ∃ v', e = .returned v' ∧ TmV V (atomT s) v' ∧ Below w.heap.size w w' := by
  have hN := h.tri.2
  refine (Walk_at h (x := varV (n : Int)) (leaf_tm V i64_0 (by unfold I64; omega) (by unfold BIG; decide)) (var_good (by omega) (by omega)) (fun m hm => by rw [occ_varV] at hm; simp at hm; subst hm; omega)).mono ?_
  rintro e w' ⟨y, v', rfl, hy, hwk, htop, b⟩
  have hze : y = atomT s := top_leaf hwk.good htop (hwk.same.trans (by rw [sub_varV, hs.full, hf]; rfl))
  subst hze
  exact ⟨v', rfl, hy, b⟩
set_option maxHeartbeats 8000000 in
set_option maxRecDepth 100000 in
theorem uawake_at (w : World) : Calls Try.prog 40 #[] w fun e w' => e = .returned (.bool true) ∧ Below w.heap.size w w' := by
  go_enter Try.func40, Try.ntmps40
  (go_wp2_with fail; go_fit (both12_at (V := w) (Stays.refl w) 2 (by omega)); rintro e w1 ⟨p, q, rfl, h1⟩)
  obtain ⟨F, F2, hI, _, hF, _, _, hB⟩ := h1
  obtain ⟨bt, rfl⟩ : ∃ bt, p = .pointer (some ⟨bt, 0, none⟩) := by obtain ⟨bt, _, _, _, rfl, _⟩ := hI.open; exact ⟨bt, rfl⟩
  have hlt := hI.lt
  have HI := Lib.hid (And.intro hI (And.intro hF (And.intro hB hlt)))
  have hold : ∀ wq : World, w1.heap.size ≤ wq.heap.size → Old (awayB F) wq := fun wq hle k hk => by
    have : ¬ k ∈ F := fun hm => by have := hlt k hm; omega
    simp [awayB, this]
  have HOLD := Lib.hid hold
  clear hI hF hB hlt hold
  (go_wp2_with fail; go_fit (var_at _ 0); rintro e w2 ⟨rfl, b2⟩)
  (go_wp2_with fail; go_fit (atom_at _ ⟨#[98]⟩); rintro e w3 ⟨rfl, b3⟩)
  have hb3 := Ext.trans' b2 b3
  have hT1 := two_hide (D := awayB F) w3 31 (k := 0) (n := 0) (k' := 2) (n' := 0) (s := ⟨#[]⟩) (s' := ⟨#[98]⟩) i64_0 i64_0 (by unfold BIG; decide) i64_2 i64_0 (by unfold BIG; decide) (HOLD.out w3 hb3.size)
  obtain ⟨w4, e4, b4, z4, x4⟩ := box_new w3 #[.int .i64 0, .int .i64 0, .string ⟨#[]⟩, .slice none 0 0, .int .i64 2, .int .i64 0, .string ⟨#[98]⟩, .slice none 0 0] 31
  rw [e4] at hT1
  have hb4 := Ext.trans' hb3 b4
  have HB4 := Lib.hid hb4
  have C := comp_hide ⟨#[102]⟩ (by unfold BIG; decide) (HOLD.out w4 hb4.size) hT1
  clear b2 b3 hb3 hb4 b4 z4 x4 hT1
  go_wp2_with fail
  (try rw [e4])
  go_fit (C)
  rintro e w5 ⟨a5, c5, rfl, ht5, b5⟩
  have HB5 := Lib.hid (Ext.trans' HB4.out b5)
  have HT5 := Lib.hid (show TmV (hide (awayB F) w5) fA (.agg #[.int .i64 2, .int .i64 0, .string ⟨#[102]⟩, .slice a5 2 c5]) from ht5)
  clear b5 ht5 C e4
  (go_wp2_with fail; go_fit (atom_at _ ⟨#[97]⟩); rintro e w6 ⟨rfl, b6⟩)
  (go_wp2_with fail; go_fit (var_at _ 1); rintro e w7 ⟨rfl, b7⟩)
  have hb7 := Ext.trans' HB5.out (Ext.trans' b6 b7)
  have hT1 := two_hide (D := awayB F) w7 31 (k := 2) (n := 0) (k' := 0) (n' := 1) (s := ⟨#[97]⟩) (s' := ⟨#[]⟩) i64_2 i64_0 (by unfold BIG; decide) i64_0 i64_1 (by unfold BIG; decide) (HOLD.out w7 hb7.size)
  obtain ⟨w8, e8, b8, z8, x8⟩ := box_new w7 #[.int .i64 2, .int .i64 0, .string ⟨#[97]⟩, .slice none 0 0, .int .i64 0, .int .i64 1, .string ⟨#[]⟩, .slice none 0 0] 31
  rw [e8] at hT1
  have hb8 := Ext.trans' hb7 b8
  have HB8 := Lib.hid (And.intro hb8 (Ext.trans' b6 (Ext.trans' b7 b8)))
  have C := comp_hide ⟨#[102]⟩ (by unfold BIG; decide) (HOLD.out w8 hb8.size) hT1
  clear b6 b7 hb7 hb8 b8 z8 x8 hT1
  go_wp2_with fail
  (try rw [e8])
  go_fit (C)
  rintro e w9 ⟨a9, c9, rfl, ht9, b9⟩
  have HB9 := Lib.hid (And.intro (Ext.trans' HB8.out.1 b9) (Ext.trans' HB8.out.2 b9))
  have HT9 := Lib.hid (show TmV (hide (awayB F) w9) fB (.agg #[.int .i64 2, .int .i64 0, .string ⟨#[102]⟩, .slice a9 2 c9]) from ht9)
  clear b9 ht9 C e8
  have hI9 := (HI.out.1.ext HB9.out.1).rebase
  have C := Both_at hI9 (S := []) trivial (TmV.later HB9.out.2 HT5.out) HT9.out
  rw [awake_both] at C
  have HF9 := Lib.hid (And.intro HI.out.2.1 (HI.out.2.2.1.trans (HB9.out.1.mono HI.out.2.2.1.size)))
  clear hI9
  generalize hide (awayB F) w9 = V at *
  (go_wp2_with fail; go_fit (C); rintro e w10 ⟨F10, R10, rfl, i10, s10, t10, in10⟩)
  have H10 := Lib.hid (And.intro i10 (And.intro s10 (Touch.own HF9.out.2 t10 HF9.out.1)))
  clear i10 s10 t10 in10 C
  (go_wp2_with fail; go_fit (var_at _ 0); rintro e w11 ⟨rfl, b11⟩)
  have C := walk_atom (H10.out.1.ext b11) H10.out.2.1 (n := 0) (by omega) full_a
  have HB11 := Lib.hid b11
  clear b11
  (go_wp2_with fail; go_fit (C); rintro e w12 ⟨v12, rfl, hv12, b12⟩)
  obtain ⟨k12, n12, s12, a12, m12, c12, rfl, f1, f2, f3, f4⟩ := four_of hv12
  have HB12 := Lib.hid (And.intro (Ext.trans' HB11.out b12) hv12)
  clear b12 C f1 f2 f3 f4 hv12
  (go_wp2_with fail; go_fit (var_at _ 1); rintro e w13 ⟨rfl, b13⟩)
  have HB13 := Lib.hid (Ext.trans' HB12.out.1 b13)
  have C := walk_atom (H10.out.1.ext HB13.out) H10.out.2.1 (n := 1) (by omega) full_b
  clear b13
  (go_wp2_with fail; go_fit (C); rintro e w14 ⟨v14, rfl, hv14, b14⟩)
  obtain ⟨k14, n14, s14, a14, m14, c14, rfl, f1, f2, f3, f4⟩ := four_of hv14
  have HB14 := Lib.hid (And.intro (Ext.trans' HB13.out b14) hv14)
  clear b14 C f1 f2 f3 f4 hv14
  obtain ⟨w15, e15, b15, z15, x15⟩ := box_new w14 #[.int .i64 k12, .int .i64 n12, .string s12, .slice a12 m12 c12] 31
  obtain ⟨w16, e16, b16, z16, x16⟩ := box_new w15 #[.int .i64 k14, .int .i64 n14, .string s14, .slice a14 m14 c14] 31
  have HX := Lib.hid (And.intro (x15.ext b16) x16)
  rw [z15] at HX
  have HB16 := Lib.hid (Ext.trans' HB14.out.1 (Ext.trans' b15 b16))
  have HE := Lib.hid (And.intro e15 e16)
  clear b15 z15 x15 b16 z16 x16 e15 e16
  go_upto_region 4 with fail
  (try rw [HE.out.1])
  (try rw [HE.out.2])
  obtain ⟨x0, x1, x2, x3, _⟩ := HX.out.1.four
  obtain ⟨y0, y1, y2, y3, _⟩ := HX.out.2.four
  have HA := Lib.hid (fun (wq : World) (hq : Below w16.heap.size w16 wq) => TmV.stay (H10.out.1.see.1.later (Ext.trans' HB16.out hq)) _ _ HB12.out.2)
  have HBb := Lib.hid (fun (wq : World) (hq : Below w16.heap.size w16 wq) => TmV.stay (H10.out.1.see.1.later (Ext.trans' HB16.out hq)) _ _ HB14.out.2)
  refine wp_region_held_drew (S := fun w' => (w'.cell? ⟨w14.heap.size, 0, none⟩ = some (.int .i64 k12) ∧ w'.cell? ⟨w14.heap.size, 1, none⟩ = some (.int .i64 n12) ∧ w'.cell? ⟨w14.heap.size, 2, none⟩ = some (.string s12) ∧ w'.cell? ⟨w14.heap.size, 3, none⟩ = some (.slice a12 m12 c12) ∧ w'.cell? ⟨w14.heap.size + 1, 0, none⟩ = some (.int .i64 k14) ∧ w'.cell? ⟨w14.heap.size + 1, 1, none⟩ = some (.int .i64 n14) ∧ w'.cell? ⟨w14.heap.size + 1, 2, none⟩ = some (.string s14) ∧ w'.cell? ⟨w14.heap.size + 1, 3, none⟩ = some (.slice a14 m14 c14)) ∧ Below w16.heap.size w16 w') (by kernel_rfl) ⟨⟨x0, x1, x2, x3, y0, y1, y2, y3⟩, (Below.refl _ _).drew⟩ (fun hHeld => ?_)
  first | (refine held_t (i := 0) hHeld ?_; apply Exists.intro; refine ⟨fun wq hq => ?_, ?_⟩; (focus ((try dsimp only at hq); go_simp; (first | done | with_reducible rfl | fail)))) | refine held_s (i := 0) hHeld ?_ | fail
  first | (refine held_t (i := 1) hHeld ?_; apply Exists.intro; refine ⟨fun wq hq => ?_, ?_⟩; (focus ((try dsimp only at hq); go_simp; (first | done | with_reducible rfl | fail)))) | refine held_s (i := 1) hHeld ?_ | fail
  try simp only [Act.put, List.setIfInBounds_toArray, List.set_cons_zero, List.set_cons_succ]
  first | (refine held_t (i := 2) hHeld ?_; apply Exists.intro; refine ⟨fun wq hq => ?_, ?_⟩; (focus ((try dsimp only at hq); go_simp; (first | done | with_reducible rfl | fail)))) | refine held_s (i := 2) hHeld ?_ | fail
  first | (refine held_t (i := 3) hHeld ?_; apply Exists.intro; refine ⟨fun wq hq => ?_, ?_⟩; (focus ((try dsimp only at hq); go_simp; (first | done | with_reducible rfl | fail)))) | refine held_s (i := 3) hHeld ?_ | fail
  try simp only [Act.put, List.setIfInBounds_toArray, List.set_cons_zero, List.set_cons_succ]
  first | (refine held_t (i := 4) hHeld ?_; apply Exists.intro; refine ⟨fun wq hq => ?_, ?_⟩; (focus ((try dsimp only at hq); go_simp; (first | done | with_reducible rfl | fail)))) | refine held_s (i := 4) hHeld ?_ | fail
  first | (refine held_t (i := 5) hHeld ?_; apply Exists.intro; refine ⟨fun wq hq => ?_, ?_⟩; (focus ((try dsimp only at hq); go_simp; (first | done | with_reducible rfl | fail)))) | refine held_s (i := 5) hHeld ?_ | fail
  try simp only [Act.put, List.setIfInBounds_toArray, List.set_cons_zero, List.set_cons_succ]
  first | (refine held_t (i := 6) hHeld ?_; apply Exists.intro; refine ⟨fun wq hq => ?_, ?_⟩; (focus ((try dsimp only at hq); go_simp; (first | done | with_reducible rfl | fail)))) | refine held_s (i := 6) hHeld ?_ | fail
  first | (refine held_t (i := 7) hHeld ?_; apply Exists.intro; refine ⟨fun wq hq => ?_, ?_⟩; (focus ((try dsimp only at hq); go_simp; (first | done | with_reducible rfl | fail)))) | refine held_s (i := 7) hHeld ?_ | fail
  try simp only [Act.put, List.setIfInBounds_toArray, List.set_cons_zero, List.set_cons_succ]
  first | (refine held_t (i := 8) hHeld ?_; apply Exists.intro; refine ⟨fun wq hq => ?_, ?_⟩; (focus ((try dsimp only at hq); go_simp; (first | done | with_reducible rfl | fail)))) | refine held_s (i := 8) hHeld ?_ | fail
  first | (refine held_t (i := 9) hHeld ?_; apply Exists.intro; refine ⟨fun wq hq => ?_, ?_⟩; (focus ((try dsimp only at hq); go_simp; (first | done | with_reducible rfl | fail)))) | refine held_s (i := 9) hHeld ?_ | fail
  try simp only [Act.put, List.setIfInBounds_toArray, List.set_cons_zero, List.set_cons_succ]
  first | (refine held_t (i := 10) hHeld ?_; apply Exists.intro; refine ⟨fun wq hq => ?_, ?_⟩; (focus ((try dsimp only at hq); go_simp; (first | done | with_reducible rfl | fail)))) | refine held_s (i := 10) hHeld ?_ | fail
  try simp only [Act.put, List.setIfInBounds_toArray, List.set_cons_zero, List.set_cons_succ]
  refine held_c 11 fun K hK => ?_
  go_simp
  (go_at_call 45; refine (atom_at _ ⟨#[97]⟩).mono ?_; rintro e w6 ⟨rfl, h6⟩)
  refine hK.out _ _ (⟨⟨cell_later h6 hHeld.1.1, cell_later h6 hHeld.1.2.1, cell_later h6 hHeld.1.2.2.1, cell_later h6 hHeld.1.2.2.2.1, cell_later h6 hHeld.1.2.2.2.2.1, cell_later h6 hHeld.1.2.2.2.2.2.1, cell_later h6 hHeld.1.2.2.2.2.2.2.1, cell_later h6 hHeld.1.2.2.2.2.2.2.2⟩, Ext.trans' hHeld.2 h6⟩) (fun hHeld => ?_)
  clear hK K
  try simp only [Act.put, List.setIfInBounds_toArray, List.set_cons_zero, List.set_cons_succ]
  refine held_c 12 fun K hK => ?_
  go_simp
  (go_at_call 25; refine (Same_at (HA.out _ hHeld.2) (atom_tm _)).mono ?_; rintro e w6 ⟨rfl, h6⟩; rw [good_atom, same_atom])
  refine hK.out _ _ (⟨⟨cell_later h6 hHeld.1.1, cell_later h6 hHeld.1.2.1, cell_later h6 hHeld.1.2.2.1, cell_later h6 hHeld.1.2.2.2.1, cell_later h6 hHeld.1.2.2.2.2.1, cell_later h6 hHeld.1.2.2.2.2.2.1, cell_later h6 hHeld.1.2.2.2.2.2.2.1, cell_later h6 hHeld.1.2.2.2.2.2.2.2⟩, Ext.trans' hHeld.2 h6⟩) (fun hHeld => ?_)
  clear hK K
  try simp only [Act.put, List.setIfInBounds_toArray, List.set_cons_zero, List.set_cons_succ]
  first | (refine held_t (i := 13) hHeld ?_; apply Exists.intro; refine ⟨fun wq hq => ?_, ?_⟩; (focus ((try dsimp only at hq); go_simp; (first | done | with_reducible rfl | fail)))) | refine held_s (i := 13) hHeld ?_ | fail
  first | (refine held_t (i := 14) hHeld ?_; apply Exists.intro; refine ⟨fun wq hq => ?_, ?_⟩; (focus ((try dsimp only at hq); go_simp; (first | done | with_reducible rfl | fail)))) | refine held_s (i := 14) hHeld ?_ | fail
  try simp only [Act.put, List.setIfInBounds_toArray, List.set_cons_zero, List.set_cons_succ]
  first | (refine held_t (i := 15) hHeld ?_; apply Exists.intro; refine ⟨fun wq hq => ?_, ?_⟩; (focus ((try dsimp only at hq); go_simp; (first | done | with_reducible rfl | fail)))) | refine held_s (i := 15) hHeld ?_ | fail
  try simp only [Act.put, List.setIfInBounds_toArray, List.set_cons_zero, List.set_cons_succ]
  refine held_c 16 fun K hK => ?_
  go_simp
  (go_at_call 45; refine (atom_at _ ⟨#[98]⟩).mono ?_; rintro e w6 ⟨rfl, h6⟩)
  refine hK.out _ _ (⟨⟨cell_later h6 hHeld.1.1, cell_later h6 hHeld.1.2.1, cell_later h6 hHeld.1.2.2.1, cell_later h6 hHeld.1.2.2.2.1, cell_later h6 hHeld.1.2.2.2.2.1, cell_later h6 hHeld.1.2.2.2.2.2.1, cell_later h6 hHeld.1.2.2.2.2.2.2.1, cell_later h6 hHeld.1.2.2.2.2.2.2.2⟩, Ext.trans' hHeld.2 h6⟩) (fun hHeld => ?_)
  clear hK K
  try simp only [Act.put, List.setIfInBounds_toArray, List.set_cons_zero, List.set_cons_succ]
  refine held_c 17 fun K hK => ?_
  go_simp
  (go_at_call 25; refine (Same_at (HBb.out _ hHeld.2) (atomb_tm _)).mono ?_; rintro e w6 ⟨rfl, h6⟩; rw [good_b, same_self])
  refine hK.out _ _ (⟨⟨cell_later h6 hHeld.1.1, cell_later h6 hHeld.1.2.1, cell_later h6 hHeld.1.2.2.1, cell_later h6 hHeld.1.2.2.2.1, cell_later h6 hHeld.1.2.2.2.2.1, cell_later h6 hHeld.1.2.2.2.2.2.1, cell_later h6 hHeld.1.2.2.2.2.2.2.1, cell_later h6 hHeld.1.2.2.2.2.2.2.2⟩, Ext.trans' hHeld.2 h6⟩) (fun hHeld => ?_)
  clear hK K
  try simp only [Act.put, List.setIfInBounds_toArray, List.set_cons_zero, List.set_cons_succ]
  first | (refine held_t (i := 18) hHeld ?_; apply Exists.intro; refine ⟨fun wq hq => ?_, ?_⟩; (focus ((try dsimp only at hq); go_simp; (first | done | with_reducible rfl | fail)))) | refine held_s (i := 18) hHeld ?_ | fail
  first | (refine held_t (i := 19) hHeld ?_; apply Exists.intro; refine ⟨fun wq hq => ?_, ?_⟩; (focus ((try dsimp only at hq); go_simp; (first | done | with_reducible rfl | fail)))) | refine held_s (i := 19) hHeld ?_ | fail
  try simp only [Act.put, List.setIfInBounds_toArray, List.set_cons_zero, List.set_cons_succ]
  have HEND := Lib.hid (Ext.trans' HB16.out hHeld.2)
  clear hHeld
  refine wpAnyH_done (by kernel_rfl) ?_ _
  go_wp2
  go_ret
  exact ⟨rfl, H10.out.2.2.trans (HEND.out.mono H10.out.2.2.size)⟩
end Go.Proofs.Ytbbbgijlbcmpbaa
/- The document's side of chapter 11: one is let stand for something, in memory. -/
namespace Go.Proofs.Ytbbbgijlbcmpbaa
open Go.RowKit
set_option linter.unusedVariables false

theorem terms_set (ts : List TmP) (i : Nat) (hi : i < ts.length) (p : TmP) (a0 a1 a2 a3 : Value) (hp : pCells p = [a0, a1, a2, a3]) (q : Nat) :
    ((ts.set i p).flatMap pCells)[q]? = if i * 4 ≤ q ∧ q < i * 4 + 4 then [a0, a1, a2, a3][q - i * 4]? else (ts.flatMap pCells)[q]? := by
  rw [flat_cell (S := 4) (cells := pCells) (fun _ => rfl) (by omega), flat_cell (S := 4) (cells := pCells) (fun _ => rfl) (by omega)]
  by_cases h : i * 4 ≤ q ∧ q < i * 4 + 4
  · rw [if_pos h]
    have e : q / 4 = i := by omega
    rw [e, List.getElem?_set_self hi]
    show (pCells p)[q % 4]? = _
    rw [hp]
    congr 1
    omega
  · rw [if_neg h]
    have e : q / 4 ≠ i := by omega
    rw [List.getElem?_set_ne (Ne.symm e)]
theorem put4_row {w : World} {g c N i : Nat} {e : TypeId} {ts : List TmP} {p : TmP} {a0 a1 a2 a3 : Value} (h : w.ownsRow 0 e 4 (.slice (some ⟨g, 0, none⟩) N c) N (ts.flatMap pCells)) (hN : ts.length = N) (hi : i < N) (hp : pCells p = [a0, a1, a2, a3]) :
    (setAt w g (i * 4) a0 a1 a2 a3).ownsRow 0 e 4 (.slice (some ⟨g, 0, none⟩) N c) N ((ts.set i p).flatMap pCells) := by
  obtain ⟨h0, h1⟩ := h
  have hfl : ((ts.set i p).flatMap pCells).length = N * 4 := by rw [flat_len (cells := pCells) (S := 4) (fun _ => rfl), List.length_set, hN]
  have hfl0 : (ts.flatMap pCells).length = N * 4 := by rw [flat_len (cells := pCells) (S := 4) (fun _ => rfl), hN]
  refine ⟨hfl, ?_⟩
  rcases h1 with ⟨e, _⟩ | ⟨g', cap, cur, e, hg, hh, q1, q2, q3, q4⟩
  · cases e
  · cases e
    refine Or.inr ⟨g, c, _, rfl, Nat.zero_le _, blk_setc (blk_setc (blk_setc (blk_setc hh _ _) _ _) _ _) _ _, q1, q2, by simpa using q3, ?_⟩
    apply List.ext_getElem?
    intro q
    rw [terms_set ts i (by omega) p a0 a1 a2 a3 hp q, ← q4]
    rw [List.getElem?_take, List.getElem?_take]
    by_cases hq : q < N * 4
    · rw [if_pos hq, if_pos hq]
      simp only [Array.getElem?_toList, Array.getElem?_setIfInBounds, Array.size_setIfInBounds]
      have hsz : cur.size = c * 4 := by rw [q3]
      by_cases hb : i * 4 ≤ q ∧ q < i * 4 + 4
      · rw [if_pos hb]
        obtain ⟨j, hj⟩ : ∃ j, q = i * 4 + j := ⟨q - i * 4, by omega⟩
        have hj5 : j < 4 := by omega
        subst hj
        have hin : i * 4 + j < cur.size := by rw [hsz]; omega
        rw [Nat.add_sub_cancel_left]
        match j, hj5 with
        | 0, _ => simp; omega
        | 1, _ => simp; omega
        | 2, _ => simp; omega
        | 3, _ => simp; omega
      · rw [if_neg hb, if_neg (by omega), if_neg (by omega), if_neg (by omega), if_neg (by omega)]
    · rw [if_neg hq, if_neg hq]
      have hb : ¬ (i * 4 ≤ q ∧ q < i * 4 + 4) := by omega
      rw [if_neg hb]
theorem RefOK.set {V : World} {N : Nat} {R : List (Int × Tm)} {ts : List TmP} {bs : List Bool} (h : RefOK V N R ts bs) {i : Nat} (hi : i < N) (hts : ts.length = N) (hbs : bs.length = N) {y : Tm} {u : Value} (hy : TmV V y (pVal (y, u))) : RefOK V N (((i : Int), y) :: R) (ts.set i (y, u)) (bs.set i true) := by
  refine ⟨fun j hj => ?_, fun j t ht => ?_⟩
  · rw [get_cons]
    by_cases e : (i : Int) = j
    · rw [if_pos e]
      have : i = j := by omega
      subst this
      rw [List.getElem?_set_self (by omega)]; rfl
    · rw [if_neg e, List.getElem?_set_ne (by omega)]
      exact h.is j hj
  · rw [get_cons] at ht
    by_cases e : (i : Int) = j
    · rw [if_pos e] at ht
      cases ht
      have : i = j := by omega
      subst this
      exact ⟨u, by rw [List.getElem?_set_self (by omega)], hy⟩
    · rw [if_neg e] at ht
      obtain ⟨u', e1, e2⟩ := h.held j t ht
      exact ⟨u', by rw [List.getElem?_set_ne (by omega)]; exact e1, e2⟩
/-- One term and one mark, stored. -/
abbrev putR (w : World) (g1 g2 n : Nat) (u0 u1 u2 u3 : Value) : World := (setAt w g1 (n * 4) u0 u1 u2 u3).setCell ⟨g2, n, none⟩ (.bool true)
section
variable {V w : World} {F : List Nat} {p : Value} {N : Nat} {R : List (Int × Tm)}
set_option maxHeartbeats 4000000 in
theorem IsR.store (h : IsR V F w p N R) {n : Nat} (hn : n < N) {x : Tm} {k m : Int} {s : ByteArray} {a : Option Addr} {l c : Nat} (hx : TmV V x (.agg #[.int .i64 k, .int .i64 m, .string s, .slice a l c])) (hT : Tri N (((n : Int), x) :: R)) :
    ∃ bt g1 c1 g2 c2 a3 c3, p = .pointer (some ⟨bt, 0, none⟩) ∧ (bt < w.heap.size ∧ g1 < w.heap.size ∧ g2 < w.heap.size) ∧ (bt ≠ g1 ∧ bt ≠ g2 ∧ g1 ≠ g2) ∧ (bt ∈ F ∧ g1 ∈ F ∧ g2 ∈ F) ∧
      (w.cell? ⟨bt, 0, none⟩ = some (.slice (some ⟨g1, 0, none⟩) N c1) ∧ w.cell? ⟨bt, 1, none⟩ = some (.slice (some ⟨g2, 0, none⟩) N c2) ∧ w.cell? ⟨bt, 2, none⟩ = some (.slice a3 R.length c3)) ∧
      (∀ j, j < 4 → ∃ u, w.cell? ⟨g1, n * 4 + j, none⟩ = some u) ∧ (∃ u, w.cell? ⟨g2, n, none⟩ = some u) ∧ (∀ q, w.frozen? ⟨g1, q, none⟩ = false) ∧ (∀ q, w.frozen? ⟨g2, q, none⟩ = false) ∧ (R.length ≤ c3 ∧ c3 ≤ maxLen) ∧
      ∀ wS, wS = putR w g1 g2 n (.int .i64 k) (.int .i64 m) (.string s) (.slice a l c) →
        Touch F w wS ∧ wS.ownsRow 0 2 1 (.slice a3 R.length c3) R.length (trailV R) ∧ (∀ j, wS.cell? ⟨bt, j, none⟩ = w.cell? ⟨bt, j, none⟩) ∧ (∀ j, wS.frozen? ⟨bt, j, none⟩ = false) ∧
        ∀ (x1 wA : World) (v : Value), Below wS.heap.size wS x1 → x1.grownBy wA (Value.slice a3 R.length c3).ownBlock → (v.ownBlock = (Value.slice a3 R.length c3).ownBlock ∨ v.ownBlock = some x1.heap.size) → wA.ownsRow 0 2 1 v (R.length + 1) (trailV R ++ [.int .i64 n]) →
          (∀ j, wA.cell? ⟨bt, j, none⟩ = w.cell? ⟨bt, j, none⟩) ∧ (∀ j, wA.frozen? ⟨bt, j, none⟩ = false) ∧
          ∃ F', IsR V F' (wA.setCell ⟨bt, 2, none⟩ v) p N (((n : Int), x) :: R) ∧ Touch F w (wA.setCell ⟨bt, 2, none⟩ v) ∧ ∀ k ∈ F', k ∈ F ∨ w.heap.size ≤ k := by
  have hF := h.lt
  obtain ⟨bt, v1, v2, v3, ts, bs, rfl, rfl, hnd, h1, hl1, hl2, h4, h5, h6, h7, h8, h9, h10, h11⟩ := h
  rcases h4.2 with ⟨e, hz⟩ | ⟨g1, c1, cur1, rfl, _, hh1, p1, p2, p3, p4⟩
  · omega
  rcases h5.2 with ⟨e, hz⟩ | ⟨g2, c2, cur2, rfl, _, hh2, r1, r2, r3, r4⟩
  · omega
  obtain ⟨a3, c3, hv3, hc3a, hc3b⟩ : ∃ a3 c3, v3 = .slice a3 R.length c3 ∧ R.length ≤ c3 ∧ c3 ≤ maxLen := by
    rcases h6.2 with ⟨e, hz⟩ | ⟨g, cap, cur, e, _, _, s1, s2, _⟩
    · exact ⟨none, 0, by rw [e, hz], by omega, Nat.zero_le _⟩
    · exact ⟨_, _, e, s1, s2⟩
  subst hv3
  obtain ⟨e1, e2⟩ := List.nodup_cons.1 hnd
  have nb1 : bt ≠ g1 := fun e => e1 (by simp [Value.ownBlock, e])
  have nb2 : bt ≠ g2 := fun e => e1 (by simp [Value.ownBlock, e])
  have nb3 : (Value.slice a3 R.length c3).ownBlock ≠ some bt := fun e => e1 (by simp [e])
  have n12 : g1 ≠ g2 := fun e => (List.nodup_append.1 e2).2.2 g1 (by simp [Value.ownBlock]) g2 (by simp [Value.ownBlock]) e
  have n13 : (Value.slice a3 R.length c3).ownBlock ≠ some g1 := fun e => (List.nodup_append.1 e2).2.2 g1 (by simp [Value.ownBlock]) g1 (by simp [e]) rfl
  have n23 : (Value.slice a3 R.length c3).ownBlock ≠ some g2 := fun e => (List.nodup_append.1 (List.nodup_append.1 e2).2.1).2.2 g2 (by simp [Value.ownBlock]) g2 (by simp [e]) rfl
  have ho3 : ∀ k, (Value.slice a3 R.length c3).ownBlock = some k → k < w.heap.size := fun k e => hF k (by simp [e])
  have hb0 : bt < w.heap.size := hF bt (by simp)
  have hg1 : g1 < w.heap.size := hF g1 (by simp [Value.ownBlock])
  have hg2 : g2 < w.heap.size := hF g2 (by simp [Value.ownBlock])
  obtain ⟨u, hu⟩ := hx.pair
  have hu' := hu
  simp only [pVal, Value.agg.injEq] at hu'
  have hu2 := congrArg Array.toList hu'
  simp only [List.cons.injEq, and_true] at hu2
  obtain ⟨q0, q1, q2, rfl⟩ := hu2
  have hpc : pCells (x, .slice a l c) = [.int .i64 k, .int .i64 m, .string s, .slice a l c] := by simp only [pCells, q0, q1, q2]
  refine ⟨bt, g1, c1, g2, c2, a3, c3, rfl, ⟨hb0, hg1, hg2⟩, ⟨nb1, nb2, n12⟩, ⟨by simp, by simp [Value.ownBlock], by simp [Value.ownBlock]⟩, ⟨by simp [blk_cell h1], by simp [blk_cell h1], by simp [blk_cell h1]⟩, fun j hj => ?_, ?_, fun q => by simp [World.frozen?, hh1], fun q => by simp [World.frozen?, hh2], ⟨hc3a, hc3b⟩, fun wS hS => ?_⟩
  · rw [blk_cell hh1]
    have hlt : n * 4 + j < cur1.size := by rw [p3]; omega
    exact ⟨_, Array.getElem?_eq_getElem hlt⟩
  · rw [blk_cell hh2]
    have hlt : n < cur2.size := by rw [r3]; omega
    exact ⟨_, Array.getElem?_eq_getElem hlt⟩
  · have hother : ∀ j, j ≠ g1 → j ≠ g2 → wS.heap[j]? = w.heap[j]? := fun j j1 j2 => by
      rw [hS]
      unfold putR setAt
      rw [Below.heap_setCell _ _ _ j j2, Below.heap_setCell _ _ _ j j1, Below.heap_setCell _ _ _ j j1, Below.heap_setCell _ _ _ j j1, Below.heap_setCell _ _ _ j j1]
    have hsz : wS.heap.size = w.heap.size := by rw [hS]; simp [World.setCell]
    have tS : Touch (bt :: ((Value.slice (some ⟨g1, 0, none⟩) N c1).ownBlock.toList ++ ((Value.slice (some ⟨g2, 0, none⟩) N c2).ownBlock.toList ++ (Value.slice a3 R.length c3).ownBlock.toList))) w wS := by
      refine ⟨by rw [hS]; rfl, by rw [hS]; rfl, by rw [hS]; rfl, Nat.le_of_eq hsz.symm, fun j hj hm => hother j (fun e => hm (by simp [e, Value.ownBlock])) (fun e => hm (by simp [e, Value.ownBlock]))⟩
    have hbS : wS.heap[bt]? = w.heap[bt]? := hother bt nb1 nb2
    have h6S : wS.ownsRow 0 2 1 (.slice a3 R.length c3) R.length (trailV R) := row_at h6 (fun g hg => hother g (fun e => n13 (by rw [← e]; exact hg)) (fun e => n23 (by rw [← e]; exact hg)))
    have r1S : wS.ownsRow 0 48 4 (.slice (some ⟨g1, 0, none⟩) N c1) N ((ts.set n (x, .slice a l c)).flatMap pCells) := by
      rw [hS]
      exact row_at (put4_row h4 hl1 hn hpc) (fun g hg => Below.heap_setCell _ _ _ g (fun e => n12 (by simp [Value.ownBlock] at hg; rw [hg, e])))
    have r2S : wS.ownsRow 0 4 1 (.slice (some ⟨g2, 0, none⟩) N c2) N ((bs.set n true).map Value.bool) := by
      rw [hS, List.map_set]
      exact put1_row (row_at h5 (fun g hg => by
        have hne : g ≠ g1 := fun e => n12 (by simp [Value.ownBlock] at hg; rw [hg, ← e])
        unfold setAt
        rw [Below.heap_setCell _ _ _ g hne, Below.heap_setCell _ _ _ g hne, Below.heap_setCell _ _ _ g hne, Below.heap_setCell _ _ _ g hne])) hn
    refine ⟨tS, h6S, fun j => World.cell?_of_block hbS, fun j => by simp [World.frozen?, hbS, h1], fun x1 wA v b1 gA hat rA => ?_⟩
    have s1 := b1.size
    have s2 := gA.size
    have key : ∀ j, j < wS.heap.size → (Value.slice a3 R.length c3).ownBlock ≠ some j → wA.heap[j]? = wS.heap[j]? := fun j hj hne => by
      rw [gA.block j (by omega) (fun e => hne e.symm), b1.block j hj]
    have hbA : wA.heap[bt]? = w.heap[bt]? := (key bt (by omega) nb3).trans hbS
    have bA := hbA.trans h1
    have hv : ∀ k, v.ownBlock = some k → (Value.slice a3 R.length c3).ownBlock = some k ∨ k = x1.heap.size := fun k hk => by
      rcases hat with e | e <;> rw [hk] at e
      · exact Or.inl e.symm
      · injection e with e; exact Or.inr e
    have nbv : v.ownBlock ≠ some bt := fun e => by rcases hv _ e with h | h; exact nb3 h; omega
    have n1v : v.ownBlock ≠ some g1 := fun e => by rcases hv _ e with h | h; exact n13 h; omega
    have n2v : v.ownBlock ≠ some g2 := fun e => by rcases hv _ e with h | h; exact n23 h; omega
    have hset : ∀ j, j ≠ bt → (wA.setCell ⟨bt, 2, none⟩ v).heap[j]? = wA.heap[j]? := fun j hj => Below.heap_setCell _ _ _ j hj
    have tw : Touch (bt :: ((Value.slice (some ⟨g1, 0, none⟩) N c1).ownBlock.toList ++ ((Value.slice (some ⟨g2, 0, none⟩) N c2).ownBlock.toList ++ (Value.slice a3 R.length c3).ownBlock.toList))) w (wA.setCell ⟨bt, 2, none⟩ v) := by
      refine ⟨gA.os.trans (b1.os.trans tS.os), gA.tape.trans (b1.tape.trans tS.tape), gA.output.trans (b1.output.trans tS.output), by simp [World.setCell]; omega, fun j hj hm => ?_⟩
      have hm' := hm
      simp only [List.mem_cons, List.mem_append, Option.mem_toList, not_or] at hm'
      rw [hset j hm'.1, key j (by omega) hm'.2.2.2]
      exact tS.block j hj hm
    have hin : ∀ k ∈ bt :: ((Value.slice (some ⟨g1, 0, none⟩) N c1).ownBlock.toList ++ ((Value.slice (some ⟨g2, 0, none⟩) N c2).ownBlock.toList ++ v.ownBlock.toList)), k ∈ bt :: ((Value.slice (some ⟨g1, 0, none⟩) N c1).ownBlock.toList ++ ((Value.slice (some ⟨g2, 0, none⟩) N c2).ownBlock.toList ++ (Value.slice a3 R.length c3).ownBlock.toList)) ∨ w.heap.size ≤ k := fun k hk => by
      simp only [List.mem_cons, List.mem_append, Option.mem_toList] at hk ⊢
      rcases hk with hk | hk | hk | hk
      · exact Or.inl (Or.inl hk)
      · exact Or.inl (Or.inr (Or.inl hk))
      · exact Or.inl (Or.inr (Or.inr (Or.inl hk)))
      · rcases hv k hk with h | h
        · exact Or.inl (Or.inr (Or.inr (Or.inr h)))
        · exact Or.inr (by omega)
    have hok : RefOK V N (((n : Int), x) :: R) (ts.set n (x, .slice a l c)) (bs.set n true) := h7.set hn hl1 hl2 (by rw [← hu]; exact hx)
    refine ⟨fun j => World.cell?_of_block hbA, fun j => by simp [World.frozen?, bA], _, ⟨bt, _, _, v, ts.set n (x, .slice a l c), bs.set n true, rfl, rfl, ?_, ?_, by simpa using hl1, by simpa using hl2, ?_, ?_, ?_, hok, hT, h9, h10.touch h11 tw, Blind.some h11 h10 hin⟩, tw, hin⟩
    · obtain ⟨ob, hob⟩ : ∃ ob, v.ownBlock = ob := ⟨_, rfl⟩
      rw [hob] at nbv n1v n2v ⊢
      simp only [Value.ownBlock, Option.toList_some]
      refine List.nodup_cons.2 ⟨fun hm => ?_, ?_⟩
      · simp only [List.cons_append, List.nil_append, List.mem_cons, Option.mem_toList] at hm
        rcases hm with hm | hm | hm
        · exact nb1 hm
        · exact nb2 hm
        · exact nbv hm
      · simp only [List.cons_append, List.nil_append]
        refine List.nodup_cons.2 ⟨fun hm => ?_, List.nodup_cons.2 ⟨fun hm => ?_, ?_⟩⟩
        · simp only [List.mem_cons, Option.mem_toList] at hm
          rcases hm with hm | hm
          · exact n12 hm
          · exact n1v hm
        · exact n2v (by simpa using hm)
        · cases ob <;> simp
    · rw [blk_setc bA]; rfl
    · exact row_at r1S (fun g hg => by
        simp [Value.ownBlock] at hg
        subst hg
        rw [hset _ nb1.symm]
        exact key _ (by omega) n13)
    · exact row_at r2S (fun g hg => by
        simp [Value.ownBlock] at hg
        subst hg
        rw [hset _ nb2.symm]
        exact key _ (by omega) n23)
    · rw [trail_cons]
      exact row_at rA (fun g hg => hset g (fun e => nbv (by rw [← e]; exact hg)))
end
end Go.Proofs.Ytbbbgijlbcmpbaa
/- Both sides of chapter 11 in one memory. -/
namespace Go.Proofs.Ytbbbgijlbcmpbaa
open Go.RowKit
set_option linter.unusedVariables false

/-- Both sides in one memory, made since W, each blind to the other's blocks. -/
def PairB (W V w : World) (F F2 : List Nat) (p q : Value) (N : Nat) (R : List (Int × Tm)) (N2 : Nat) (S : List (Int × Tm)) : Prop :=
  IsB V F w p N R ∧ IsR V F2 w q N2 S ∧ (∀ k ∈ F, W.heap.size ≤ k) ∧ (∀ k ∈ F2, W.heap.size ≤ k) ∧ (∀ k ∈ F, ¬ k ∈ F2) ∧ Below W.heap.size W w
section
variable {W V w : World} {F F2 : List Nat} {p q : Value} {N N2 : Nat} {R S : List (Int × Tm)}
theorem PairB.bel (h : PairB W V w F F2 p q N R N2 S) : Below W.heap.size W w := h.2.2.2.2.2
theorem PairB.ext {w' : World} (h : PairB W V w F F2 p q N R N2 S) (hb : Below w.heap.size w w') : PairB W V w' F F2 p q N R N2 S :=
  ⟨h.1.ext hb, h.2.1.ext hb, h.2.2.1, h.2.2.2.1, h.2.2.2.2.1, h.bel.trans (hb.mono h.bel.size)⟩
theorem PairB.left {w' : World} {F' : List Nat} {N' : Nat} {R' : List (Int × Tm)} (h : PairB W V w F F2 p q N R N2 S) (h1 : IsB V F' w' p N' R') (t : Touch F w w') (hin : ∀ k ∈ F', k ∈ F ∨ w.heap.size ≤ k) : PairB W V w' F' F2 p q N' R' N2 S := by
  obtain ⟨g1, g2, g3, g4, g5, g6⟩ := h
  exact ⟨h1, g2.touch t g5 g1.see.2, fun k hk => (hin k hk).elim (g3 k) (fun e => Nat.le_trans g6.size e), g4, fun k hk hm => (hin k hk).elim (fun e => g5 k e hm) (fun e => by have := g2.lt k hm; omega), g6.trans (t.below g6.size g3)⟩
theorem PairB.right {w' : World} {F' : List Nat} {N' : Nat} {S' : List (Int × Tm)} (h : PairB W V w F F2 p q N R N2 S) (h1 : IsR V F' w' q N' S') (t : Touch F2 w w') (hin : ∀ k ∈ F', k ∈ F2 ∨ w.heap.size ≤ k) : PairB W V w' F F' p q N R N' S' := by
  obtain ⟨g1, g2, g3, g4, g5, g6⟩ := h
  exact ⟨g1.touch t (fun k hk hm => g5 k hm hk) g2.see.2, h1, g3, fun k hk => (hin k hk).elim (g4 k) (fun e => Nat.le_trans g6.size e), fun k hk hm => (hin k hm).elim (g5 k hk) (fun e => by have := g1.lt k hk; omega), g6.trans (t.below g6.size g4)⟩
/-- Where all is seen but their own blocks. -/
abbrev seenB (F F2 : List Nat) (w : World) : World := hide (awayB (F ++ F2)) w
theorem PairB.stays (h : PairB W V w F F2 p q N R N2 S) : Stays V (seenB F F2 w) := by
  obtain ⟨g1, g2, _⟩ := h
  refine ⟨by rw [hide_size]; exact g1.see.1.1, fun a v hv => ?_⟩
  have n1 : ¬ a.block ∈ F := fun hm => by rw [g1.see.2 a hm] at hv; cases hv
  have n2 : ¬ a.block ∈ F2 := fun hm => by rw [g2.see.2 a hm] at hv; cases hv
  rw [hide_cell _ _ _ (by simp [awayB, n1, n2])]
  exact g1.see.1.2 a v hv
theorem PairB.rebase (h : PairB W V w F F2 p q N R N2 S) : PairB W (seenB F F2 w) w F F2 p q N R N2 S :=
  ⟨h.1.from h.stays (Stays.unhide _ _) (fun a ha => hide_gone _ _ _ (by simp [awayB, ha])), h.2.1.from h.stays (Stays.unhide _ _) (fun a ha => hide_gone _ _ _ (by simp [awayB, ha])), h.2.2⟩
theorem PairB.old (h : PairB W V w F F2 p q N R N2 S) : Stays W (seenB F F2 w) := by
  obtain ⟨g1, g2, g3, g4, g5, g6⟩ := h
  refine ⟨by rw [hide_size]; exact g6.size, fun a v hv => ?_⟩
  have hl := World.block_lt_of_cell? _ _ hv
  have n1 : ¬ a.block ∈ F := fun hm => by have := g3 _ hm; omega
  have n2 : ¬ a.block ∈ F2 := fun hm => by have := g4 _ hm; omega
  rw [hide_cell _ _ _ (by simp [awayB, n1, n2])]
  exact cell_later g6 hv
theorem PairB.oldD (h : PairB W V w F F2 p q N R N2 S) : Old (awayB (F ++ F2)) w := fun k hk => by
  have n1 : ¬ k ∈ F := fun hm => by have := h.1.lt _ hm; omega
  have n2 : ¬ k ∈ F2 := fun hm => by have := h.2.1.lt _ hm; omega
  simp [awayB, n1, n2]
end
/-- What the laws carry from call to call. -/
def TwoI (W w : World) (p q : Value) (N : Nat) : Prop := ∃ V F F2 R S, PairB W V w F F2 p q N R N S ∧ Sync R S
theorem TwoI.ext {W w w' : World} {p q : Value} {N : Nat} (h : TwoI W w p q N) (hb : Below w.heap.size w w') : TwoI W w' p q N := by
  obtain ⟨V, F, F2, R, S, h1, h2⟩ := h
  exact ⟨V, F, F2, R, S, h1.ext hb, h2⟩
theorem TwoI.bel {W w : World} {p q : Value} {N : Nat} (h : TwoI W w p q N) : Below W.heap.size W w := by
  obtain ⟨V, F, F2, R, S, h1, h2⟩ := h
  exact h1.bel
/-- Seen from where all is seen but their own blocks. -/
theorem TwoI.open {W w : World} {p q : Value} {N : Nat} (h : TwoI W w p q N) : ∃ F F2 R S, PairB W (seenB F F2 w) w F F2 p q N R N S ∧ Sync R S ∧ Stays W (seenB F F2 w) := by
  obtain ⟨V, F, F2, R, S, h1, h2⟩ := h
  exact ⟨F, F2, R, S, h1.rebase, h2, h1.old⟩
theorem BothI.two {V W w wr : World} {p q : Value} {N : Nat} (h : BothI V w p q N wr) (hb : Below W.heap.size W w) : TwoI W wr p q N := by
  obtain ⟨F, F2, h1, h2, h3, h4, h5, h6⟩ := h
  exact ⟨V, F, F2, [], [], ⟨h1, h2, fun k hk => Nat.le_trans hb.size (h3 k hk), fun k hk => Nat.le_trans hb.size (h4 k hk), h5, hb.trans (h6.mono hb.size)⟩, trivial⟩
end Go.Proofs.Ytbbbgijlbcmpbaa
/- Stage 12's laws: the pairs that come in; lists that are set alike. -/
namespace Go.Proofs.Ytbbbgijlbcmpbaa
open Go.RowKit
set_option linter.unusedVariables false

theorem Sync.refl : ∀ R : List (Int × Tm), Sync R R
  | [] => trivial
  | p :: R => ⟨Sync.refl R, rfl, rfl⟩
theorem Sync.symm : ∀ {R S : List (Int × Tm)}, Sync R S → Sync S R
  | [], [], _ => trivial
  | p :: R, q :: S, h => ⟨Sync.symm h.1, h.2.1.symm, h.2.2.symm⟩
theorem Sync.trans : ∀ {R S T : List (Int × Tm)}, Sync R S → Sync S T → Sync R T
  | [], [], [], _, _ => trivial
  | p :: R, q :: S, r :: T, h, g => ⟨Sync.trans h.1 g.1, h.2.1.trans g.2.1, h.2.2.trans g.2.2⟩
/-- A pair of terms, beside its values' last parts. -/
structure PrB where
  x : TmP
  y : TmP
def prCells (p : PrB) : List Value := pCells p.x ++ pCells p.y
def prOk (W : World) (p : PrB) : Prop := TmV W p.x.1 (pVal p.x) ∧ TmV W p.y.1 (pVal p.y)
def PrsB (w : World) (v : Value) (l : List PrB) : Prop := Elems 8 prCells w v l ∧ (∀ x ∈ l, prOk w x) ∧ l.length * 112 ≤ BIG
section
open Go.ChangeShapes Go.WideShapes Go.ChangeAt Go.Deep
set_option maxRecDepth 100000
theorem prsB_of_trod {H : Type} {enc : TypeId × Value → H} {W : World} {v : Value} {d : DataW H} {ps : List MemPlace} (h : DataW.Trod enc Try.prog W 0 (fun _ => true) true 72 v d ps)
    (hv : Value.okWide Try.prog W .any 0 72 v) (hw : ∀ n ∈ d.weights Try.prog 72, n ≤ 140737488351232) : ∃ l, PrsB W v l := by
  obtain ⟨xs, h1, h2, h3⟩ := elems_of_trod (S := 8) (B := 112) Try.underlying72 (by kernel_rfl) (by omega) (by kernel_rfl) prCells (prOk W) (okWide_slice Try.underlying72 hv) h hw (fun n cs D pl hd hw => by
    obtain ⟨xs, n', rfl, hx, hl, hxl, hf⟩ := DataW.trod_struct Try.underlying74 hd
    have e1 : Try.prog.cellsOf 74 = 8 := by kernel_rfl
    have e4 : Try.prog.cellsOf 31 = 4 := by kernel_rfl
    rw [e1] at hl
    obtain ⟨c0, c1, c2, c3, c4, c5, c6, c7, rfl⟩ : ∃ c0 c1 c2 c3 c4 c5 c6 c7, cs = [c0, c1, c2, c3, c4, c5, c6, c7] := by
      match cs, hl with
      | [a, b, c, d, e, f, g, h], _ => exact ⟨a, b, c, d, e, f, g, h, rfl⟩
    obtain ⟨y0, y1, rfl⟩ : ∃ y0 y1, xs = [y0, y1] := by
      match xs, hxl with
      | [a, b], _ => exact ⟨a, b, rfl⟩
    have f0 : DataW.trod enc Try.prog W 0 (fun _ => true) true n' 31 (([c0, c1, c2, c3, c4, c5, c6, c7].drop 0).take (Try.prog.cellsOf 31)) = [y0, y1][0]? := hf 0 _ rfl
    have f1 : DataW.trod enc Try.prog W 0 (fun _ => true) true n' 31 (([c0, c1, c2, c3, c4, c5, c6, c7].drop 4).take (Try.prog.cellsOf 31)) = [y0, y1][1]? := hf 1 _ rfl
    rw [e4] at f0 f1
    simp only [List.drop_zero, List.drop_succ_cons, List.take_succ_cons, List.take_zero, List.getElem?_cons_zero, List.getElem?_cons_succ] at f0 f1
    simp only [Prod.mk.injEq] at hx
    obtain ⟨hx1, _⟩ := hx
    obtain ⟨x, hx2, _⟩ := term_parse _ y0.1 (Nat.le_refl _) _ _ y0.2 f0 (fun j hj => hw j (by
      rw [hx1]
      simp [DataW.weights, Try.underlying74, DataW.weightsEach, hj]))
    obtain ⟨y, hy2, _⟩ := term_parse _ y1.1 (Nat.le_refl _) _ _ y1.2 f1 (fun j hj => hw j (by
      rw [hx1]
      simp [DataW.weights, Try.underlying74, DataW.weightsEach, hj]))
    obtain ⟨u, hu⟩ := hx2.pair
    obtain ⟨v, hv⟩ := hy2.pair
    have hu' := hu
    simp only [pVal, Value.agg.injEq] at hu'
    have h2' := congrArg Array.toList hu'
    simp only [List.cons.injEq, and_true] at h2'
    obtain ⟨p0, p1, p2, p3⟩ := h2'
    have hv' := hv
    simp only [pVal, Value.agg.injEq] at hv'
    have h3' := congrArg Array.toList hv'
    simp only [List.cons.injEq, and_true] at h3'
    obtain ⟨q0, q1, q2, q3⟩ := h3'
    refine ⟨⟨(x, u), (y, v)⟩, ?_, by rw [hu] at hx2; exact hx2, by rw [hv] at hy2; exact hy2⟩
    simp [prCells, pCells, p0, p1, p2, p3, q0, q1, q2, q3])
  exact ⟨xs, h1, h2, by unfold BIG; exact h3⟩
end
theorem pr_cells {W : World} {b off i : Nat} {l : List PrB} {y : PrB} (hc : ∀ i x, l[i]? = some x → ∀ j u, (prCells x)[j]? = some u → W.cell? ⟨b, off + (i * 8 + j), none⟩ = some u) (hy : l[i]? = some y) (hok : prOk W y) :
    ∃ k n s a m c k' n' s' a' m' c', TmV W y.x.1 (.agg #[.int .i64 k, .int .i64 n, .string s, .slice a m c]) ∧ TmV W y.y.1 (.agg #[.int .i64 k', .int .i64 n', .string s', .slice a' m' c']) ∧
      W.cell? ⟨b, off + i * 8, none⟩ = some (.int .i64 k) ∧ W.cell? ⟨b, off + i * 8 + 1, none⟩ = some (.int .i64 n) ∧ W.cell? ⟨b, off + i * 8 + 2, none⟩ = some (.string s) ∧ W.cell? ⟨b, off + i * 8 + 3, none⟩ = some (.slice a m c) ∧
      W.cell? ⟨b, off + i * 8 + 4, none⟩ = some (.int .i64 k') ∧ W.cell? ⟨b, off + i * 8 + 4 + 1, none⟩ = some (.int .i64 n') ∧ W.cell? ⟨b, off + i * 8 + 4 + 2, none⟩ = some (.string s') ∧ W.cell? ⟨b, off + i * 8 + 4 + 3, none⟩ = some (.slice a' m' c') := by
  obtain ⟨⟨x, u⟩, ⟨y, v⟩⟩ := y
  obtain ⟨ok1, ok2⟩ := hok
  obtain ⟨k, n, s, a, m, c, hv, f1, f2, f3, fv⟩ := four_of ok1
  obtain ⟨k', n', s', a', m', c', hv', f1', f2', f3', fv'⟩ := four_of ok2
  have g := hc i _ hy
  have ok3 : TmV W x (.agg #[.int .i64 k, .int .i64 n, .string s, .slice a m c]) := by rw [← hv]; exact ok1
  have ok4 : TmV W y (.agg #[.int .i64 k', .int .i64 n', .string s', .slice a' m' c']) := by rw [← hv']; exact ok2
  have k0 := g 0 _ rfl
  have k1 := g 1 _ rfl
  have k2 := g 2 _ rfl
  have k3 := g 3 _ rfl
  have k4 := g 4 _ rfl
  have k5 := g 5 _ rfl
  have k6 := g 6 _ rfl
  have k7 := g 7 _ rfl
  simp only [pVal, Value.agg.injEq] at hv
  have hv := congrArg Array.toList hv
  simp only [List.cons.injEq, and_true] at hv
  obtain ⟨g1, g2, g3, g4⟩ := hv
  simp only [pVal, Value.agg.injEq] at hv'
  have hv' := congrArg Array.toList hv'
  simp only [List.cons.injEq, and_true] at hv'
  obtain ⟨h1, h2, h3, h4⟩ := hv'
  simp only [g1, g2, g3, g4, h1, h2, h3, h4, ← Nat.add_assoc, Nat.add_zero] at k0 k1 k2 k3 k4 k5 k6 k7
  exact ⟨k, n, s, a, m, c, k', n', s', a', m', c', ok3, ok4, k0, k1, k2, k3, by rw [k4], by rw [Nat.add_assoc]; exact k5, by rw [Nat.add_assoc]; exact k6, by rw [Nat.add_assoc]; exact k7⟩
end Go.Proofs.Ytbbbgijlbcmpbaa
