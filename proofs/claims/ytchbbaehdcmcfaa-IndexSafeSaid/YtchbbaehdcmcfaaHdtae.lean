import Derived.Test.YtchbbaehdcmcfaaHdtzz
import Derived.Test.YtchbbaehdcmcfaaHdtad
import Derived.Test.YtchbbaehdcmcfaaHdtab
import Derived.Test.YtchbbaehdcmcfaaHdtac
set_option linter.unusedVariables false
set_option linter.unusedSimpArgs false
/- Stage 16's laws: awake. -/
namespace Go.Proofs.Ytchbbaehdcmcfaa
open Go.RowKit
set_option linter.unusedVariables false
def ixA : KeyM := ⟨2, 0, ⟨#[97]⟩, 0⟩
def ixB : KeyM := ⟨2, 0, ⟨#[98]⟩, 0⟩
theorem ix3_keys {w : World} {b : Nat} (h : Box w b [.int .i64 0, .int .i64 0, .string ⟨#[]⟩, .int .i64 0, .int .i64 2, .int .i64 0, .string ⟨#[97]⟩, .int .i64 0, .int .i64 2, .int .i64 0, .string ⟨#[98]⟩, .int .i64 0]) : Keys w (.slice (some ⟨b, 0, none⟩) 3 3) [zeroKey, ixA, ixB] := by
 refine ⟨_, 3, rfl, Nat.le_refl _, by unfold maxLen; omega, Or.inr ⟨b, 0, rfl, h.lt, fun i x hx j u hu => ?_⟩⟩
 rcases i with _ | _ | _ | i <;> simp at hx <;> subst hx <;> rcases j with _ | _ | _ | _ | j <;> simp [ixCells, zeroKey, ixA, ixB] at hu <;> subst hu <;> exact h.cells _ _ rfl
theorem two_nums {w : World} {b : Nat} (h : Box w b [.int .i64 0, .int .i64 1]) : Nums w (.slice (some ⟨b, 0, none⟩) 2 2) [0, 1] := by
 refine ⟨_, 2, rfl, Nat.le_refl _, by unfold maxLen; omega, Or.inr ⟨b, 0, rfl, h.lt, fun i x hx j u hu => ?_⟩⟩
 rcases i with _ | _ | i <;> simp at hx <;> subst hx <;> rcases j with _ | j <;> simp at hu <;> subst hu <;> exact h.cells _ _ rfl
theorem ixA_head : keyT (nameT ⟨#[112]⟩ [nameT ⟨#[97]⟩ []]) = ixA := by
 unfold keyT
 rw [if_pos (by decide +kernel)]
 rfl
theorem ixA_v : ixV (keyT (nameT ⟨#[112]⟩ [nameT ⟨#[97]⟩ []])) = .agg #[.int .i64 2, .int .i64 0, .string ⟨#[97]⟩, .int .i64 0] := by rw [ixA_head]; rfl
theorem ixA_same : sameKey ixA ixA = true := sameKey_self _
set_option maxHeartbeats 4000000 in
set_option maxRecDepth 100000 in
theorem awake16_at (w : World) : Calls Try.prog 40 #[] w fun e w' => e = .returned (.bool true) ∧ Below w.heap.size w w' := by
 obtain ⟨w1, e1, B1, z1, X1⟩ := box_new w #[.int .i64 0, .int .i64 0, .string ⟨#[]⟩, .int .i64 0, .int .i64 2, .int .i64 0, .string ⟨#[97]⟩, .int .i64 0, .int .i64 2, .int .i64 0, .string ⟨#[98]⟩, .int .i64 0] 76
 obtain ⟨lb, hlb⟩ : ∃ lb, w.heap.size = lb := ⟨_, rfl⟩
 rw [hlb] at X1
 have HE := Lib.hid (And.intro e1 hlb)
 have HB1 := Lib.hid B1
 have HK := Lib.hid (ix3_keys X1)
 have hC : ∀ wq, Below w1.heap.size w1 wq → (wq.cell? ⟨lb, 4, none⟩ = some (.int .i64 2) ∧ wq.cell? ⟨lb, 5, none⟩ = some (.int .i64 0) ∧ wq.cell? ⟨lb, 6, none⟩ = some (.string ⟨#[97]⟩) ∧ wq.cell? ⟨lb, 7, none⟩ = some (.int .i64 0)) := fun wq hb =>
  ⟨cell_later hb (X1.cells 4 _ rfl), cell_later hb (X1.cells 5 _ rfl), cell_later hb (X1.cells 6 _ rfl), cell_later hb (X1.cells 7 _ rfl)⟩
 have HC := Lib.hid hC
 have he : ∀ wq : World, (Op.equalIn 10000 76 (.agg #[.int .i64 2, .int .i64 0, .string ⟨#[97]⟩, .int .i64 0]) (.agg #[.int .i64 2, .int .i64 0, .string ⟨#[97]⟩, .int .i64 0])).run Try.prog wq = .ok true wq := fun wq => by
  have := ixEq ixA ixA wq
  rw [ixA_same] at this
  exact this
 have HEQ := Lib.hid he
 clear e1 hlb B1 X1 z1 hC he
 go_enter Try.func40, Try.ntmps40
 go_upto_region 2 with fail
 (try rw [HE.out.1])
 (try rw [HE.out.2])
 refine wp_region_held_drew (S := fun wq => wq.cell? ⟨lb, 4, none⟩ = some (.int .i64 2) ∧ wq.cell? ⟨lb, 5, none⟩ = some (.int .i64 0) ∧ wq.cell? ⟨lb, 6, none⟩ = some (.string ⟨#[97]⟩) ∧ wq.cell? ⟨lb, 7, none⟩ = some (.int .i64 0)) (by kernel_rfl) (HC.out _ (Below.refl _ _).drew) (fun hHeld => ?_)
 obtain ⟨wd, ewd⟩ : ∃ wd, w1.drew = wd := ⟨_, rfl⟩
 have HBd := Lib.hid (show Below w1.heap.size w1 wd from by rw [← ewd]; exact (Below.refl _ _).drew)
 rw [ewd] at hHeld ⊢
 clear ewd
 first | (refine held_t (i := 0) hHeld ?_; constructor; constructor; intro wq hq; focus ((try dsimp only at hq); go_simp; first | done | with_reducible rfl | fail)) | refine held_s (i := 0) hHeld ?_ | fail
 first | (refine held_t (i := 1) hHeld ?_; constructor; constructor; intro wq hq; focus ((try dsimp only at hq); go_simp; first | done | with_reducible rfl | fail)) | refine held_s (i := 1) hHeld ?_ | fail
 first | (refine held_t (i := 2) hHeld ?_; constructor; constructor; intro wq hq; focus ((try dsimp only at hq); go_simp; first | done | with_reducible rfl | fail)) | refine held_s (i := 2) hHeld ?_ | fail
 first | (refine held_t (i := 3) hHeld ?_; constructor; constructor; intro wq hq; focus ((try dsimp only at hq); go_simp; first | done | with_reducible rfl | fail)) | refine held_s (i := 3) hHeld ?_ | fail
 try simp only [Act.put, lay4]
 refine wpAnyH_ready (rs := [4, 5]) (by kernel_rfl) (by simp) ?_
 refine AllReadyH.cons (by simp only [ops3]; rfl) (fun K hK => ?_) (AllReadyH.cons (by simp only [ops3]; rfl) (fun K hK => ?_) AllReadyH.nil)
 ·go_simp
  (go_at_call 50; refine (ixPick_at (HK.out.ext HBd.out) (by decide) ixA).mono ?_; rintro e w2 ⟨r2, rfl, h2, b2⟩; have HB2 := Lib.hid (Ext.trans' HBd.out b2); have HN2 := Lib.hid (show Nums w2 r2 [0, 1] from Elems.owned (cells := numCells) (fun _ => rfl) h2); clear h2 b2)
  refine hK.out _ _ (HC.out _ HB2.out) (fun hHeld => ?_)
  clear hK K
  try simp only [Act.put, lay4]
  refine held_c 5 fun K hK => ?_
  go_simp
  skip
  refine hK.out _ _ (HC.out _ (Ext.trans' HB2.out (bel1' _ _))) (fun hHeld => ?_)
  clear hK K
  try simp only [Act.put, lay4]
  have HB3 := Lib.hid (Ext.trans' HB2.out (bel1' w2 (.cells #[.int .i64 0, .int .i64 1] 3)))
  have HA3 := Lib.hid (Nums.ext HN2.out (bel1' w2 (.cells #[.int .i64 0, .int .i64 1] 3)))
  obtain ⟨w3, e3, b3, z3, X3⟩ := box_new w2 #[.int .i64 0, .int .i64 1] 3
  have HD3 := Lib.hid (two_nums X3)
  rw [e3] at hHeld HB3 HA3 ⊢
  clear e3 b3 z3 X3
  refine held_c 6 fun K hK => ?_
  go_simp
  (go_at_call 46; refine (ints_at HA3.out HD3.out).mono ?_; rintro e w4 ⟨rfl, b4⟩; have HB4 := Lib.hid (Ext.trans' HB3.out b4); clear b4)
  refine hK.out _ _ (HC.out _ HB4.out) (fun hHeld => ?_)
  clear hK K
  try simp only [Act.put, lay4]
  first | (refine held_t (i := 7) hHeld ?_; constructor; constructor; intro wq hq; focus ((try dsimp only at hq); go_simp; first | done | with_reducible rfl | fail)) | refine held_s (i := 7) hHeld ?_ | fail
  first | (refine held_t (i := 12) hHeld ?_; constructor; constructor; intro wq hq; focus ((try dsimp only at hq); go_simp; first | done | with_reducible rfl | fail)) | refine held_s (i := 12) hHeld ?_ | fail
  first | (refine held_t (i := 13) hHeld ?_; constructor; constructor; intro wq hq; focus ((try dsimp only at hq); go_simp; first | done | with_reducible rfl | fail)) | refine held_s (i := 13) hHeld ?_ | fail
  first | (refine held_t (i := 14) hHeld ?_; constructor; constructor; intro wq hq; focus ((try dsimp only at hq); go_simp; first | done | with_reducible rfl | fail)) | refine held_s (i := 14) hHeld ?_ | fail
  try simp only [Act.put, lay4]
  refine held_c 8 fun K hK => ?_
  go_simp
  (go_at_call 16; refine (atom_at _ ⟨#[97]⟩).mono ?_; rintro e w5 ⟨rfl, b5⟩; have HB5 := Lib.hid (Ext.trans' HB4.out b5); clear b5)
  refine hK.out _ _ (HC.out _ HB5.out) (fun hHeld => ?_)
  clear hK K
  try simp only [Act.put, lay4]
  refine held_c 9 fun K hK => ?_
  go_simp
  skip
  refine hK.out _ _ (HC.out _ (Ext.trans' HB5.out (bel1' _ _))) (fun hHeld => ?_)
  clear hK K
  try simp only [Act.put, lay4]
  obtain ⟨w6, e6, b6, z6, X6⟩ := box_new w5 #[.int .i64 2, .int .i64 0, .string ⟨#[97]⟩, .slice none 0 0] 31
  obtain ⟨ab, hab⟩ : ∃ ab, w5.heap.size = ab := ⟨_, rfl⟩
  rw [hab] at X6 ⊢
  have HB6 := Lib.hid (Ext.trans' HB5.out b6)
  have HT6 := Lib.hid (show Tms w6 (.slice (some ⟨ab, 0, none⟩) 1 1) [nameT ⟨#[97]⟩ []] from ⟨_, 1, rfl, Nat.le_refl _, by unfold maxLen; omega, by unfold BIG; decide, Or.inr ⟨ab, 0, rfl, X6.lt, TmRow.mk fun i x hx => by
   rcases i with _ | i
   ·injection hx with hx
    subst hx
    exact ⟨_, _, _, _, X6.cells 0 _ rfl, X6.cells 1 _ rfl, X6.cells 2 _ rfl, X6.cells 3 _ rfl, leaf_tm w6 i64of2 i64of0 (by unfold BIG; decide)⟩
   ·simp at hx⟩⟩)
  rw [e6] at hHeld ⊢
  clear e6 b6 z6 X6 hab
  refine held_c 10 fun K hK => ?_
  go_simp
  (go_at_call 17; refine (comp_at ⟨#[112]⟩ (by unfold BIG; decide) HT6.out).mono ?_; rintro e w7 ⟨a7, c7, rfl, ht7, b7⟩; have HB7 := Lib.hid (Ext.trans' HB6.out b7); have HT7 := Lib.hid ht7; clear ht7 b7)
  refine hK.out _ _ (HC.out _ HB7.out) (fun hHeld => ?_)
  clear hK K
  try simp only [Act.put, lay4]
  refine held_c 11 fun K hK => ?_
  go_simp
  (go_at_call 41; refine (ixOf_at (nameT ⟨#[112]⟩ [nameT ⟨#[97]⟩ []]) _ _ HT7.out).mono ?_; rintro e w8 ⟨rfl, b8⟩; have HB8 := Lib.hid (Ext.trans' HB7.out b8); have he := HEQ.out; rw [ixA_v]; clear b8)
  refine hK.out _ _ (HC.out _ HB8.out) (fun hHeld => ?_)
  clear hK K
  try simp only [Act.put, lay4]
  first | (refine held_t (i := 15) hHeld ?_; constructor; constructor; intro wq hq; focus ((try dsimp only at hq); go_simp; first | done | with_reducible rfl | fail)) | refine held_s (i := 15) hHeld ?_ | fail
  first | (refine held_t (i := 16) hHeld ?_; constructor; constructor; intro wq hq; focus ((try dsimp only at hq); go_simp; first | done | with_reducible rfl | fail)) | refine held_s (i := 16) hHeld ?_ | fail
  first | (refine held_t (i := 17) hHeld ?_; constructor; constructor; intro wq hq; focus ((try dsimp only at hq); go_simp; first | done | with_reducible rfl | fail)) | refine held_s (i := 17) hHeld ?_ | fail
  try simp only [Act.put, lay4]
  refine wpAnyH_done (by kernel_rfl) ?_ _
  go_wp2
  go_ret
  exact ⟨rfl, Ext.trans' HB1.out HB8.out⟩
 ·go_simp
  skip
  refine hK.out _ _ (HC.out _ (Ext.trans' HBd.out (bel1' _ _))) (fun hHeld => ?_)
  clear hK K
  try simp only [Act.put, lay4]
  obtain ⟨w2, e2, b2, z2, X2⟩ := box_new wd #[.int .i64 0, .int .i64 1] 3
  have HB2 := Lib.hid (Ext.trans' HBd.out b2)
  have HX2 := Lib.hid X2
  rw [e2] at hHeld ⊢
  clear e2 b2 z2 X2
  refine held_c 4 fun K hK => ?_
  go_simp
  (go_at_call 50; refine (ixPick_at (HK.out.ext HB2.out) (by decide) ixA).mono ?_; rintro e w3 ⟨r2, rfl, h2, b2⟩; have HB3 := Lib.hid (Ext.trans' HB2.out b2); have HA3 := Lib.hid (show Nums w3 r2 [0, 1] from Elems.owned (cells := numCells) (fun _ => rfl) h2); have HD3 := Lib.hid (two_nums (HX2.out.ext b2)); clear h2 b2)
  refine hK.out _ _ (HC.out _ HB3.out) (fun hHeld => ?_)
  clear hK K
  try simp only [Act.put, lay4]
  refine held_c 6 fun K hK => ?_
  go_simp
  (go_at_call 46; refine (ints_at HA3.out HD3.out).mono ?_; rintro e w4 ⟨rfl, b4⟩; have HB4 := Lib.hid (Ext.trans' HB3.out b4); clear b4)
  refine hK.out _ _ (HC.out _ HB4.out) (fun hHeld => ?_)
  clear hK K
  try simp only [Act.put, lay4]
  first | (refine held_t (i := 7) hHeld ?_; constructor; constructor; intro wq hq; focus ((try dsimp only at hq); go_simp; first | done | with_reducible rfl | fail)) | refine held_s (i := 7) hHeld ?_ | fail
  first | (refine held_t (i := 12) hHeld ?_; constructor; constructor; intro wq hq; focus ((try dsimp only at hq); go_simp; first | done | with_reducible rfl | fail)) | refine held_s (i := 12) hHeld ?_ | fail
  first | (refine held_t (i := 13) hHeld ?_; constructor; constructor; intro wq hq; focus ((try dsimp only at hq); go_simp; first | done | with_reducible rfl | fail)) | refine held_s (i := 13) hHeld ?_ | fail
  first | (refine held_t (i := 14) hHeld ?_; constructor; constructor; intro wq hq; focus ((try dsimp only at hq); go_simp; first | done | with_reducible rfl | fail)) | refine held_s (i := 14) hHeld ?_ | fail
  try simp only [Act.put, lay4]
  refine held_c 8 fun K hK => ?_
  go_simp
  (go_at_call 16; refine (atom_at _ ⟨#[97]⟩).mono ?_; rintro e w5 ⟨rfl, b5⟩; have HB5 := Lib.hid (Ext.trans' HB4.out b5); clear b5)
  refine hK.out _ _ (HC.out _ HB5.out) (fun hHeld => ?_)
  clear hK K
  try simp only [Act.put, lay4]
  refine held_c 9 fun K hK => ?_
  go_simp
  skip
  refine hK.out _ _ (HC.out _ (Ext.trans' HB5.out (bel1' _ _))) (fun hHeld => ?_)
  clear hK K
  try simp only [Act.put, lay4]
  obtain ⟨w6, e6, b6, z6, X6⟩ := box_new w5 #[.int .i64 2, .int .i64 0, .string ⟨#[97]⟩, .slice none 0 0] 31
  obtain ⟨ab, hab⟩ : ∃ ab, w5.heap.size = ab := ⟨_, rfl⟩
  rw [hab] at X6 ⊢
  have HB6 := Lib.hid (Ext.trans' HB5.out b6)
  have HT6 := Lib.hid (show Tms w6 (.slice (some ⟨ab, 0, none⟩) 1 1) [nameT ⟨#[97]⟩ []] from ⟨_, 1, rfl, Nat.le_refl _, by unfold maxLen; omega, by unfold BIG; decide, Or.inr ⟨ab, 0, rfl, X6.lt, TmRow.mk fun i x hx => by
   rcases i with _ | i
   ·injection hx with hx
    subst hx
    exact ⟨_, _, _, _, X6.cells 0 _ rfl, X6.cells 1 _ rfl, X6.cells 2 _ rfl, X6.cells 3 _ rfl, leaf_tm w6 i64of2 i64of0 (by unfold BIG; decide)⟩
   ·simp at hx⟩⟩)
  rw [e6] at hHeld ⊢
  clear e6 b6 z6 X6 hab
  refine held_c 10 fun K hK => ?_
  go_simp
  (go_at_call 17; refine (comp_at ⟨#[112]⟩ (by unfold BIG; decide) HT6.out).mono ?_; rintro e w7 ⟨a7, c7, rfl, ht7, b7⟩; have HB7 := Lib.hid (Ext.trans' HB6.out b7); have HT7 := Lib.hid ht7; clear ht7 b7)
  refine hK.out _ _ (HC.out _ HB7.out) (fun hHeld => ?_)
  clear hK K
  try simp only [Act.put, lay4]
  refine held_c 11 fun K hK => ?_
  go_simp
  (go_at_call 41; refine (ixOf_at (nameT ⟨#[112]⟩ [nameT ⟨#[97]⟩ []]) _ _ HT7.out).mono ?_; rintro e w8 ⟨rfl, b8⟩; have HB8 := Lib.hid (Ext.trans' HB7.out b8); have he := HEQ.out; rw [ixA_v]; clear b8)
  refine hK.out _ _ (HC.out _ HB8.out) (fun hHeld => ?_)
  clear hK K
  try simp only [Act.put, lay4]
  first | (refine held_t (i := 15) hHeld ?_; constructor; constructor; intro wq hq; focus ((try dsimp only at hq); go_simp; first | done | with_reducible rfl | fail)) | refine held_s (i := 15) hHeld ?_ | fail
  first | (refine held_t (i := 16) hHeld ?_; constructor; constructor; intro wq hq; focus ((try dsimp only at hq); go_simp; first | done | with_reducible rfl | fail)) | refine held_s (i := 16) hHeld ?_ | fail
  first | (refine held_t (i := 17) hHeld ?_; constructor; constructor; intro wq hq; focus ((try dsimp only at hq); go_simp; first | done | with_reducible rfl | fail)) | refine held_s (i := 17) hHeld ?_ | fail
  try simp only [Act.put, lay4]
  refine wpAnyH_done (by kernel_rfl) ?_ _
  go_wp2
  go_ret
  exact ⟨rfl, Ext.trans' HB1.out HB8.out⟩
end Go.Proofs.Ytchbbaehdcmcfaa
/- Terms: how deep one is asked of. -/
namespace Go.Proofs.Ytchbbaehdcmcfaa
open Go.RowKit
set_option linter.unusedVariables false
mutual
def deepT : Tm → Int → Bool
 | .mk _ _ _ ts, left => if left < 1 ∨ 12 < ts.length then true else deepsT ts (left - 1)
def deepsT : List Tm → Int → Bool
 | [], _ => false
 | x :: r, left => deepT x left || deepsT r left
end
end Go.Proofs.Ytchbbaehdcmcfaa
/- Stage 11's laws: how deep a term is asked of. -/
namespace Go.Proofs.Ytchbbaehdcmcfaa
open Go.RowKit
set_option linter.unusedVariables false
set_option maxHeartbeats 2000000 in
theorem deep16_at : ∀ (N : Nat) (x : Tm), sizeN x ≤ N → ∀ (left : Int), I64 left → ∀ (w : World) (v : Value), TmV w x v →
    Calls Try.prog 51 #[v, .int .i64 left] w fun e w' => e = .returned (.bool (deepT x left)) ∧ Below w.heap.size w w'
  | 0, x, h, left, hl, w, v, hv => by have := size_pos x; omega
  | N + 1, .mk k n s ts, h, left, hl, w, v, hv => by
    obtain ⟨u, rfl, hs, hk, hn, hu⟩ := tmV_iff.1 hv
    obtain ⟨a, c, rfl, h1, h2, h3⟩ := hu.len
    unfold BIG at h3
    unfold I64 at hl
    have hD : deepT (.mk k n s ts) left = if left < 1 ∨ 12 < ts.length then true else deepsT ts (left - 1) := by rw [deepT]
    by_cases hlt : left < 1
    · rw [hD, if_pos (Or.inl hlt)]
      clear hD
      go_enter Try.func51, Try.ntmps51
      go_wp2
      go_ret
      exact ⟨rfl, bel1' _ _⟩
    obtain ⟨m, hm⟩ : ∃ m, ts.length = m := ⟨_, rfl⟩
    by_cases h12 : 12 < m
    · rw [hD, if_pos (Or.inr (by rw [hm]; exact h12))]
      rw [hm] at h1 h3 ⊢
      clear hD hv hu hm
      go_enter Try.func51, Try.ntmps51
      go_wp2
      go_ret
      exact ⟨rfl, bel1' _ _⟩
    rw [hD, if_neg (by rw [hm]; omega)]
    have hI : I64 (left - 1) := by unfold I64; omega
    have IH := Lib.hid (fun (y : Tm) (hy : y ∈ ts) => deep16_at N y (mem_size h hy) (left - 1) hI)
    have HU := Lib.hid hu
    have HM := Lib.hid hm
    rw [hm] at h1 h3 hu HU ⊢
    obtain ⟨r, hr⟩ : ∃ r, deepsT ts (left - 1) = r := ⟨_, rfl⟩
    rw [hr]
    have HR := Lib.hid hr
    clear hD hv hu hm hr h
    go_enter Try.func51, Try.ntmps51
    go_wp2_with fail
    go_loopw [5] (fun v wr => ∃ i : Nat, i ≤ m ∧ v = .int .i64 i ∧ Hid (deepsT (ts.drop i) (left - 1) = r) ∧ Hid (Below (w.alloc (.cells #[.int .i64 k, .int .i64 n, .string s, .slice a m c] 31)).heap.size (w.alloc (.cells #[.int .i64 k, .int .i64 n, .string s, .slice a m c] 31)) wr)) (fun v _ => m - (RowKit.intOf v).toNat)
    case atStart => exact ⟨0, Nat.zero_le _, rfl, Lib.hid (by rw [List.drop_zero]; exact HR.out), Lib.hid (Below.refl _ _)⟩
    case round =>
      obtain ⟨i, hi, rfl, HD, HB⟩ := hrel
      obtain ⟨e0, e1, e2, e3⟩ := box_cells w 31 _ _ _ _ HB.out
      by_cases hil : i < m
      · obtain ⟨y, hy⟩ : ∃ y, ts[i]? = some y := ⟨_, List.getElem?_eq_getElem (by rw [HM.out]; exact hil)⟩
        have hdr : ts.drop i = y :: ts.drop (i + 1) := by
          obtain ⟨hlt', rfl⟩ := List.getElem?_eq_some_iff.1 hy
          exact List.drop_eq_getElem_cons hlt'
        have hd := HD.out
        rw [hdr, deepsT] at hd
        have HBW := Lib.hid (Ext.trans' (bel1' w _) HB.out)
        obtain ⟨b, off, k', n', s', u', rfl, hbb, _, _, _, c0, c1, c2, c3, _, ht⟩ := (HU.out.ext HBW.out).get hy
        have ih := IH.out y (List.mem_of_getElem? hy) wr _ ht
        clear hdr HD ht
        cases hq : deepT y (left - 1)
        · rw [hq, Bool.false_or] at hd
          rw [hq] at ih
          have HD := Lib.hid hd
          clear hq hd hy
          (go_wp2_with fail; go_fit (ih); rintro e w2 ⟨rfl, b2⟩)
          have B2 := Lib.hid (Ext.trans' HB.out b2)
          clear b2
          go_wp2
          go_roundw
          case rel => exact ⟨i + 1, by omega, by go_num, HD, B2⟩
          case measure => simp [RowKit.intOf]; omega
        · rw [hq, Bool.true_or] at hd
          rw [hq] at ih
          subst hd
          clear hq hy HR
          (go_wp2_with fail; go_fit (ih); rintro e w2 ⟨rfl, b2⟩)
          have B2 := Lib.hid (Ext.trans' HBW.out b2)
          clear b2
          go_wp2
          go_ret
          exact ⟨rfl, B2.out⟩
      · have hd := HD.out
        rw [List.drop_eq_nil_of_le (by rw [HM.out]; omega), deepsT] at hd
        subst hd
        clear HR HD
        go_wp2
        go_ret
        exact ⟨rfl, Ext.trans' (bel1' w _) HB.out⟩
end Go.Proofs.Ytchbbaehdcmcfaa
/- Stage 10's laws: their own copy of a term. -/
namespace Go.Proofs.Ytchbbaehdcmcfaa
open Go.RowKit
set_option linter.unusedVariables false
set_option maxRecDepth 100000 in
set_option maxHeartbeats 8000000 in
theorem own16_step (N : Nat) (ih : ∀ t, sizeN t < N → ∀ (D : Nat → Bool) (w : World) (v : Value), Old D w → TmV w t v → Calls Try.prog 53 #[v] w fun e w' => ∃ v', e = .returned v' ∧ TmV (hide D w') t v' ∧ Below w.heap.size w w')
  (t : Tm) (ht : sizeN t < N + 1) (D : Nat → Bool) (w : World) (v : Value) (hD : Old D w) (hv : TmV w t v) :
  Calls Try.prog 53 #[v] w fun e w' => ∃ v', e = .returned v' ∧ TmV (hide D w') t v' ∧ Below w.heap.size w w' := by
 cases t with
 | mk k n s ts =>
 obtain ⟨u, rfl, hs, hk64, hn64, hu⟩ := tmV_iff.1 hv
 obtain ⟨au, cu, rfl, hu1, hu2, hu3⟩ := hu.len
 obtain ⟨m, hm⟩ : ∃ m, ts.length = m := ⟨_, rfl⟩
 rw [hm] at hu hu1 hu3
 rw [hm]
 unfold BIG at hu3
 unfold maxLen at hu2
 obtain ⟨w1, hw1, hb1, hz1, hx1⟩ := box_new w #[.int .i64 k, .int .i64 n, .string s, .slice au m cu] 31
 obtain ⟨w2, hw2, hb2, hz2, hx2⟩ := box_new w1 #[.int .i64 0, .int .i64 0, .string ⟨#[]⟩, .slice none 0 0] 54
 obtain ⟨w3, hw3, hb3, hz3, hx3⟩ := box_new w2 #[.int .i64 k, .int .i64 n, .string s, .slice none 0 0] 54
 have hB3 := Ext.trans' (Ext.trans' hb1 hb2) hb3
 have hBB := (hb1.size)
 have hRR : w.heap.size ≤ w2.heap.size := Nat.le_trans hb1.size hb2.size
 have HT3 := Lib.hid ((Turn.into (D := D) (M := noM) (Ext.trans' hb1 hb2) hBB).trans (Turn.into (M := noM) hb3 (Nat.le_refl _)))
 have HO3 := Lib.hid (((okd_no hD).box (Ext.trans' hb1 hb2).size hx2.lt).box hb3.size hx3.lt)
 obtain ⟨y0, y1, y2, y3, yf⟩ := (hx1.ext hb2).four
 have HX1 := Lib.hid ((hx1.ext hb2).ext hb3)
 have HX2 := Lib.hid (hx2.ext hb3)
 have HX3 := Lib.hid hx3
 have HU := Lib.hid hu
 have HM := Lib.hid hm
 have HD := Lib.hid hD
 have HSZ := Lib.hid (show ∀ x ∈ ts, sizeN x < N from fun x hx => by have := sizes_mem hx; rw [sizeN] at ht; omega)
 have HIH := Lib.hid ih
 have HK := Lib.hid (And.intro hs (And.intro hk64 hn64))
 obtain ⟨i0, hi0, hz0, hs0, hb0⟩ := info_parts infoTermR
 have h12 : w.heap.size ≠ w1.heap.size := by omega
 have h13 : w.heap.size ≠ w2.heap.size := by omega
 have h23 : w1.heap.size ≠ w2.heap.size := by omega
 have hR : w.heap.size ≤ w2.heap.size := hRR
 have h23w : w2.heap.size < w3.heap.size := by omega
 have h13w : w1.heap.size < w3.heap.size := by omega
 have hBq : w.heap.size ≤ w1.heap.size := hBB
 clear hb1 hb2 hb3 hx1 hx2 hx3 hz1 hz2 hz3 hv hu hD ih ht hm hB3 hs hk64 hn64 hBB hRR
 have HW3 := Lib.hid hw3
 clear hw3
 go_enter Try.func53, Try.ntmps53
 go_wp2_with fail
 (try rw [hw1])
 (try rw [hw2])
 clear hw1 hw2
 go_wp2_with fail
 (try rw [HW3.out])
 clear y0 y1 y2 y3 yf HW3
 go_loopw [4] (fun i wr => ∃ (D1 : Nat → Bool) (j c : Nat) (a : Option Addr) (ps : List TmP), j ≤ m ∧ i = .int .i64 j ∧ ps.length = j ∧ Hid (ps.map (·.1) = ts.take j) ∧ Hid (Box wr w2.heap.size [.int .i64 k, .int .i64 n, .string s, .slice a j c]) ∧ Hid (RowY D1 noM wr w3.heap.size (.slice a j c) ps) ∧ Hid (Turn D noM D1 noM w wr) ∧ Hid (Okd D1 noM wr) ∧ Hid (D1 w2.heap.size = true ∧ D1 w1.heap.size = true) ∧ Hid (w3.heap.size ≤ wr.heap.size) ∧ Hid (Box wr w.heap.size [.int .i64 k, .int .i64 n, .string s, .slice au m cu]) ∧ Hid (Box wr w1.heap.size [.int .i64 0, .int .i64 0, .string ⟨#[]⟩, .slice none 0 0]))
  (fun i _ => m - (RowKit.intOf i).toNat)
 case atStart => exact ⟨plusB (plusB D w1.heap.size) w2.heap.size, 0, 0, none, [], Nat.zero_le _, rfl, rfl, Lib.hid rfl, HX3, Lib.hid (RowY.none _ _ _ _), HT3, HO3, Lib.hid ⟨plusB_self _ _, plusB_of (plusB_self _ _)⟩, Lib.hid (Nat.le_refl _), HX1, HX2⟩
 case round =>
  obtain ⟨D1, j, c, a, ps, hj, rfl, hpl, HPS, HXR, HRW, HT, HO, HDR, HZ, HX1, HX2⟩ := hrel
  have HPL := Lib.hid hpl
  obtain ⟨r0, r1, r2, r3, rf⟩ := HXR.out.four
  obtain ⟨t0, t1, t2, t3, tf⟩ := HX1.out.four
  have HBl := Lib.hid (HT.out.bel (Nat.le_refl _) (fun k _ => rfl))
  clear hpl
  by_cases hlt : j < m
  ·obtain ⟨x, hx⟩ : ∃ x, ts[j]? = some x := ⟨_, List.getElem?_eq_getElem (by rw [HM.out]; exact hlt)⟩
   obtain ⟨b, off, xk, xn, xs', xu, rfl, hbb, ek, en, es, c0, c1, c2, c3, _, htx⟩ := (HU.out.ext HBl.out).get hx
   have HSX := Lib.hid (HSZ.out x (List.mem_of_getElem? hx))
   have HTX := Lib.hid htx
   have HTK := Lib.hid (take_next hx)
   have HC := Lib.hid (fun (wq : World) (hq : Below wr.heap.size wr wq) => HIH.out x HSX.out D1 wq _ (HO.out.2.mono hq.size) (TmV.ext hq _ _ HTX.out))
   have hbw0 : b < w.heap.size := by
    have := HU.out
    obtain ⟨a', c', e', _, _, _, h4⟩ := this
    cases e'
    rcases h4 with rfl | ⟨b', off', e2, h5, _⟩
    ·simp at hx
    ·cases e2; exact h5
   have hbR : b ≠ w2.heap.size := by omega
   clear hx htx ek en es
   have hjj : (j : Int) < m := by omega
   go_wp2_with fail
   refine wp_region_held_drew (S := fun w' => (w'.cell? ⟨w.heap.size, 3, none⟩ = some (.slice (some ⟨b, off, none⟩) m cu) ∧ w'.cell? ⟨b, off + j * 4, none⟩ = some (.int .i64 xk) ∧ w'.cell? ⟨b, off + j * 4 + 1, none⟩ = some (.int .i64 xn) ∧ w'.cell? ⟨b, off + j * 4 + 2, none⟩ = some (.string xs') ∧ w'.cell? ⟨b, off + j * 4 + 3, none⟩ = some xu)) (by kernel_rfl) ⟨t3, c0, c1, c2, c3⟩ (fun hHeld => ?_)
   have HROW := Lib.hid (fun (wq : World) (hq : Below wr.heap.size wr wq) (o : Obj) => (show (wq.alloc o).ownsRow w3.heap.size 54 4 (.slice a j c) j (ps.flatMap pCells) from by
    have h := (HRW.out.turn (M := noM) (Turn.below (Ext.trans' hq (bel1' wq o))) HO.out.1).1
    unfold RowP at h
    rw [HPL.out] at h
    exact h))
   have h2w : w2.heap.size < w3.heap.size := h23w
   have h1w : w1.heap.size < w3.heap.size := h13w
   have h0w : w.heap.size < w3.heap.size := by omega
   have hbw : b < w3.heap.size := by omega
   first | (refine held_t (i := 0) hHeld ?_; constructor; constructor; intro wq hq; focus ((try dsimp only at hq); go_simp; first | done | with_reducible rfl | fail)) | refine held_s (i := 0) hHeld ?_ | fail
   first | (refine held_t (i := 2) hHeld ?_; constructor; constructor; intro wq hq; focus ((try dsimp only at hq); go_simp; first | done | with_reducible rfl | fail)) | refine held_s (i := 2) hHeld ?_ | fail
   first | (refine held_t (i := 3) hHeld ?_; constructor; constructor; intro wq hq; focus ((try dsimp only at hq); go_simp; first | done | with_reducible rfl | fail)) | refine held_s (i := 3) hHeld ?_ | fail
   first | (refine held_t (i := 4) hHeld ?_; constructor; constructor; intro wq hq; focus ((try dsimp only at hq); go_simp; first | done | with_reducible rfl | fail)) | refine held_s (i := 4) hHeld ?_ | fail
   first | (refine held_t (i := 5) hHeld ?_; constructor; constructor; intro wq hq; focus ((try dsimp only at hq); go_simp; first | done | with_reducible rfl | fail)) | refine held_s (i := 5) hHeld ?_ | fail
   first | (refine held_t (i := 6) hHeld ?_; constructor; constructor; intro wq hq; focus ((try dsimp only at hq); go_simp; first | done | with_reducible rfl | fail)) | refine held_s (i := 6) hHeld ?_ | fail
   try simp only [Act.put, lay4]
   refine wpAnyH_ready (rs := [1, 7]) (by kernel_rfl) (by simp) ?_
   refine AllReadyH.cons (by simp only [ops3]; rfl) (fun K hK => ?_) (AllReadyH.cons (by simp only [ops3]; rfl) (fun K hK => ?_) AllReadyH.nil)
   ·go_simp
    skip
    refine hK.out _ _ (hHeld) (fun hHeld => ?_)
    clear hK K
    try simp only [Act.put, lay4]
    refine held_c 7 fun K hK => ?_
    go_simp
    (go_at_call 53; refine (HC.out _ ((Below.refl _ _).drew)).mono ?_; rintro e w5 ⟨v5, rfl, hv5, hb5⟩; obtain ⟨k5, n5, s5, a5, m5, c5, rfl, ek, en, es, ep⟩ := four_of hv5; have HEP := Lib.hid ep; have HEK := Lib.hid (And.intro ek (And.intro en es)); have HV5 := Lib.hid hv5; have HB5 := Lib.hid (Ext.trans' (Below.refl wr.heap.size wr).drew hb5); obtain ⟨r0, r1, r2, r3, rf⟩ := (HXR.out.ext HB5.out).four; have r3' : ∀ o, (w5.alloc o).cell? ⟨w2.heap.size, 3, none⟩ = some (.slice a j c) := (fun o => Lib.cell?_alloc_some _ r3); clear ek en es ep hv5)
    refine hK.out _ _ (⟨cell_later HB5.out t3, cell_later HB5.out c0, cell_later HB5.out c1, cell_later HB5.out c2, cell_later HB5.out c3⟩) (fun hHeld => ?_)
    clear hK K
    try simp only [Act.put, lay4]
    refine held_c 8 fun K hK => ?_
    go_simp
    skip
    refine hK.out _ _ (⟨cell_later (bel1' _ _) hHeld.1, cell_later (bel1' _ _) hHeld.2.1, cell_later (bel1' _ _) hHeld.2.2.1, cell_later (bel1' _ _) hHeld.2.2.2.1, cell_later (bel1' _ _) hHeld.2.2.2.2⟩) (fun hHeld => ?_)
    clear hK K
    try simp only [Act.put, lay4]
    refine held_c 9 fun K hK => ?_
    (refine step_append_k (by rfl) _ _ _ (by rfl) w3.heap.size 54 i0 (.agg #[.int .i64 0, .int .i64 0, .string ⟨#[]⟩, .slice none 0 0]) 4 56 Try.underlying52 hi0 hz0 hs0 (by decide) hb0 rfl (.slice a j c) j (ps.flatMap pCells) (by rfl) (HROW.out w5 HB5.out _) (some ⟨w5.heap.size, 0, none⟩) 1 1 [.int .i64 k5, .int .i64 n5, .string s5, .slice a5 m5 c5] (by rfl) (by rfl) (Or.inr ⟨_, rfl, fun jj uu hu => cell_new w5 #[.int .i64 k5, .int .i64 n5, .string s5, .slice a5 m5 c5] _ jj uu hu⟩) (by simp [Value.oneCell']) (by unfold maxLen; omega) (by omega) (by have := HB5.out.size; have := HZ.out; simp; omega) (j + 1) (ps.flatMap pCells ++ [.int .i64 k5, .int .i64 n5, .string s5, .slice a5 m5 c5]) rfl rfl ?_; intro a7 c7 w7 hown7 hgrow7 hat7; have hkeep : ∀ g, g < w3.heap.size → w7.heap[g]? = w5.heap[g]? := (fun g hg => (hgrow7.block g (by have := HB5.out.size; have := HZ.out; simp; omega) (fun e => by have := (row_in HRW.out.1 e.symm).1; omega)).trans ((bel1' w5 _).block g (by have := HB5.out.size; have := HZ.out; omega))); have HKP := Lib.hid hkeep; have HGR := Lib.hid hgrow7; have HOW := Lib.hid hown7; have HAT := Lib.hid hat7; have r3 : w7.cell? ⟨w2.heap.size, 3, none⟩ = some (.slice a j c) := (by rw [World.cell?_of_block (hkeep _ h2w)]; exact r3); have rf : w7.frozen? ⟨w2.heap.size, 3, none⟩ = false := (by rw [World.frozen?_of_block (hkeep _ h2w)]; exact rf 3); clear hkeep hgrow7 hown7 hat7)
    refine hK.out _ _ (⟨by rw [World.cell?_of_block (HKP.out _ h0w)]; exact cell_later HB5.out t3, by rw [World.cell?_of_block (HKP.out _ hbw)]; exact cell_later HB5.out c0, by rw [World.cell?_of_block (HKP.out _ hbw)]; exact cell_later HB5.out c1, by rw [World.cell?_of_block (HKP.out _ hbw)]; exact cell_later HB5.out c2, by rw [World.cell?_of_block (HKP.out _ hbw)]; exact cell_later HB5.out c3⟩) (fun hHeld => ?_)
    clear hK K
    try simp only [Act.put, lay4]
    first | (refine held_t (i := 10) hHeld ?_; constructor; constructor; intro wq hq; focus ((try dsimp only at hq); go_simp; first | done | with_reducible rfl | fail)) | refine held_s (i := 10) hHeld ?_ | fail
    try simp only [Act.put, lay4]
    refine held_c 11 fun K hK => ?_
    go_simp
    skip
    refine hK.out _ _ (⟨far_one hHeld.1 h13, far_one hHeld.2.1 hbR, far_one hHeld.2.2.1 hbR, far_one hHeld.2.2.2.1 hbR, far_one hHeld.2.2.2.2 hbR⟩) (fun hHeld => ?_)
    clear hK K
    try simp only [Act.put, lay4]
    refine wpAnyH_done (by kernel_rfl) ?_ _
    have hW5 : Below wr.heap.size wr (w5.alloc (.cells #[.int .i64 k5, .int .i64 n5, .string s5, .slice a5 m5 c5] 54)) := Ext.trans' HB5.out (bel1' w5 _)
    have hRW := HRW.out.turn (Turn.below hW5) HO.out.1
    have hpc : pCells (x, .slice a5 m5 c5) = [.int .i64 k5, .int .i64 n5, .string s5, .slice a5 m5 c5] := by unfold pCells; rw [← HEK.out.1, ← HEK.out.2.1, ← HEK.out.2.2]
    have htW : TmV (hide D1 (w5.alloc (.cells #[.int .i64 k5, .int .i64 n5, .string s5, .slice a5 m5 c5] 54))) x (pVal (x, .slice a5 m5 c5)) := by rw [← HEP.out]; exact TmV.later (bel1' w5 _) HV5.out
    have hR7 := hRW.more htW (HO.out.later hW5.size) HGR.out HAT.out (by rw [HPL.out, hpc]; exact HOW.out)
    have hown : ∀ g, (Value.slice a7 (j + 1) c7).ownBlock = some g → g ≠ w2.heap.size := fun g hg e => by have := (row_in HOW.out hg).1; omega
    have HR8 := Lib.hid (hR7.put ⟨w2.heap.size, 3, none⟩ (.slice a7 (j + 1) c7) (withB_of HDR.out.1) hown)
    have HT8 := Lib.hid (((HT.out.trans (Turn.below hW5)).grown HGR.out (fun g hg => by have := (row_in hRW.1 hg).1; omega) HAT.out).set ⟨w2.heap.size, 3, none⟩ (.slice a7 (j + 1) c7) (Or.inl hR))
    have HO8 := Lib.hid (show Okd (withB D1 (.slice a7 (j + 1) c7)) noM (w7.setCell ⟨w2.heap.size, 3, none⟩ (.slice a7 (j + 1) c7)) from ⟨fun k hk => absurd hk (by simp), fun k hk => by
     rw [withB_no (fun e => by have := (row_in HOW.out e).2; simp [World.setCell] at hk; omega)]
     exact HO.out.2 k (by have h1 := HGR.out.size; have h2 := hW5.size; simp [World.setCell] at hk; omega)⟩)
    have HB8 := Lib.hid (((HXR.out.ext HB5.out).block (HKP.out _ h2w) (by have h1 := HGR.out.size; have h2 := hW5.size; have h3 := HXR.out.lt; omega)).set (k := 3) (u := .slice a7 (j + 1) c7) (by simp))
    have HY1 := Lib.hid (((HX1.out.ext HB5.out).block (HKP.out _ h0w) (by have h1 := HGR.out.size; have h2 := hW5.size; have h3 := HX1.out.lt; omega)).far (c := w2.heap.size) (k := 3) (u := .slice a7 (j + 1) c7) h13)
    have HY2 := Lib.hid (((HX2.out.ext HB5.out).block (HKP.out _ h1w) (by have h1 := HGR.out.size; have h2 := hW5.size; have h3 := HX2.out.lt; omega)).far (c := w2.heap.size) (k := 3) (u := .slice a7 (j + 1) c7) h23)
    have HZ8 := Lib.hid (show w3.heap.size ≤ (w7.setCell ⟨w2.heap.size, 3, none⟩ (.slice a7 (j + 1) c7)).heap.size by have h1 := HGR.out.size; have h2 := hW5.size; have := HZ.out; simp [World.setCell]; omega)
    have HP8 := Lib.hid (show (ps ++ [(x, Value.slice a5 m5 c5)]).map (·.1) = ts.take (j + 1) by rw [List.map_append, HTK.out, HPS.out]; rfl)
    clear hRW hpc htW hR7 hown hW5 r0 r1 r2 r3 rf r3' t0 t1 t2 t3 tf c0 c1 c2 c3 hHeld
    go_wp2
    go_roundw
    case rel => exact ⟨_, j + 1, c7, a7, _, hlt, by go_num, by rw [List.length_append, HPL.out]; rfl, HP8, HB8, HR8, HT8, HO8, Lib.hid ⟨withB_of HDR.out.1, withB_of HDR.out.2⟩, HZ8, HY1, HY2⟩
    case measure => simp [RowKit.intOf]; omega
   ·go_simp
    (go_at_call 53; refine (HC.out _ ((Below.refl _ _).drew)).mono ?_; rintro e w5 ⟨v5, rfl, hv5, hb5⟩; obtain ⟨k5, n5, s5, a5, m5, c5, rfl, ek, en, es, ep⟩ := four_of hv5; have HEP := Lib.hid ep; have HEK := Lib.hid (And.intro ek (And.intro en es)); have HV5 := Lib.hid hv5; have HB5 := Lib.hid (Ext.trans' (Below.refl wr.heap.size wr).drew hb5); obtain ⟨r0, r1, r2, r3, rf⟩ := (HXR.out.ext HB5.out).four; have r3' : ∀ o, (w5.alloc o).cell? ⟨w2.heap.size, 3, none⟩ = some (.slice a j c) := (fun o => Lib.cell?_alloc_some _ r3); clear ek en es ep hv5)
    refine hK.out _ _ (⟨cell_later HB5.out t3, cell_later HB5.out c0, cell_later HB5.out c1, cell_later HB5.out c2, cell_later HB5.out c3⟩) (fun hHeld => ?_)
    clear hK K
    try simp only [Act.put, lay4]
    refine wpAnyH_ready (rs := [1, 8]) (by kernel_rfl) (by simp) ?_
    refine AllReadyH.cons (by simp only [ops3]; rfl) (fun K hK => ?_) (AllReadyH.cons (by simp only [ops3]; rfl) (fun K hK => ?_) AllReadyH.nil)
    ·go_simp
     skip
     refine hK.out _ _ (hHeld) (fun hHeld => ?_)
     clear hK K
     try simp only [Act.put, lay4]
     refine held_c 8 fun K hK => ?_
     go_simp
     skip
     refine hK.out _ _ (⟨cell_later (bel1' _ _) hHeld.1, cell_later (bel1' _ _) hHeld.2.1, cell_later (bel1' _ _) hHeld.2.2.1, cell_later (bel1' _ _) hHeld.2.2.2.1, cell_later (bel1' _ _) hHeld.2.2.2.2⟩) (fun hHeld => ?_)
     clear hK K
     try simp only [Act.put, lay4]
     refine held_c 9 fun K hK => ?_
     (refine step_append_k (by rfl) _ _ _ (by rfl) w3.heap.size 54 i0 (.agg #[.int .i64 0, .int .i64 0, .string ⟨#[]⟩, .slice none 0 0]) 4 56 Try.underlying52 hi0 hz0 hs0 (by decide) hb0 rfl (.slice a j c) j (ps.flatMap pCells) (by rfl) (HROW.out w5 HB5.out _) (some ⟨w5.heap.size, 0, none⟩) 1 1 [.int .i64 k5, .int .i64 n5, .string s5, .slice a5 m5 c5] (by rfl) (by rfl) (Or.inr ⟨_, rfl, fun jj uu hu => cell_new w5 #[.int .i64 k5, .int .i64 n5, .string s5, .slice a5 m5 c5] _ jj uu hu⟩) (by simp [Value.oneCell']) (by unfold maxLen; omega) (by omega) (by have := HB5.out.size; have := HZ.out; simp; omega) (j + 1) (ps.flatMap pCells ++ [.int .i64 k5, .int .i64 n5, .string s5, .slice a5 m5 c5]) rfl rfl ?_; intro a7 c7 w7 hown7 hgrow7 hat7; have hkeep : ∀ g, g < w3.heap.size → w7.heap[g]? = w5.heap[g]? := (fun g hg => (hgrow7.block g (by have := HB5.out.size; have := HZ.out; simp; omega) (fun e => by have := (row_in HRW.out.1 e.symm).1; omega)).trans ((bel1' w5 _).block g (by have := HB5.out.size; have := HZ.out; omega))); have HKP := Lib.hid hkeep; have HGR := Lib.hid hgrow7; have HOW := Lib.hid hown7; have HAT := Lib.hid hat7; have r3 : w7.cell? ⟨w2.heap.size, 3, none⟩ = some (.slice a j c) := (by rw [World.cell?_of_block (hkeep _ h2w)]; exact r3); have rf : w7.frozen? ⟨w2.heap.size, 3, none⟩ = false := (by rw [World.frozen?_of_block (hkeep _ h2w)]; exact rf 3); clear hkeep hgrow7 hown7 hat7)
     refine hK.out _ _ (⟨by rw [World.cell?_of_block (HKP.out _ h0w)]; exact cell_later HB5.out t3, by rw [World.cell?_of_block (HKP.out _ hbw)]; exact cell_later HB5.out c0, by rw [World.cell?_of_block (HKP.out _ hbw)]; exact cell_later HB5.out c1, by rw [World.cell?_of_block (HKP.out _ hbw)]; exact cell_later HB5.out c2, by rw [World.cell?_of_block (HKP.out _ hbw)]; exact cell_later HB5.out c3⟩) (fun hHeld => ?_)
     clear hK K
     try simp only [Act.put, lay4]
     first | (refine held_t (i := 10) hHeld ?_; constructor; constructor; intro wq hq; focus ((try dsimp only at hq); go_simp; first | done | with_reducible rfl | fail)) | refine held_s (i := 10) hHeld ?_ | fail
     try simp only [Act.put, lay4]
     refine held_c 11 fun K hK => ?_
     go_simp
     skip
     refine hK.out _ _ (⟨far_one hHeld.1 h13, far_one hHeld.2.1 hbR, far_one hHeld.2.2.1 hbR, far_one hHeld.2.2.2.1 hbR, far_one hHeld.2.2.2.2 hbR⟩) (fun hHeld => ?_)
     clear hK K
     try simp only [Act.put, lay4]
     refine wpAnyH_done (by kernel_rfl) ?_ _
     have hW5 : Below wr.heap.size wr (w5.alloc (.cells #[.int .i64 k5, .int .i64 n5, .string s5, .slice a5 m5 c5] 54)) := Ext.trans' HB5.out (bel1' w5 _)
     have hRW := HRW.out.turn (Turn.below hW5) HO.out.1
     have hpc : pCells (x, .slice a5 m5 c5) = [.int .i64 k5, .int .i64 n5, .string s5, .slice a5 m5 c5] := by unfold pCells; rw [← HEK.out.1, ← HEK.out.2.1, ← HEK.out.2.2]
     have htW : TmV (hide D1 (w5.alloc (.cells #[.int .i64 k5, .int .i64 n5, .string s5, .slice a5 m5 c5] 54))) x (pVal (x, .slice a5 m5 c5)) := by rw [← HEP.out]; exact TmV.later (bel1' w5 _) HV5.out
     have hR7 := hRW.more htW (HO.out.later hW5.size) HGR.out HAT.out (by rw [HPL.out, hpc]; exact HOW.out)
     have hown : ∀ g, (Value.slice a7 (j + 1) c7).ownBlock = some g → g ≠ w2.heap.size := fun g hg e => by have := (row_in HOW.out hg).1; omega
     have HR8 := Lib.hid (hR7.put ⟨w2.heap.size, 3, none⟩ (.slice a7 (j + 1) c7) (withB_of HDR.out.1) hown)
     have HT8 := Lib.hid (((HT.out.trans (Turn.below hW5)).grown HGR.out (fun g hg => by have := (row_in hRW.1 hg).1; omega) HAT.out).set ⟨w2.heap.size, 3, none⟩ (.slice a7 (j + 1) c7) (Or.inl hR))
     have HO8 := Lib.hid (show Okd (withB D1 (.slice a7 (j + 1) c7)) noM (w7.setCell ⟨w2.heap.size, 3, none⟩ (.slice a7 (j + 1) c7)) from ⟨fun k hk => absurd hk (by simp), fun k hk => by
      rw [withB_no (fun e => by have := (row_in HOW.out e).2; simp [World.setCell] at hk; omega)]
      exact HO.out.2 k (by have h1 := HGR.out.size; have h2 := hW5.size; simp [World.setCell] at hk; omega)⟩)
     have HB8 := Lib.hid (((HXR.out.ext HB5.out).block (HKP.out _ h2w) (by have h1 := HGR.out.size; have h2 := hW5.size; have h3 := HXR.out.lt; omega)).set (k := 3) (u := .slice a7 (j + 1) c7) (by simp))
     have HY1 := Lib.hid (((HX1.out.ext HB5.out).block (HKP.out _ h0w) (by have h1 := HGR.out.size; have h2 := hW5.size; have h3 := HX1.out.lt; omega)).far (c := w2.heap.size) (k := 3) (u := .slice a7 (j + 1) c7) h13)
     have HY2 := Lib.hid (((HX2.out.ext HB5.out).block (HKP.out _ h1w) (by have h1 := HGR.out.size; have h2 := hW5.size; have h3 := HX2.out.lt; omega)).far (c := w2.heap.size) (k := 3) (u := .slice a7 (j + 1) c7) h23)
     have HZ8 := Lib.hid (show w3.heap.size ≤ (w7.setCell ⟨w2.heap.size, 3, none⟩ (.slice a7 (j + 1) c7)).heap.size by have h1 := HGR.out.size; have h2 := hW5.size; have := HZ.out; simp [World.setCell]; omega)
     have HP8 := Lib.hid (show (ps ++ [(x, Value.slice a5 m5 c5)]).map (·.1) = ts.take (j + 1) by rw [List.map_append, HTK.out, HPS.out]; rfl)
     clear hRW hpc htW hR7 hown hW5 r0 r1 r2 r3 rf r3' t0 t1 t2 t3 tf c0 c1 c2 c3 hHeld
     go_wp2
     go_roundw
     case rel => exact ⟨_, j + 1, c7, a7, _, hlt, by go_num, by rw [List.length_append, HPL.out]; rfl, HP8, HB8, HR8, HT8, HO8, Lib.hid ⟨withB_of HDR.out.1, withB_of HDR.out.2⟩, HZ8, HY1, HY2⟩
     case measure => simp [RowKit.intOf]; omega
    ·go_simp
     skip
     refine hK.out _ _ (⟨cell_later (bel1' _ _) hHeld.1, cell_later (bel1' _ _) hHeld.2.1, cell_later (bel1' _ _) hHeld.2.2.1, cell_later (bel1' _ _) hHeld.2.2.2.1, cell_later (bel1' _ _) hHeld.2.2.2.2⟩) (fun hHeld => ?_)
     clear hK K
     try simp only [Act.put, lay4]
     refine held_c 1 fun K hK => ?_
     go_simp
     skip
     refine hK.out _ _ (hHeld) (fun hHeld => ?_)
     clear hK K
     try simp only [Act.put, lay4]
     refine held_c 9 fun K hK => ?_
     (refine step_append_k (by rfl) _ _ _ (by rfl) w3.heap.size 54 i0 (.agg #[.int .i64 0, .int .i64 0, .string ⟨#[]⟩, .slice none 0 0]) 4 56 Try.underlying52 hi0 hz0 hs0 (by decide) hb0 rfl (.slice a j c) j (ps.flatMap pCells) (by rfl) (HROW.out w5 HB5.out _) (some ⟨w5.heap.size, 0, none⟩) 1 1 [.int .i64 k5, .int .i64 n5, .string s5, .slice a5 m5 c5] (by rfl) (by rfl) (Or.inr ⟨_, rfl, fun jj uu hu => cell_new w5 #[.int .i64 k5, .int .i64 n5, .string s5, .slice a5 m5 c5] _ jj uu hu⟩) (by simp [Value.oneCell']) (by unfold maxLen; omega) (by omega) (by have := HB5.out.size; have := HZ.out; simp; omega) (j + 1) (ps.flatMap pCells ++ [.int .i64 k5, .int .i64 n5, .string s5, .slice a5 m5 c5]) rfl rfl ?_; intro a7 c7 w7 hown7 hgrow7 hat7; have hkeep : ∀ g, g < w3.heap.size → w7.heap[g]? = w5.heap[g]? := (fun g hg => (hgrow7.block g (by have := HB5.out.size; have := HZ.out; simp; omega) (fun e => by have := (row_in HRW.out.1 e.symm).1; omega)).trans ((bel1' w5 _).block g (by have := HB5.out.size; have := HZ.out; omega))); have HKP := Lib.hid hkeep; have HGR := Lib.hid hgrow7; have HOW := Lib.hid hown7; have HAT := Lib.hid hat7; have r3 : w7.cell? ⟨w2.heap.size, 3, none⟩ = some (.slice a j c) := (by rw [World.cell?_of_block (hkeep _ h2w)]; exact r3); have rf : w7.frozen? ⟨w2.heap.size, 3, none⟩ = false := (by rw [World.frozen?_of_block (hkeep _ h2w)]; exact rf 3); clear hkeep hgrow7 hown7 hat7)
     refine hK.out _ _ (⟨by rw [World.cell?_of_block (HKP.out _ h0w)]; exact cell_later HB5.out t3, by rw [World.cell?_of_block (HKP.out _ hbw)]; exact cell_later HB5.out c0, by rw [World.cell?_of_block (HKP.out _ hbw)]; exact cell_later HB5.out c1, by rw [World.cell?_of_block (HKP.out _ hbw)]; exact cell_later HB5.out c2, by rw [World.cell?_of_block (HKP.out _ hbw)]; exact cell_later HB5.out c3⟩) (fun hHeld => ?_)
     clear hK K
     try simp only [Act.put, lay4]
     first | (refine held_t (i := 10) hHeld ?_; constructor; constructor; intro wq hq; focus ((try dsimp only at hq); go_simp; first | done | with_reducible rfl | fail)) | refine held_s (i := 10) hHeld ?_ | fail
     try simp only [Act.put, lay4]
     refine held_c 11 fun K hK => ?_
     go_simp
     skip
     refine hK.out _ _ (⟨far_one hHeld.1 h13, far_one hHeld.2.1 hbR, far_one hHeld.2.2.1 hbR, far_one hHeld.2.2.2.1 hbR, far_one hHeld.2.2.2.2 hbR⟩) (fun hHeld => ?_)
     clear hK K
     try simp only [Act.put, lay4]
     refine wpAnyH_done (by kernel_rfl) ?_ _
     have hW5 : Below wr.heap.size wr (w5.alloc (.cells #[.int .i64 k5, .int .i64 n5, .string s5, .slice a5 m5 c5] 54)) := Ext.trans' HB5.out (bel1' w5 _)
     have hRW := HRW.out.turn (Turn.below hW5) HO.out.1
     have hpc : pCells (x, .slice a5 m5 c5) = [.int .i64 k5, .int .i64 n5, .string s5, .slice a5 m5 c5] := by unfold pCells; rw [← HEK.out.1, ← HEK.out.2.1, ← HEK.out.2.2]
     have htW : TmV (hide D1 (w5.alloc (.cells #[.int .i64 k5, .int .i64 n5, .string s5, .slice a5 m5 c5] 54))) x (pVal (x, .slice a5 m5 c5)) := by rw [← HEP.out]; exact TmV.later (bel1' w5 _) HV5.out
     have hR7 := hRW.more htW (HO.out.later hW5.size) HGR.out HAT.out (by rw [HPL.out, hpc]; exact HOW.out)
     have hown : ∀ g, (Value.slice a7 (j + 1) c7).ownBlock = some g → g ≠ w2.heap.size := fun g hg e => by have := (row_in HOW.out hg).1; omega
     have HR8 := Lib.hid (hR7.put ⟨w2.heap.size, 3, none⟩ (.slice a7 (j + 1) c7) (withB_of HDR.out.1) hown)
     have HT8 := Lib.hid (((HT.out.trans (Turn.below hW5)).grown HGR.out (fun g hg => by have := (row_in hRW.1 hg).1; omega) HAT.out).set ⟨w2.heap.size, 3, none⟩ (.slice a7 (j + 1) c7) (Or.inl hR))
     have HO8 := Lib.hid (show Okd (withB D1 (.slice a7 (j + 1) c7)) noM (w7.setCell ⟨w2.heap.size, 3, none⟩ (.slice a7 (j + 1) c7)) from ⟨fun k hk => absurd hk (by simp), fun k hk => by
      rw [withB_no (fun e => by have := (row_in HOW.out e).2; simp [World.setCell] at hk; omega)]
      exact HO.out.2 k (by have h1 := HGR.out.size; have h2 := hW5.size; simp [World.setCell] at hk; omega)⟩)
     have HB8 := Lib.hid (((HXR.out.ext HB5.out).block (HKP.out _ h2w) (by have h1 := HGR.out.size; have h2 := hW5.size; have h3 := HXR.out.lt; omega)).set (k := 3) (u := .slice a7 (j + 1) c7) (by simp))
     have HY1 := Lib.hid (((HX1.out.ext HB5.out).block (HKP.out _ h0w) (by have h1 := HGR.out.size; have h2 := hW5.size; have h3 := HX1.out.lt; omega)).far (c := w2.heap.size) (k := 3) (u := .slice a7 (j + 1) c7) h13)
     have HY2 := Lib.hid (((HX2.out.ext HB5.out).block (HKP.out _ h1w) (by have h1 := HGR.out.size; have h2 := hW5.size; have h3 := HX2.out.lt; omega)).far (c := w2.heap.size) (k := 3) (u := .slice a7 (j + 1) c7) h23)
     have HZ8 := Lib.hid (show w3.heap.size ≤ (w7.setCell ⟨w2.heap.size, 3, none⟩ (.slice a7 (j + 1) c7)).heap.size by have h1 := HGR.out.size; have h2 := hW5.size; have := HZ.out; simp [World.setCell]; omega)
     have HP8 := Lib.hid (show (ps ++ [(x, Value.slice a5 m5 c5)]).map (·.1) = ts.take (j + 1) by rw [List.map_append, HTK.out, HPS.out]; rfl)
     clear hRW hpc htW hR7 hown hW5 r0 r1 r2 r3 rf r3' t0 t1 t2 t3 tf c0 c1 c2 c3 hHeld
     go_wp2
     go_roundw
     case rel => exact ⟨_, j + 1, c7, a7, _, hlt, by go_num, by rw [List.length_append, HPL.out]; rfl, HP8, HB8, HR8, HT8, HO8, Lib.hid ⟨withB_of HDR.out.1, withB_of HDR.out.2⟩, HZ8, HY1, HY2⟩
     case measure => simp [RowKit.intOf]; omega
  ·have hjm : j = m := by omega
   subst hjm
   obtain ⟨q0, q1, q2, q3, qf⟩ := HX2.out.four
   go_wp2
   refine bodyPost_ret (v := .agg #[.int .i64 k, .int .i64 n, .string s, .slice a j c]) (by rw [results_cell1 rfl]; go_simp) rfl ⟨_, rfl, ?_, ?_⟩
   ·have hT := HT.out.set4 (b := w1.heap.size) (Or.inl hBq) (.int .i64 k) (.int .i64 n) (.string s) (.slice a j c)
    have hT4 := HRW.out
    have hRp : RowY D1 noM (set4 wr w1.heap.size (.int .i64 k) (.int .i64 n) (.string s) (.slice a j c)) w3.heap.size (.slice a j c) ps := by
     have hn : ∀ g, (Value.slice a j c).ownBlock = some g → g ≠ w1.heap.size := fun g hg e => by have := (row_in hT4.1 hg).1; omega
     exact (((hT4.put ⟨w1.heap.size, 0, none⟩ _ HDR.out.2 hn).put ⟨w1.heap.size, 1, none⟩ _ HDR.out.2 hn).put ⟨w1.heap.size, 2, none⟩ _ HDR.out.2 hn).put ⟨w1.heap.size, 3, none⟩ _ HDR.out.2 hn
    have hF := RowY.fin (Nat.le_trans hR (Nat.le_of_lt h23w)) hRp hT (HO.out.put4 _ _ _ _ _) (by rw [HPL.out]; unfold BIG; omega)
    rw [fin_no HD.out, HPS.out, List.take_of_length_le (by rw [HM.out]; exact Nat.le_refl _)] at hF
    exact tmV_iff.2 ⟨_, rfl, HK.out.1, HK.out.2.1, HK.out.2.2, hF⟩
   ·exact Below.set4 HBl.out hBq _ _ _ _
theorem own16_at (t : Tm) (D : Nat → Bool) (w : World) (v : Value) (hD : Old D w) (hv : TmV w t v) : Calls Try.prog 53 #[v] w fun e w' => ∃ v', e = .returned v' ∧ TmV (hide D w') t v' ∧ Below w.heap.size w w' := by
 suffices h : ∀ N (t : Tm), sizeN t < N → ∀ (D : Nat → Bool) (w : World) (v : Value), Old D w → TmV w t v → Calls Try.prog 53 #[v] w fun e w' => ∃ v', e = .returned v' ∧ TmV (hide D w') t v' ∧ Below w.heap.size w w' from
  h _ t (Nat.lt_succ_self _) D w v hD hv
 intro N
 induction N with
 | zero => intro t ht; omega
 | succ N ih => intro t ht D w v hD hv; exact own16_step N ih t ht D w v hD hv
end Go.Proofs.Ytchbbaehdcmcfaa
/- Stacks of int64: New, Mark, At, Top, cut, Pop. -/
namespace Go.Proofs.Ytchbbaehdcmcfaa
open Go.RowKit
abbrev StkL (F : List Nat) (w : World) (p : Value) (R : Nat) (xs : List Value) : Prop := IsStk 2 150 F w p R xs
theorem infoL : (Try.prog.info? 2).map (fun i => (i.zero, i.size, i.bytes)) = some (some (.int .i64 0), 1, 8) := by kernel_rfl
theorem new_doneL (w : World) {R : Nat} {x : Int} (hx : x = R) (hR : 1 ≤ R ∧ R ≤ 65536) :
  StkL [w.heap.size] (w.alloc (.cells #[.int .i64 x, .slice none 0 0] 150)) (.pointer (some ⟨w.heap.size, 0, none⟩)) R [] ∧
   Below w.heap.size w (w.alloc (.cells #[.int .i64 x, .slice none 0 0] 150)) ∧ ∀ k ∈ [w.heap.size], w.heap.size ≤ k := by
 subst hx
 exact ⟨⟨w.heap.size, .slice none 0 0, rfl, by simp [Value.ownBlock], rfl, heap_alloc_new w _, World.ownsRow_nil _ _ _ _, by simp, hR.1, hR.2, by simp⟩, (Below.refl _ _).alloc (Nat.le_refl _) _, by simp⟩
theorem newL (m : Int) (R : Nat) (hR : (R : Int) = max 1 (min m 65536)) (w : World) :
  Calls Try.prog 58 #[.int .i64 m] w fun e w' => ∃ p, e = .returned p ∧ ∃ F, StkL F w' p R [] ∧ Below w.heap.size w w' ∧ ∀ k ∈ F, w.heap.size ≤ k := by
 go_enter Try.func58, Try.ntmps58
 go_wp2
 all_goals go_ret
 all_goals exact ⟨_, rfl, _, new_doneL (R := R) w (by omega) (by omega)⟩
section
variable {F : List Nat} {w : World} {p : Value} {R : Nat} {xs : List Value}
theorem markL (h : StkL F w p R xs) : Calls Try.prog 65 #[p] w fun e w' => e = .returned (.int .i64 xs.length) ∧ w = w' := by
 obtain ⟨bt, v, rfl, h1, rfl, hbt, hr, hN, hR⟩ := h
 have c1 : w.cell? ⟨bt, 1, none⟩ = some v := by simp [blk_cell hbt]
 obtain ⟨a, c, rfl, _⟩ := row_form hr
 clear hbt hN hr h1
 go_enter Try.func65, Try.ntmps65
 go_wp2
 go_ret
 exact ⟨rfl, rfl⟩
theorem storedL {bt g c n : Nat} {v : Value} {ys : List Value} (hb : w.heap[bt]? = some (.cells #[.int .i64 (R : Int), v] 150 (0, 0))) (hn : ys.length = n)
  (hr : w.ownsRow 0 2 1 (.slice (some ⟨g, 0, none⟩) ys.length c) ys.length ys) (hgb : g ≠ bt) (h1 : ∀ x ∈ ys, x.oneCell' = true) (hR : 1 ≤ R ∧ R ≤ 65536 ∧ ys.length ≤ R) :
  StkL [bt, g] (w.setCell ⟨bt, 1, none⟩ (.slice (some ⟨g, 0, none⟩) n c)) (.pointer (some ⟨bt, 0, none⟩)) R ys := by
 subst hn
 exact ⟨bt, _, rfl, by simpa [Value.ownBlock] using hgb, rfl, blk_set hb _, owns_row_block hr (fun k hk => heap_set_other _ _ _ _ (fun e => by simp [Value.ownBlock] at hk; simp at e; omega)), h1, hR⟩
set_option maxHeartbeats 400000 in
theorem cutL (h : StkL F w p R xs) (n : Nat) (hn : n ≤ xs.length) :
  Calls Try.prog 121 #[p, .int .i64 n] w fun e w' => e = .returned (.tuple #[]) ∧ StkL F w' p R (xs.take n) ∧ Touch F w w' := by
 have hroom := h.room
 obtain ⟨bt, v, rfl, h1, rfl, hbt, hr, hN, hR⟩ := h
 have c1 : w.cell? ⟨bt, 1, none⟩ = some v := by simp [blk_cell hbt]
 have f1 : w.frozen? ⟨bt, 1, none⟩ = false := blk_froz hbt 1
 have hl : (xs.take n).length = n := by simp; omega
 have hcl0 := fun w ty => run_clear_none (P := Try.prog) w 57 2 ty Try.underlying57
 rcases row_cells hr with ⟨rfl, rfl⟩ | ⟨g, c, cur, rfl, hg, hc1, hc2, hc3, hc4⟩
 ·obtain rfl : n = 0 := by simpa using hn
  have HB := Lib.hid hbt
  clear hbt hN hr h1
  go_enter Try.func121, Try.ntmps121
  go_wp2
  all_goals go_end0
  all_goals exact ⟨rfl, ⟨bt, _, rfl, by simp [Value.ownBlock], rfl, blk_set HB.out _, World.ownsRow_nil _ _ _ _, by simp, hR.1, hR.2.1, by simp⟩, touch_set⟩
 have hgb : g ≠ bt := fun e => h1 (by rw [e]; rfl)
 have HB := Lib.hid hbt
 have HG := Lib.hid hg
 have H4 := Lib.hid hc4
 have HN := Lib.hid hN
 clear hbt hN hr h1 hg hc4
 unfold maxLen at hc2
 by_cases hlt : n < xs.length
 ·have hcl : ∀ ty c', (Builtin.clear_ #[57] ty #[.slice (some ⟨g, n, none⟩) (xs.length - n) c']).run Try.prog w = .ok (.tuple #[]) (w.setRow g (cur.toList.take n ++ List.replicate (xs.length - n) (.int .i64 0 : Value) ++ cur.toList.drop (n + (xs.length - n))).toArray) :=
   fun ty c' => run_clear_row w _ _ ty _ Try.underlying57 (fun w => by kernel_rfl) rfl rfl g n (xs.length - n) c' cur 2 HG.out (by omega) (by omega)
  generalize hcur : (cur.toList.take n ++ List.replicate (xs.length - n) (.int .i64 0 : Value) ++ cur.toList.drop (n + (xs.length - n))).toArray = cur' at hcl
  have hb2 : (w.setRow g cur').heap[bt]? = some (.cells #[.int .i64 (R : Int), .slice (some ⟨g, 0, none⟩) xs.length c] 150 (0, 0)) := (setRow_other w g bt cur' (fun e => hgb e.symm)).trans HB.out
  have hg2 : (w.setRow g cur').heap[g]? = some (.cells cur' 2 (0, 0)) := setRow_heap w g _ _ _ _ HG.out
  have hT : Touch [bt, g] w (w.setRow g cur') := ⟨rfl, rfl, rfl, by simp [World.setRow], fun k _ hn => setRow_other w g k cur' (by simp at hn; exact hn.2)⟩
  have hsz : cur'.size = c := by rw [← hcur, List.size_toArray]; simp; omega
  have htk : cur'.toList.take n = xs.take n := by
   rw [← hcur, List.append_assoc, List.take_append_of_le_length (by simp; omega), List.take_take, Nat.min_self]
   have := congrArg (List.take n) H4.out
   rw [List.take_take, Nat.min_eq_left (by omega)] at this
   exact this
  have c1' : (w.setRow g cur').cell? ⟨bt, 1, none⟩ = some (.slice (some ⟨g, 0, none⟩) xs.length c) := by simp [blk_cell hb2]
  have f1' : (w.setRow g cur').frozen? ⟨bt, 1, none⟩ = false := blk_froz hb2 1
  have HD := Lib.hid (And.intro (storedL (n := n) hb2 hl (cells_row (xs := xs.take n) hg2 (by omega) (by unfold maxLen; omega) hsz (by rw [hl]; exact htk)) hgb (fun x hx => HN.out x (List.mem_of_mem_take hx)) ⟨hR.1, hR.2.1, by omega⟩) hT)
  clear hb2 hg2 hT hsz htk hcl0
  have hlt' : ¬ (xs.length < n) := by omega
  go_enter Try.func121, Try.ntmps121
  go_wp2
  all_goals go_end0
  all_goals exact ⟨rfl, HD.out.1, HD.out.2.trans (F' := [bt]) touch_set (fun k hk => Or.inl (by simp at hk; simp [hk]))⟩
 ·obtain rfl : n = xs.length := by omega
  have HD := Lib.hid (storedL (n := xs.length) HB.out (by simp) (cells_row (xs := xs) HG.out hc1 (by unfold maxLen; omega) hc3 H4.out) hgb HN.out ⟨hR.1, hR.2.1, by omega⟩)
  rw [List.take_length]
  by_cases hcap : c = xs.length
  ·subst hcap
   go_enter Try.func121, Try.ntmps121
   go_wp2
   all_goals go_end0
   all_goals exact ⟨rfl, HD.out, touch_set⟩
  have hcap' : xs.length < c := by omega
  go_enter Try.func121, Try.ntmps121
  go_wp2
  all_goals go_end0
  all_goals exact ⟨rfl, HD.out, touch_set⟩
end
end Go.Proofs.Ytchbbaehdcmcfaa
