import Derived.Test.YtchbbaehdcmcfaaHyfzz
import Derived.Test.YtchbbaehdcmcfaaHyfab
import Derived.Test.YtchbbaehdcmcfaaHyfaa
set_option linter.unusedVariables false
set_option linter.unusedSimpArgs false
/- Stage 16's laws: awake. -/
namespace Go.Proofs.Ytchbbaehdcmcfaa
open Go.RowKit
set_option linter.unusedVariables false
def ixA : KeyM := ⟨2, 0, ⟨#[97]⟩, 0⟩
def ixB : KeyM := ⟨2, 0, ⟨#[98]⟩, 0⟩
theorem ix3_keys {w : World} {b : Nat} (h : Box w b [.int .i64 0, .int .i64 0, .string ⟨#[]⟩, .int .i64 0, .int .i64 2, .int .i64 0, .string ⟨#[97]⟩, .int .i64 0, .int .i64 2, .int .i64 0, .string ⟨#[98]⟩, .int .i64 0]) : Keys w (.slice (some ⟨b, 0, none⟩) 3 3) [zeroKey, ixA, ixB] := by
 refine ⟨_, 3, rfl, Nat.le_refl _, by unfold maxLen; omega, Or.inr ⟨b, 0, rfl, h.lt, fun i x hx j u hu => ?_⟩⟩
 rcases i with _ | _ | _ | i <;> simp at hx <;> subst hx <;> rcases j with _ | _ | _ | _ | j <;> simp [ixCells, zeroKey, ixA, ixB] at hu <;> subst hu <;> exact h.cells _ _ rfl
theorem two_nums {w : World} {b : Nat} (h : Box w b [.int .i64 0, .int .i64 1]) : Nums w (.slice (some ⟨b, 0, none⟩) 2 2) [0, 1] := by
 refine ⟨_, 2, rfl, Nat.le_refl _, by unfold maxLen; omega, Or.inr ⟨b, 0, rfl, h.lt, fun i x hx j u hu => ?_⟩⟩
 rcases i with _ | _ | i <;> simp at hx <;> subst hx <;> rcases j with _ | j <;> simp at hu <;> subst hu <;> exact h.cells _ _ rfl
theorem ixA_head : keyT (nameT ⟨#[112]⟩ [nameT ⟨#[97]⟩ []]) = ixA := by
 unfold keyT
 rw [if_pos (by decide +kernel)]
 rfl
theorem ixA_v : ixV (keyT (nameT ⟨#[112]⟩ [nameT ⟨#[97]⟩ []])) = .agg #[.int .i64 2, .int .i64 0, .string ⟨#[97]⟩, .int .i64 0] := by rw [ixA_head]; rfl
theorem ixA_same : sameKey ixA ixA = true := sameKey_self _
set_option maxHeartbeats 4000000 in
set_option maxRecDepth 100000 in
theorem awake16_at (w : World) : Calls Try.prog 40 #[] w fun e w' => e = .returned (.bool true) ∧ Below w.heap.size w w' := by
 obtain ⟨w1, e1, B1, z1, X1⟩ := box_new w #[.int .i64 0, .int .i64 0, .string ⟨#[]⟩, .int .i64 0, .int .i64 2, .int .i64 0, .string ⟨#[97]⟩, .int .i64 0, .int .i64 2, .int .i64 0, .string ⟨#[98]⟩, .int .i64 0] 76
 obtain ⟨lb, hlb⟩ : ∃ lb, w.heap.size = lb := ⟨_, rfl⟩
 rw [hlb] at X1
 have HE := Lib.hid (And.intro e1 hlb)
 have HB1 := Lib.hid B1
 have HK := Lib.hid (ix3_keys X1)
 have hC : ∀ wq, Below w1.heap.size w1 wq → (wq.cell? ⟨lb, 4, none⟩ = some (.int .i64 2) ∧ wq.cell? ⟨lb, 5, none⟩ = some (.int .i64 0) ∧ wq.cell? ⟨lb, 6, none⟩ = some (.string ⟨#[97]⟩) ∧ wq.cell? ⟨lb, 7, none⟩ = some (.int .i64 0)) := fun wq hb =>
  ⟨cell_later hb (X1.cells 4 _ rfl), cell_later hb (X1.cells 5 _ rfl), cell_later hb (X1.cells 6 _ rfl), cell_later hb (X1.cells 7 _ rfl)⟩
 have HC := Lib.hid hC
 have he : ∀ wq : World, (Op.equalIn 10000 76 (.agg #[.int .i64 2, .int .i64 0, .string ⟨#[97]⟩, .int .i64 0]) (.agg #[.int .i64 2, .int .i64 0, .string ⟨#[97]⟩, .int .i64 0])).run Try.prog wq = .ok true wq := fun wq => by
  have := ixEq ixA ixA wq
  rw [ixA_same] at this
  exact this
 have HEQ := Lib.hid he
 clear e1 hlb B1 X1 z1 hC he
 go_enter Try.func40, Try.ntmps40
 go_upto_region 2 with fail
 (try rw [HE.out.1])
 (try rw [HE.out.2])
 refine wp_region_held_drew (S := fun wq => wq.cell? ⟨lb, 4, none⟩ = some (.int .i64 2) ∧ wq.cell? ⟨lb, 5, none⟩ = some (.int .i64 0) ∧ wq.cell? ⟨lb, 6, none⟩ = some (.string ⟨#[97]⟩) ∧ wq.cell? ⟨lb, 7, none⟩ = some (.int .i64 0)) (by kernel_rfl) (HC.out _ (Below.refl _ _).drew) (fun hHeld => ?_)
 obtain ⟨wd, ewd⟩ : ∃ wd, w1.drew = wd := ⟨_, rfl⟩
 have HBd := Lib.hid (show Below w1.heap.size w1 wd from by rw [← ewd]; exact (Below.refl _ _).drew)
 rw [ewd] at hHeld ⊢
 clear ewd
 first | (refine held_t (i := 0) hHeld ?_; constructor; constructor; intro wq hq; focus ((try dsimp only at hq); go_simp; first | done | with_reducible rfl | fail)) | refine held_s (i := 0) hHeld ?_ | fail
 first | (refine held_t (i := 1) hHeld ?_; constructor; constructor; intro wq hq; focus ((try dsimp only at hq); go_simp; first | done | with_reducible rfl | fail)) | refine held_s (i := 1) hHeld ?_ | fail
 first | (refine held_t (i := 2) hHeld ?_; constructor; constructor; intro wq hq; focus ((try dsimp only at hq); go_simp; first | done | with_reducible rfl | fail)) | refine held_s (i := 2) hHeld ?_ | fail
 first | (refine held_t (i := 3) hHeld ?_; constructor; constructor; intro wq hq; focus ((try dsimp only at hq); go_simp; first | done | with_reducible rfl | fail)) | refine held_s (i := 3) hHeld ?_ | fail
 try simp only [Act.put, lay4]
 refine wpAnyH_ready (rs := [4, 5]) (by kernel_rfl) (by simp) ?_
 refine AllReadyH.cons (by simp only [ops3]; rfl) (fun K hK => ?_) (AllReadyH.cons (by simp only [ops3]; rfl) (fun K hK => ?_) AllReadyH.nil)
 ·go_simp
  (go_at_call 50; refine (ixPick_at (HK.out.ext HBd.out) (by decide) ixA).mono ?_; rintro e w2 ⟨r2, rfl, h2, b2⟩; have HB2 := Lib.hid (Ext.trans' HBd.out b2); have HN2 := Lib.hid (show Nums w2 r2 [0, 1] from Elems.owned (cells := numCells) (fun _ => rfl) h2); clear h2 b2)
  refine hK.out _ _ (HC.out _ HB2.out) (fun hHeld => ?_)
  clear hK K
  try simp only [Act.put, lay4]
  refine held_c 5 fun K hK => ?_
  go_simp
  skip
  refine hK.out _ _ (HC.out _ (Ext.trans' HB2.out (bel1' _ _))) (fun hHeld => ?_)
  clear hK K
  try simp only [Act.put, lay4]
  have HB3 := Lib.hid (Ext.trans' HB2.out (bel1' w2 (.cells #[.int .i64 0, .int .i64 1] 3)))
  have HA3 := Lib.hid (Nums.ext HN2.out (bel1' w2 (.cells #[.int .i64 0, .int .i64 1] 3)))
  obtain ⟨w3, e3, b3, z3, X3⟩ := box_new w2 #[.int .i64 0, .int .i64 1] 3
  have HD3 := Lib.hid (two_nums X3)
  rw [e3] at hHeld HB3 HA3 ⊢
  clear e3 b3 z3 X3
  refine held_c 6 fun K hK => ?_
  go_simp
  (go_at_call 46; refine (ints_at HA3.out HD3.out).mono ?_; rintro e w4 ⟨rfl, b4⟩; have HB4 := Lib.hid (Ext.trans' HB3.out b4); clear b4)
  refine hK.out _ _ (HC.out _ HB4.out) (fun hHeld => ?_)
  clear hK K
  try simp only [Act.put, lay4]
  first | (refine held_t (i := 7) hHeld ?_; constructor; constructor; intro wq hq; focus ((try dsimp only at hq); go_simp; first | done | with_reducible rfl | fail)) | refine held_s (i := 7) hHeld ?_ | fail
  first | (refine held_t (i := 12) hHeld ?_; constructor; constructor; intro wq hq; focus ((try dsimp only at hq); go_simp; first | done | with_reducible rfl | fail)) | refine held_s (i := 12) hHeld ?_ | fail
  first | (refine held_t (i := 13) hHeld ?_; constructor; constructor; intro wq hq; focus ((try dsimp only at hq); go_simp; first | done | with_reducible rfl | fail)) | refine held_s (i := 13) hHeld ?_ | fail
  first | (refine held_t (i := 14) hHeld ?_; constructor; constructor; intro wq hq; focus ((try dsimp only at hq); go_simp; first | done | with_reducible rfl | fail)) | refine held_s (i := 14) hHeld ?_ | fail
  try simp only [Act.put, lay4]
  refine held_c 8 fun K hK => ?_
  go_simp
  (go_at_call 16; refine (atom_at _ ⟨#[97]⟩).mono ?_; rintro e w5 ⟨rfl, b5⟩; have HB5 := Lib.hid (Ext.trans' HB4.out b5); clear b5)
  refine hK.out _ _ (HC.out _ HB5.out) (fun hHeld => ?_)
  clear hK K
  try simp only [Act.put, lay4]
  refine held_c 9 fun K hK => ?_
  go_simp
  skip
  refine hK.out _ _ (HC.out _ (Ext.trans' HB5.out (bel1' _ _))) (fun hHeld => ?_)
  clear hK K
  try simp only [Act.put, lay4]
  obtain ⟨w6, e6, b6, z6, X6⟩ := box_new w5 #[.int .i64 2, .int .i64 0, .string ⟨#[97]⟩, .slice none 0 0] 31
  obtain ⟨ab, hab⟩ : ∃ ab, w5.heap.size = ab := ⟨_, rfl⟩
  rw [hab] at X6 ⊢
  have HB6 := Lib.hid (Ext.trans' HB5.out b6)
  have HT6 := Lib.hid (show Tms w6 (.slice (some ⟨ab, 0, none⟩) 1 1) [nameT ⟨#[97]⟩ []] from ⟨_, 1, rfl, Nat.le_refl _, by unfold maxLen; omega, by unfold BIG; decide, Or.inr ⟨ab, 0, rfl, X6.lt, TmRow.mk fun i x hx => by
   rcases i with _ | i
   ·injection hx with hx
    subst hx
    exact ⟨_, _, _, _, X6.cells 0 _ rfl, X6.cells 1 _ rfl, X6.cells 2 _ rfl, X6.cells 3 _ rfl, leaf_tm w6 i64of2 i64of0 (by unfold BIG; decide)⟩
   ·simp at hx⟩⟩)
  rw [e6] at hHeld ⊢
  clear e6 b6 z6 X6 hab
  refine held_c 10 fun K hK => ?_
  go_simp
  (go_at_call 17; refine (comp_at ⟨#[112]⟩ (by unfold BIG; decide) HT6.out).mono ?_; rintro e w7 ⟨a7, c7, rfl, ht7, b7⟩; have HB7 := Lib.hid (Ext.trans' HB6.out b7); have HT7 := Lib.hid ht7; clear ht7 b7)
  refine hK.out _ _ (HC.out _ HB7.out) (fun hHeld => ?_)
  clear hK K
  try simp only [Act.put, lay4]
  refine held_c 11 fun K hK => ?_
  go_simp
  (go_at_call 41; refine (ixOf_at (nameT ⟨#[112]⟩ [nameT ⟨#[97]⟩ []]) _ _ HT7.out).mono ?_; rintro e w8 ⟨rfl, b8⟩; have HB8 := Lib.hid (Ext.trans' HB7.out b8); have he := HEQ.out; rw [ixA_v]; clear b8)
  refine hK.out _ _ (HC.out _ HB8.out) (fun hHeld => ?_)
  clear hK K
  try simp only [Act.put, lay4]
  first | (refine held_t (i := 15) hHeld ?_; constructor; constructor; intro wq hq; focus ((try dsimp only at hq); go_simp; first | done | with_reducible rfl | fail)) | refine held_s (i := 15) hHeld ?_ | fail
  first | (refine held_t (i := 16) hHeld ?_; constructor; constructor; intro wq hq; focus ((try dsimp only at hq); go_simp; first | done | with_reducible rfl | fail)) | refine held_s (i := 16) hHeld ?_ | fail
  first | (refine held_t (i := 17) hHeld ?_; constructor; constructor; intro wq hq; focus ((try dsimp only at hq); go_simp; first | done | with_reducible rfl | fail)) | refine held_s (i := 17) hHeld ?_ | fail
  try simp only [Act.put, lay4]
  refine wpAnyH_done (by kernel_rfl) ?_ _
  go_wp2
  go_ret
  exact ⟨rfl, Ext.trans' HB1.out HB8.out⟩
 ·go_simp
  skip
  refine hK.out _ _ (HC.out _ (Ext.trans' HBd.out (bel1' _ _))) (fun hHeld => ?_)
  clear hK K
  try simp only [Act.put, lay4]
  obtain ⟨w2, e2, b2, z2, X2⟩ := box_new wd #[.int .i64 0, .int .i64 1] 3
  have HB2 := Lib.hid (Ext.trans' HBd.out b2)
  have HX2 := Lib.hid X2
  rw [e2] at hHeld ⊢
  clear e2 b2 z2 X2
  refine held_c 4 fun K hK => ?_
  go_simp
  (go_at_call 50; refine (ixPick_at (HK.out.ext HB2.out) (by decide) ixA).mono ?_; rintro e w3 ⟨r2, rfl, h2, b2⟩; have HB3 := Lib.hid (Ext.trans' HB2.out b2); have HA3 := Lib.hid (show Nums w3 r2 [0, 1] from Elems.owned (cells := numCells) (fun _ => rfl) h2); have HD3 := Lib.hid (two_nums (HX2.out.ext b2)); clear h2 b2)
  refine hK.out _ _ (HC.out _ HB3.out) (fun hHeld => ?_)
  clear hK K
  try simp only [Act.put, lay4]
  refine held_c 6 fun K hK => ?_
  go_simp
  (go_at_call 46; refine (ints_at HA3.out HD3.out).mono ?_; rintro e w4 ⟨rfl, b4⟩; have HB4 := Lib.hid (Ext.trans' HB3.out b4); clear b4)
  refine hK.out _ _ (HC.out _ HB4.out) (fun hHeld => ?_)
  clear hK K
  try simp only [Act.put, lay4]
  first | (refine held_t (i := 7) hHeld ?_; constructor; constructor; intro wq hq; focus ((try dsimp only at hq); go_simp; first | done | with_reducible rfl | fail)) | refine held_s (i := 7) hHeld ?_ | fail
  first | (refine held_t (i := 12) hHeld ?_; constructor; constructor; intro wq hq; focus ((try dsimp only at hq); go_simp; first | done | with_reducible rfl | fail)) | refine held_s (i := 12) hHeld ?_ | fail
  first | (refine held_t (i := 13) hHeld ?_; constructor; constructor; intro wq hq; focus ((try dsimp only at hq); go_simp; first | done | with_reducible rfl | fail)) | refine held_s (i := 13) hHeld ?_ | fail
  first | (refine held_t (i := 14) hHeld ?_; constructor; constructor; intro wq hq; focus ((try dsimp only at hq); go_simp; first | done | with_reducible rfl | fail)) | refine held_s (i := 14) hHeld ?_ | fail
  try simp only [Act.put, lay4]
  refine held_c 8 fun K hK => ?_
  go_simp
  (go_at_call 16; refine (atom_at _ ⟨#[97]⟩).mono ?_; rintro e w5 ⟨rfl, b5⟩; have HB5 := Lib.hid (Ext.trans' HB4.out b5); clear b5)
  refine hK.out _ _ (HC.out _ HB5.out) (fun hHeld => ?_)
  clear hK K
  try simp only [Act.put, lay4]
  refine held_c 9 fun K hK => ?_
  go_simp
  skip
  refine hK.out _ _ (HC.out _ (Ext.trans' HB5.out (bel1' _ _))) (fun hHeld => ?_)
  clear hK K
  try simp only [Act.put, lay4]
  obtain ⟨w6, e6, b6, z6, X6⟩ := box_new w5 #[.int .i64 2, .int .i64 0, .string ⟨#[97]⟩, .slice none 0 0] 31
  obtain ⟨ab, hab⟩ : ∃ ab, w5.heap.size = ab := ⟨_, rfl⟩
  rw [hab] at X6 ⊢
  have HB6 := Lib.hid (Ext.trans' HB5.out b6)
  have HT6 := Lib.hid (show Tms w6 (.slice (some ⟨ab, 0, none⟩) 1 1) [nameT ⟨#[97]⟩ []] from ⟨_, 1, rfl, Nat.le_refl _, by unfold maxLen; omega, by unfold BIG; decide, Or.inr ⟨ab, 0, rfl, X6.lt, TmRow.mk fun i x hx => by
   rcases i with _ | i
   ·injection hx with hx
    subst hx
    exact ⟨_, _, _, _, X6.cells 0 _ rfl, X6.cells 1 _ rfl, X6.cells 2 _ rfl, X6.cells 3 _ rfl, leaf_tm w6 i64of2 i64of0 (by unfold BIG; decide)⟩
   ·simp at hx⟩⟩)
  rw [e6] at hHeld ⊢
  clear e6 b6 z6 X6 hab
  refine held_c 10 fun K hK => ?_
  go_simp
  (go_at_call 17; refine (comp_at ⟨#[112]⟩ (by unfold BIG; decide) HT6.out).mono ?_; rintro e w7 ⟨a7, c7, rfl, ht7, b7⟩; have HB7 := Lib.hid (Ext.trans' HB6.out b7); have HT7 := Lib.hid ht7; clear ht7 b7)
  refine hK.out _ _ (HC.out _ HB7.out) (fun hHeld => ?_)
  clear hK K
  try simp only [Act.put, lay4]
  refine held_c 11 fun K hK => ?_
  go_simp
  (go_at_call 41; refine (ixOf_at (nameT ⟨#[112]⟩ [nameT ⟨#[97]⟩ []]) _ _ HT7.out).mono ?_; rintro e w8 ⟨rfl, b8⟩; have HB8 := Lib.hid (Ext.trans' HB7.out b8); have he := HEQ.out; rw [ixA_v]; clear b8)
  refine hK.out _ _ (HC.out _ HB8.out) (fun hHeld => ?_)
  clear hK K
  try simp only [Act.put, lay4]
  first | (refine held_t (i := 15) hHeld ?_; constructor; constructor; intro wq hq; focus ((try dsimp only at hq); go_simp; first | done | with_reducible rfl | fail)) | refine held_s (i := 15) hHeld ?_ | fail
  first | (refine held_t (i := 16) hHeld ?_; constructor; constructor; intro wq hq; focus ((try dsimp only at hq); go_simp; first | done | with_reducible rfl | fail)) | refine held_s (i := 16) hHeld ?_ | fail
  first | (refine held_t (i := 17) hHeld ?_; constructor; constructor; intro wq hq; focus ((try dsimp only at hq); go_simp; first | done | with_reducible rfl | fail)) | refine held_s (i := 17) hHeld ?_ | fail
  try simp only [Act.put, lay4]
  refine wpAnyH_done (by kernel_rfl) ?_ _
  go_wp2
  go_ret
  exact ⟨rfl, Ext.trans' HB1.out HB8.out⟩
end Go.Proofs.Ytchbbaehdcmcfaa
/- Terms: how deep one is asked of. -/
namespace Go.Proofs.Ytchbbaehdcmcfaa
open Go.RowKit
set_option linter.unusedVariables false
mutual
def deepT : Tm → Int → Bool
 | .mk _ _ _ ts, left => if left < 1 ∨ 12 < ts.length then true else deepsT ts (left - 1)
def deepsT : List Tm → Int → Bool
 | [], _ => false
 | x :: r, left => deepT x left || deepsT r left
end
end Go.Proofs.Ytchbbaehdcmcfaa
/- Stage 11's laws: how deep a term is asked of. -/
namespace Go.Proofs.Ytchbbaehdcmcfaa
open Go.RowKit
set_option linter.unusedVariables false
set_option maxHeartbeats 2000000 in
theorem deep16_at : ∀ (N : Nat) (x : Tm), sizeN x ≤ N → ∀ (left : Int), I64 left → ∀ (w : World) (v : Value), TmV w x v →
  Calls Try.prog 51 #[v, .int .i64 left] w fun e w' => e = .returned (.bool (deepT x left)) ∧ Below w.heap.size w w'
 | 0, x, h, left, hl, w, v, hv => by have := size_pos x; omega
 | N + 1, .mk k n s ts, h, left, hl, w, v, hv => by
  obtain ⟨u, rfl, hs, hk, hn, hu⟩ := tmV_iff.1 hv
  obtain ⟨a, c, rfl, h1, h2, h3⟩ := hu.len
  unfold BIG at h3
  unfold I64 at hl
  have hD : deepT (.mk k n s ts) left = if left < 1 ∨ 12 < ts.length then true else deepsT ts (left - 1) := by rw [deepT]
  by_cases hlt : left < 1
  ·rw [hD, if_pos (Or.inl hlt)]
   clear hD
   go_enter Try.func51, Try.ntmps51
   go_wp2
   go_ret
   exact ⟨rfl, bel1' _ _⟩
  obtain ⟨m, hm⟩ : ∃ m, ts.length = m := ⟨_, rfl⟩
  by_cases h12 : 12 < m
  ·rw [hD, if_pos (Or.inr (by rw [hm]; exact h12))]
   rw [hm] at h1 h3 ⊢
   clear hD hv hu hm
   go_enter Try.func51, Try.ntmps51
   go_wp2
   go_ret
   exact ⟨rfl, bel1' _ _⟩
  rw [hD, if_neg (by rw [hm]; omega)]
  have hI : I64 (left - 1) := by unfold I64; omega
  have IH := Lib.hid (fun (y : Tm) (hy : y ∈ ts) => deep16_at N y (mem_size h hy) (left - 1) hI)
  have HU := Lib.hid hu
  have HM := Lib.hid hm
  rw [hm] at h1 h3 hu HU ⊢
  obtain ⟨r, hr⟩ : ∃ r, deepsT ts (left - 1) = r := ⟨_, rfl⟩
  rw [hr]
  have HR := Lib.hid hr
  clear hD hv hu hm hr h
  go_enter Try.func51, Try.ntmps51
  go_wp2_with fail
  go_loopw [5] (fun v wr => ∃ i : Nat, i ≤ m ∧ v = .int .i64 i ∧ Hid (deepsT (ts.drop i) (left - 1) = r) ∧ Hid (Below (w.alloc (.cells #[.int .i64 k, .int .i64 n, .string s, .slice a m c] 31)).heap.size (w.alloc (.cells #[.int .i64 k, .int .i64 n, .string s, .slice a m c] 31)) wr)) (fun v _ => m - (RowKit.intOf v).toNat)
  case atStart => exact ⟨0, Nat.zero_le _, rfl, Lib.hid (by rw [List.drop_zero]; exact HR.out), Lib.hid (Below.refl _ _)⟩
  case round =>
   obtain ⟨i, hi, rfl, HD, HB⟩ := hrel
   obtain ⟨e0, e1, e2, e3⟩ := box_cells w 31 _ _ _ _ HB.out
   by_cases hil : i < m
   ·obtain ⟨y, hy⟩ : ∃ y, ts[i]? = some y := ⟨_, List.getElem?_eq_getElem (by rw [HM.out]; exact hil)⟩
    have hdr : ts.drop i = y :: ts.drop (i + 1) := by
     obtain ⟨hlt', rfl⟩ := List.getElem?_eq_some_iff.1 hy
     exact List.drop_eq_getElem_cons hlt'
    have hd := HD.out
    rw [hdr, deepsT] at hd
    have HBW := Lib.hid (Ext.trans' (bel1' w _) HB.out)
    obtain ⟨b, off, k', n', s', u', rfl, hbb, _, _, _, c0, c1, c2, c3, _, ht⟩ := (HU.out.ext HBW.out).get hy
    have ih := IH.out y (List.mem_of_getElem? hy) wr _ ht
    clear hdr HD ht
    cases hq : deepT y (left - 1)
    ·rw [hq, Bool.false_or] at hd
     rw [hq] at ih
     have HD := Lib.hid hd
     clear hq hd hy
     (go_wp2_with fail; go_fit (ih); rintro e w2 ⟨rfl, b2⟩)
     have B2 := Lib.hid (Ext.trans' HB.out b2)
     clear b2
     go_wp2
     go_roundw
     case rel => exact ⟨i + 1, by omega, by go_num, HD, B2⟩
     case measure => simp [RowKit.intOf]; omega
    ·rw [hq, Bool.true_or] at hd
     rw [hq] at ih
     subst hd
     clear hq hy HR
     (go_wp2_with fail; go_fit (ih); rintro e w2 ⟨rfl, b2⟩)
     have B2 := Lib.hid (Ext.trans' HBW.out b2)
     clear b2
     go_wp2
     go_ret
     exact ⟨rfl, B2.out⟩
   ·have hd := HD.out
    rw [List.drop_eq_nil_of_le (by rw [HM.out]; omega), deepsT] at hd
    subst hd
    clear HR HD
    go_wp2
    go_ret
    exact ⟨rfl, Ext.trans' (bel1' w _) HB.out⟩
end Go.Proofs.Ytchbbaehdcmcfaa
