import Derived.Test.YtchbbaehdcmcfaaHgezz
import Derived.Test.YtchbbaehdcmcfaaHgead
import Derived.Test.YtchbbaehdcmcfaaHgeaa
import Derived.Test.YtchbbaehdcmcfaaHgeac
import Derived.Test.YtchbbaehdcmcfaaHgeab
import Derived.Deep.RegionHeld3
import Derived.Deep.Cut
import Derived.Deep.CutRange
import Derived.Test.YtchbbaehdcmcfaaRows
set_option linter.unusedVariables false
set_option linter.unusedSimpArgs false
/- Stage 16's laws: awake. -/
namespace Go.Proofs.Ytchbbaehdcmcfaa
open Go.RowKit
set_option linter.unusedVariables false
def ixA : KeyM := ⟨2, 0, ⟨#[97]⟩, 0⟩
def ixB : KeyM := ⟨2, 0, ⟨#[98]⟩, 0⟩
theorem ix3_keys {w : World} {b : Nat} (h : Box w b [.int .i64 0, .int .i64 0, .string ⟨#[]⟩, .int .i64 0, .int .i64 2, .int .i64 0, .string ⟨#[97]⟩, .int .i64 0, .int .i64 2, .int .i64 0, .string ⟨#[98]⟩, .int .i64 0]) : Keys w (.slice (some ⟨b, 0, none⟩) 3 3) [zeroKey, ixA, ixB] := by
 refine ⟨_, 3, rfl, Nat.le_refl _, by unfold maxLen; omega, Or.inr ⟨b, 0, rfl, h.lt, fun i x hx j u hu => ?_⟩⟩
 rcases i with _ | _ | _ | i <;> simp at hx <;> subst hx <;> rcases j with _ | _ | _ | _ | j <;> simp [ixCells, zeroKey, ixA, ixB] at hu <;> subst hu <;> exact h.cells _ _ rfl
theorem two_nums {w : World} {b : Nat} (h : Box w b [.int .i64 0, .int .i64 1]) : Nums w (.slice (some ⟨b, 0, none⟩) 2 2) [0, 1] := by
 refine ⟨_, 2, rfl, Nat.le_refl _, by unfold maxLen; omega, Or.inr ⟨b, 0, rfl, h.lt, fun i x hx j u hu => ?_⟩⟩
 rcases i with _ | _ | i <;> simp at hx <;> subst hx <;> rcases j with _ | j <;> simp at hu <;> subst hu <;> exact h.cells _ _ rfl
theorem ixA_head : keyT (nameT ⟨#[112]⟩ [nameT ⟨#[97]⟩ []]) = ixA := by
 unfold keyT
 rw [if_pos (by decide +kernel)]
 rfl
theorem ixA_v : ixV (keyT (nameT ⟨#[112]⟩ [nameT ⟨#[97]⟩ []])) = .agg #[.int .i64 2, .int .i64 0, .string ⟨#[97]⟩, .int .i64 0] := by rw [ixA_head]; rfl
theorem ixA_same : sameKey ixA ixA = true := sameKey_self _
set_option maxHeartbeats 4000000 in
set_option maxRecDepth 100000 in
theorem awake16_at (w : World) : Calls Try.prog 40 #[] w fun e w' => e = .returned (.bool true) ∧ Below w.heap.size w w' := by
 obtain ⟨w1, e1, B1, z1, X1⟩ := box_new w #[.int .i64 0, .int .i64 0, .string ⟨#[]⟩, .int .i64 0, .int .i64 2, .int .i64 0, .string ⟨#[97]⟩, .int .i64 0, .int .i64 2, .int .i64 0, .string ⟨#[98]⟩, .int .i64 0] 76
 obtain ⟨lb, hlb⟩ : ∃ lb, w.heap.size = lb := ⟨_, rfl⟩
 rw [hlb] at X1
 have HE := Lib.hid (And.intro e1 hlb)
 have HB1 := Lib.hid B1
 have HK := Lib.hid (ix3_keys X1)
 have hC : ∀ wq, Below w1.heap.size w1 wq → (wq.cell? ⟨lb, 4, none⟩ = some (.int .i64 2) ∧ wq.cell? ⟨lb, 5, none⟩ = some (.int .i64 0) ∧ wq.cell? ⟨lb, 6, none⟩ = some (.string ⟨#[97]⟩) ∧ wq.cell? ⟨lb, 7, none⟩ = some (.int .i64 0)) := fun wq hb =>
  ⟨cell_later hb (X1.cells 4 _ rfl), cell_later hb (X1.cells 5 _ rfl), cell_later hb (X1.cells 6 _ rfl), cell_later hb (X1.cells 7 _ rfl)⟩
 have HC := Lib.hid hC
 have he : ∀ wq : World, (Op.equalIn 10000 76 (.agg #[.int .i64 2, .int .i64 0, .string ⟨#[97]⟩, .int .i64 0]) (.agg #[.int .i64 2, .int .i64 0, .string ⟨#[97]⟩, .int .i64 0])).run Try.prog wq = .ok true wq := fun wq => by
  have := ixEq ixA ixA wq
  rw [ixA_same] at this
  exact this
 have HEQ := Lib.hid he
 clear e1 hlb B1 X1 z1 hC he
 go_enter Try.func40, Try.ntmps40
 go_upto_region 2 with fail
 (try rw [HE.out.1])
 (try rw [HE.out.2])
 refine wp_region_held_drew (S := fun wq => wq.cell? ⟨lb, 4, none⟩ = some (.int .i64 2) ∧ wq.cell? ⟨lb, 5, none⟩ = some (.int .i64 0) ∧ wq.cell? ⟨lb, 6, none⟩ = some (.string ⟨#[97]⟩) ∧ wq.cell? ⟨lb, 7, none⟩ = some (.int .i64 0)) (by kernel_rfl) (HC.out _ (Below.refl _ _).drew) (fun hHeld => ?_)
 obtain ⟨wd, ewd⟩ : ∃ wd, w1.drew = wd := ⟨_, rfl⟩
 have HBd := Lib.hid (show Below w1.heap.size w1 wd from by rw [← ewd]; exact (Below.refl _ _).drew)
 rw [ewd] at hHeld ⊢
 clear ewd
 first | (refine held_t (i := 0) hHeld ?_; constructor; constructor; intro wq hq; focus ((try dsimp only at hq); go_simp; first | done | with_reducible rfl | fail)) | refine held_s (i := 0) hHeld ?_ | fail
 first | (refine held_t (i := 1) hHeld ?_; constructor; constructor; intro wq hq; focus ((try dsimp only at hq); go_simp; first | done | with_reducible rfl | fail)) | refine held_s (i := 1) hHeld ?_ | fail
 first | (refine held_t (i := 2) hHeld ?_; constructor; constructor; intro wq hq; focus ((try dsimp only at hq); go_simp; first | done | with_reducible rfl | fail)) | refine held_s (i := 2) hHeld ?_ | fail
 first | (refine held_t (i := 3) hHeld ?_; constructor; constructor; intro wq hq; focus ((try dsimp only at hq); go_simp; first | done | with_reducible rfl | fail)) | refine held_s (i := 3) hHeld ?_ | fail
 try simp only [Act.put, lay4]
 refine wpAnyH_ready (rs := [4, 5]) (by kernel_rfl) (by simp) ?_
 refine AllReadyH.cons (by simp only [ops3]; rfl) (fun K hK => ?_) (AllReadyH.cons (by simp only [ops3]; rfl) (fun K hK => ?_) AllReadyH.nil)
 ·go_simp
  (go_at_call 50; refine (ixPick_at (HK.out.ext HBd.out) (by decide) ixA).mono ?_; rintro e w2 ⟨r2, rfl, h2, b2⟩; have HB2 := Lib.hid (Ext.trans' HBd.out b2); have HN2 := Lib.hid (show Nums w2 r2 [0, 1] from Elems.owned (cells := numCells) (fun _ => rfl) h2); clear h2 b2)
  refine hK.out _ _ (HC.out _ HB2.out) (fun hHeld => ?_)
  clear hK K
  try simp only [Act.put, lay4]
  refine held_c 5 fun K hK => ?_
  go_simp
  skip
  refine hK.out _ _ (HC.out _ (Ext.trans' HB2.out (bel1' _ _))) (fun hHeld => ?_)
  clear hK K
  try simp only [Act.put, lay4]
  have HB3 := Lib.hid (Ext.trans' HB2.out (bel1' w2 (.cells #[.int .i64 0, .int .i64 1] 3)))
  have HA3 := Lib.hid (Nums.ext HN2.out (bel1' w2 (.cells #[.int .i64 0, .int .i64 1] 3)))
  obtain ⟨w3, e3, b3, z3, X3⟩ := box_new w2 #[.int .i64 0, .int .i64 1] 3
  have HD3 := Lib.hid (two_nums X3)
  rw [e3] at hHeld HB3 HA3 ⊢
  clear e3 b3 z3 X3
  refine held_c 6 fun K hK => ?_
  go_simp
  (go_at_call 46; refine (ints_at HA3.out HD3.out).mono ?_; rintro e w4 ⟨rfl, b4⟩; have HB4 := Lib.hid (Ext.trans' HB3.out b4); clear b4)
  refine hK.out _ _ (HC.out _ HB4.out) (fun hHeld => ?_)
  clear hK K
  try simp only [Act.put, lay4]
  first | (refine held_t (i := 7) hHeld ?_; constructor; constructor; intro wq hq; focus ((try dsimp only at hq); go_simp; first | done | with_reducible rfl | fail)) | refine held_s (i := 7) hHeld ?_ | fail
  first | (refine held_t (i := 12) hHeld ?_; constructor; constructor; intro wq hq; focus ((try dsimp only at hq); go_simp; first | done | with_reducible rfl | fail)) | refine held_s (i := 12) hHeld ?_ | fail
  first | (refine held_t (i := 13) hHeld ?_; constructor; constructor; intro wq hq; focus ((try dsimp only at hq); go_simp; first | done | with_reducible rfl | fail)) | refine held_s (i := 13) hHeld ?_ | fail
  first | (refine held_t (i := 14) hHeld ?_; constructor; constructor; intro wq hq; focus ((try dsimp only at hq); go_simp; first | done | with_reducible rfl | fail)) | refine held_s (i := 14) hHeld ?_ | fail
  try simp only [Act.put, lay4]
  refine held_c 8 fun K hK => ?_
  go_simp
  (go_at_call 16; refine (atom_at _ ⟨#[97]⟩).mono ?_; rintro e w5 ⟨rfl, b5⟩; have HB5 := Lib.hid (Ext.trans' HB4.out b5); clear b5)
  refine hK.out _ _ (HC.out _ HB5.out) (fun hHeld => ?_)
  clear hK K
  try simp only [Act.put, lay4]
  refine held_c 9 fun K hK => ?_
  go_simp
  skip
  refine hK.out _ _ (HC.out _ (Ext.trans' HB5.out (bel1' _ _))) (fun hHeld => ?_)
  clear hK K
  try simp only [Act.put, lay4]
  obtain ⟨w6, e6, b6, z6, X6⟩ := box_new w5 #[.int .i64 2, .int .i64 0, .string ⟨#[97]⟩, .slice none 0 0] 31
  obtain ⟨ab, hab⟩ : ∃ ab, w5.heap.size = ab := ⟨_, rfl⟩
  rw [hab] at X6 ⊢
  have HB6 := Lib.hid (Ext.trans' HB5.out b6)
  have HT6 := Lib.hid (show Tms w6 (.slice (some ⟨ab, 0, none⟩) 1 1) [nameT ⟨#[97]⟩ []] from ⟨_, 1, rfl, Nat.le_refl _, by unfold maxLen; omega, by unfold BIG; decide, Or.inr ⟨ab, 0, rfl, X6.lt, TmRow.mk fun i x hx => by
   rcases i with _ | i
   ·injection hx with hx
    subst hx
    exact ⟨_, _, _, _, X6.cells 0 _ rfl, X6.cells 1 _ rfl, X6.cells 2 _ rfl, X6.cells 3 _ rfl, leaf_tm w6 i64of2 i64of0 (by unfold BIG; decide)⟩
   ·simp at hx⟩⟩)
  rw [e6] at hHeld ⊢
  clear e6 b6 z6 X6 hab
  refine held_c 10 fun K hK => ?_
  go_simp
  (go_at_call 17; refine (comp_at ⟨#[112]⟩ (by unfold BIG; decide) HT6.out).mono ?_; rintro e w7 ⟨a7, c7, rfl, ht7, b7⟩; have HB7 := Lib.hid (Ext.trans' HB6.out b7); have HT7 := Lib.hid ht7; clear ht7 b7)
  refine hK.out _ _ (HC.out _ HB7.out) (fun hHeld => ?_)
  clear hK K
  try simp only [Act.put, lay4]
  refine held_c 11 fun K hK => ?_
  go_simp
  (go_at_call 41; refine (ixOf_at (nameT ⟨#[112]⟩ [nameT ⟨#[97]⟩ []]) _ _ HT7.out).mono ?_; rintro e w8 ⟨rfl, b8⟩; have HB8 := Lib.hid (Ext.trans' HB7.out b8); have he := HEQ.out; rw [ixA_v]; clear b8)
  refine hK.out _ _ (HC.out _ HB8.out) (fun hHeld => ?_)
  clear hK K
  try simp only [Act.put, lay4]
  first | (refine held_t (i := 15) hHeld ?_; constructor; constructor; intro wq hq; focus ((try dsimp only at hq); go_simp; first | done | with_reducible rfl | fail)) | refine held_s (i := 15) hHeld ?_ | fail
  first | (refine held_t (i := 16) hHeld ?_; constructor; constructor; intro wq hq; focus ((try dsimp only at hq); go_simp; first | done | with_reducible rfl | fail)) | refine held_s (i := 16) hHeld ?_ | fail
  first | (refine held_t (i := 17) hHeld ?_; constructor; constructor; intro wq hq; focus ((try dsimp only at hq); go_simp; first | done | with_reducible rfl | fail)) | refine held_s (i := 17) hHeld ?_ | fail
  try simp only [Act.put, lay4]
  refine wpAnyH_done (by kernel_rfl) ?_ _
  go_wp2
  go_ret
  exact ⟨rfl, Ext.trans' HB1.out HB8.out⟩
 ·go_simp
  skip
  refine hK.out _ _ (HC.out _ (Ext.trans' HBd.out (bel1' _ _))) (fun hHeld => ?_)
  clear hK K
  try simp only [Act.put, lay4]
  obtain ⟨w2, e2, b2, z2, X2⟩ := box_new wd #[.int .i64 0, .int .i64 1] 3
  have HB2 := Lib.hid (Ext.trans' HBd.out b2)
  have HX2 := Lib.hid X2
  rw [e2] at hHeld ⊢
  clear e2 b2 z2 X2
  refine held_c 4 fun K hK => ?_
  go_simp
  (go_at_call 50; refine (ixPick_at (HK.out.ext HB2.out) (by decide) ixA).mono ?_; rintro e w3 ⟨r2, rfl, h2, b2⟩; have HB3 := Lib.hid (Ext.trans' HB2.out b2); have HA3 := Lib.hid (show Nums w3 r2 [0, 1] from Elems.owned (cells := numCells) (fun _ => rfl) h2); have HD3 := Lib.hid (two_nums (HX2.out.ext b2)); clear h2 b2)
  refine hK.out _ _ (HC.out _ HB3.out) (fun hHeld => ?_)
  clear hK K
  try simp only [Act.put, lay4]
  refine held_c 6 fun K hK => ?_
  go_simp
  (go_at_call 46; refine (ints_at HA3.out HD3.out).mono ?_; rintro e w4 ⟨rfl, b4⟩; have HB4 := Lib.hid (Ext.trans' HB3.out b4); clear b4)
  refine hK.out _ _ (HC.out _ HB4.out) (fun hHeld => ?_)
  clear hK K
  try simp only [Act.put, lay4]
  first | (refine held_t (i := 7) hHeld ?_; constructor; constructor; intro wq hq; focus ((try dsimp only at hq); go_simp; first | done | with_reducible rfl | fail)) | refine held_s (i := 7) hHeld ?_ | fail
  first | (refine held_t (i := 12) hHeld ?_; constructor; constructor; intro wq hq; focus ((try dsimp only at hq); go_simp; first | done | with_reducible rfl | fail)) | refine held_s (i := 12) hHeld ?_ | fail
  first | (refine held_t (i := 13) hHeld ?_; constructor; constructor; intro wq hq; focus ((try dsimp only at hq); go_simp; first | done | with_reducible rfl | fail)) | refine held_s (i := 13) hHeld ?_ | fail
  first | (refine held_t (i := 14) hHeld ?_; constructor; constructor; intro wq hq; focus ((try dsimp only at hq); go_simp; first | done | with_reducible rfl | fail)) | refine held_s (i := 14) hHeld ?_ | fail
  try simp only [Act.put, lay4]
  refine held_c 8 fun K hK => ?_
  go_simp
  (go_at_call 16; refine (atom_at _ ⟨#[97]⟩).mono ?_; rintro e w5 ⟨rfl, b5⟩; have HB5 := Lib.hid (Ext.trans' HB4.out b5); clear b5)
  refine hK.out _ _ (HC.out _ HB5.out) (fun hHeld => ?_)
  clear hK K
  try simp only [Act.put, lay4]
  refine held_c 9 fun K hK => ?_
  go_simp
  skip
  refine hK.out _ _ (HC.out _ (Ext.trans' HB5.out (bel1' _ _))) (fun hHeld => ?_)
  clear hK K
  try simp only [Act.put, lay4]
  obtain ⟨w6, e6, b6, z6, X6⟩ := box_new w5 #[.int .i64 2, .int .i64 0, .string ⟨#[97]⟩, .slice none 0 0] 31
  obtain ⟨ab, hab⟩ : ∃ ab, w5.heap.size = ab := ⟨_, rfl⟩
  rw [hab] at X6 ⊢
  have HB6 := Lib.hid (Ext.trans' HB5.out b6)
  have HT6 := Lib.hid (show Tms w6 (.slice (some ⟨ab, 0, none⟩) 1 1) [nameT ⟨#[97]⟩ []] from ⟨_, 1, rfl, Nat.le_refl _, by unfold maxLen; omega, by unfold BIG; decide, Or.inr ⟨ab, 0, rfl, X6.lt, TmRow.mk fun i x hx => by
   rcases i with _ | i
   ·injection hx with hx
    subst hx
    exact ⟨_, _, _, _, X6.cells 0 _ rfl, X6.cells 1 _ rfl, X6.cells 2 _ rfl, X6.cells 3 _ rfl, leaf_tm w6 i64of2 i64of0 (by unfold BIG; decide)⟩
   ·simp at hx⟩⟩)
  rw [e6] at hHeld ⊢
  clear e6 b6 z6 X6 hab
  refine held_c 10 fun K hK => ?_
  go_simp
  (go_at_call 17; refine (comp_at ⟨#[112]⟩ (by unfold BIG; decide) HT6.out).mono ?_; rintro e w7 ⟨a7, c7, rfl, ht7, b7⟩; have HB7 := Lib.hid (Ext.trans' HB6.out b7); have HT7 := Lib.hid ht7; clear ht7 b7)
  refine hK.out _ _ (HC.out _ HB7.out) (fun hHeld => ?_)
  clear hK K
  try simp only [Act.put, lay4]
  refine held_c 11 fun K hK => ?_
  go_simp
  (go_at_call 41; refine (ixOf_at (nameT ⟨#[112]⟩ [nameT ⟨#[97]⟩ []]) _ _ HT7.out).mono ?_; rintro e w8 ⟨rfl, b8⟩; have HB8 := Lib.hid (Ext.trans' HB7.out b8); have he := HEQ.out; rw [ixA_v]; clear b8)
  refine hK.out _ _ (HC.out _ HB8.out) (fun hHeld => ?_)
  clear hK K
  try simp only [Act.put, lay4]
  first | (refine held_t (i := 15) hHeld ?_; constructor; constructor; intro wq hq; focus ((try dsimp only at hq); go_simp; first | done | with_reducible rfl | fail)) | refine held_s (i := 15) hHeld ?_ | fail
  first | (refine held_t (i := 16) hHeld ?_; constructor; constructor; intro wq hq; focus ((try dsimp only at hq); go_simp; first | done | with_reducible rfl | fail)) | refine held_s (i := 16) hHeld ?_ | fail
  first | (refine held_t (i := 17) hHeld ?_; constructor; constructor; intro wq hq; focus ((try dsimp only at hq); go_simp; first | done | with_reducible rfl | fail)) | refine held_s (i := 17) hHeld ?_ | fail
  try simp only [Act.put, lay4]
  refine wpAnyH_done (by kernel_rfl) ?_ _
  go_wp2
  go_ret
  exact ⟨rfl, Ext.trans' HB1.out HB8.out⟩
end Go.Proofs.Ytchbbaehdcmcfaa
/- Stage 16's laws: what IndexKnown makes and asks. -/
namespace Go.Proofs.Ytchbbaehdcmcfaa
open Go.RowKit
set_option linter.unusedVariables false
set_option maxRecDepth 100000
def kA : KeyM := ⟨1, 7, ⟨#[]⟩, 0⟩
def kB : KeyM := ⟨2, 0, ⟨#[102]⟩, 1⟩
def sP : ByteArray := ⟨#[112]⟩
def tA : Tm := nameT sP [intT 7, varT 0]
def tF : Tm := nameT ⟨#[102]⟩ [varT 0]
def tB : Tm := nameT sP [tF]
def tE : Tm := nameT sP [varT 3]
theorem tA_key : keyT tA = kA := by
 unfold keyT
 rw [if_pos (by decide +kernel)]
 rfl
theorem tB_key : keyT tB = kB := by
 unfold keyT
 rw [if_pos (by decide +kernel)]
 rfl
theorem tC_key : keyT (nameT sP []) = zeroKey := by
 unfold keyT
 rw [if_pos (by decide +kernel)]
 rfl
theorem tE_key : keyT tE = zeroKey := by
 unfold keyT
 rw [if_pos (by decide +kernel)]
 rfl
theorem tD_key : keyT (.mk 9 0 ⟨#[]⟩ []) = zeroKey := by
 unfold keyT
 rw [if_neg (by decide +kernel)]
theorem kA_ok : ixOk kA := by unfold ixOk kA I64 BIG; decide
theorem kB_ok : ixOk kB := by unfold ixOk kB I64 BIG; decide
def ks4 : List (KeyM × Bool) := [(kA, true), (zeroKey, true), (kB, true), (kA, true)]
def ks5 : List (KeyM × Bool) := [(kA, false), (zeroKey, true), (kB, true), (kA, true)]
theorem pick_a : pickT kA ks4 0 = [0, 1, 3] := by decide +kernel
theorem pick_b : pickT kA ks5 0 = [1, 3] := by decide +kernel
theorem pick_c : pickT zeroKey ks5 0 = [1, 2, 3] := by decide +kernel
theorem drop_a : dropM ks4 0 = (true, ks5) := rfl
theorem drop_b : dropM ks5 0 = (false, ks5) := rfl
theorem drop_c : dropM ks5 9 = (false, ks5) := rfl
theorem may_ab : mayK kA kB = false := by decide +kernel
theorem may_az : mayK kA zeroKey = true := by decide +kernel
theorem may_bb : mayK kB kB = true := mayK_self _
theorem tms_one {w : World} {t : Tm} {k n : Int} {s : ByteArray} {a : Option Addr} {m c : Nat} (h : TmV w t (.agg #[.int .i64 k, .int .i64 n, .string s, .slice a m c])) : Tms (w.alloc (.cells #[.int .i64 k, .int .i64 n, .string s, .slice a m c] 31)) (.slice (some ⟨w.heap.size, 0, none⟩) 1 1) [t] := by
 obtain ⟨w6, e6, b6, z6, X6⟩ := box_new w #[.int .i64 k, .int .i64 n, .string s, .slice a m c] 31
 rw [e6]
 refine ⟨_, 1, rfl, Nat.le_refl _, by unfold maxLen; omega, by unfold BIG; simp, Or.inr ⟨w.heap.size, 0, rfl, X6.lt, TmRow.mk fun i x hx => ?_⟩⟩
 rcases i with _ | i
 ·injection hx with hx
  subst hx
  exact ⟨_, _, _, _, X6.cells 0 _ rfl, X6.cells 1 _ rfl, X6.cells 2 _ rfl, X6.cells 3 _ rfl, TmV.ext b6 _ _ h⟩
 ·simp at hx
theorem tms_two {w : World} {t t' : Tm} {k n k' n' : Int} {s s' : ByteArray} {a a' : Option Addr} {m c m' c' : Nat} (h : TmV w t (.agg #[.int .i64 k, .int .i64 n, .string s, .slice a m c])) (h' : TmV w t' (.agg #[.int .i64 k', .int .i64 n', .string s', .slice a' m' c'])) : Tms (w.alloc (.cells #[.int .i64 k, .int .i64 n, .string s, .slice a m c, .int .i64 k', .int .i64 n', .string s', .slice a' m' c'] 31)) (.slice (some ⟨w.heap.size, 0, none⟩) 2 2) [t, t'] := by
 obtain ⟨w6, e6, b6, z6, X6⟩ := box_new w #[.int .i64 k, .int .i64 n, .string s, .slice a m c, .int .i64 k', .int .i64 n', .string s', .slice a' m' c'] 31
 rw [e6]
 refine ⟨_, 2, rfl, Nat.le_refl _, by unfold maxLen; omega, by unfold BIG; simp, Or.inr ⟨w.heap.size, 0, rfl, X6.lt, TmRow.mk fun i x hx => ?_⟩⟩
 rcases i with _ | _ | i
 ·injection hx with hx
  subst hx
  exact ⟨_, _, _, _, X6.cells 0 _ rfl, X6.cells 1 _ rfl, X6.cells 2 _ rfl, X6.cells 3 _ rfl, TmV.ext b6 _ _ h⟩
 ·simp at hx
  subst hx
  exact ⟨_, _, _, _, X6.cells 4 _ rfl, X6.cells 5 _ rfl, X6.cells 6 _ rfl, X6.cells 7 _ rfl, TmV.ext b6 _ _ h'⟩
 ·simp at hx
theorem three_nums {w : World} {b : Nat} {x y z : Int} (h : Box w b [.int .i64 x, .int .i64 y, .int .i64 z]) : Nums w (.slice (some ⟨b, 0, none⟩) 3 3) [x, y, z] := by
 refine ⟨_, 3, rfl, Nat.le_refl _, by unfold maxLen; omega, Or.inr ⟨b, 0, rfl, h.lt, fun i x hx j u hu => ?_⟩⟩
 rcases i with _ | _ | _ | i <;> simp at hx <;> subst hx <;> rcases j with _ | j <;> simp at hu <;> subst hu <;> exact h.cells _ _ rfl
theorem pair_nums {w : World} {b : Nat} {x y : Int} (h : Box w b [.int .i64 x, .int .i64 y]) : Nums w (.slice (some ⟨b, 0, none⟩) 2 2) [x, y] := by
 refine ⟨_, 2, rfl, Nat.le_refl _, by unfold maxLen; omega, Or.inr ⟨b, 0, rfl, h.lt, fun i x hx j u hu => ?_⟩⟩
 rcases i with _ | _ | i <;> simp at hx <;> subst hx <;> rcases j with _ | j <;> simp at hu <;> subst hu <;> exact h.cells _ _ rfl
end Go.Proofs.Ytchbbaehdcmcfaa
/- Package index: an index's Pick. -/
namespace Go.Proofs.Ytchbbaehdcmcfaa
open Go.RowKit Go.Maps
set_option linter.unusedVariables false
theorem rowI_len (k : KeyM) (ks : List (KeyM × Bool)) : (rowI k ks).length ≤ ks.length := selI_len
end Go.Proofs.Ytchbbaehdcmcfaa
/- Package index: an index's Pick: what it answers is a row of its own. -/
namespace Go.Proofs.Ytchbbaehdcmcfaa
open Go.RowKit Go.Maps
set_option linter.unusedVariables false
set_option maxHeartbeats 4000000 in
set_option maxRecDepth 100000 in
theorem ixPickO_at {w : World} {F : List Nat} {p : Value} {ks : List (KeyM × Bool)} (h : IsX w F p ks) (hl : ks.length ≤ 400000) (k : KeyM) (hk : ixOk k) :
    Calls Try.prog 44 #[p, ixV k] w fun e w' => ∃ r, e = .returned r ∧ w'.ownsRow w.heap.size 3 1 r (pickT k ks 0).length ((pickT k ks 0).flatMap numCells) ∧ Below w.heap.size w w' := by
  obtain ⟨xb, kb, rb, D1, D2, rv, rfl, H⟩ := h
  have HH := Lib.hid H
  obtain ⟨w1, e1, B1, z1, X1⟩ := box_new w #[.int .i64 k.k, .int .i64 k.n, .string k.s, .int .i64 k.ar] 76
  have HE := Lib.hid e1
  have HB1 := Lib.hid B1
  have HX1 := Lib.hid X1
  have HXB := Lib.hid (H.box.ext B1)
  obtain ⟨x0, x1, x2, x3, _⟩ := X1.four
  have i1 := HXB.out.cells 1 _ rfl
  have i2 := HXB.out.cells 2 _ rfl
  clear e1 B1 z1 X1 H
  go_enter Try.func44, Try.ntmps44
  go_upto_region 1 with fail
  (try rw [HE.out])
  clear HE
  by_cases hk0 : k.k = 0
  · have hk0' : (k.k == 0) = true := by simpa using hk0
    have O1 := owns_mapN (w' := w1) HH.out.own1 (HB1.out.block kb (HH.out.lt kb HH.out.inF.2.1))
    have hsz := O1.size_le
    have CS := Lib.hid (ixSorted_at kb ks.length D1 keepV w1 O1 (by unfold maxLen; omega) (by omega))
    (go_wp2_with fail; go_fit (ixKeys_at kb w1); rintro e w2 ⟨rfl, rfl⟩)
    (go_wp2_with fail; go_fit (CS.out); rintro e w3 ⟨v, ss, rfl, hp, hrow, hb⟩)
    have HB3 := Lib.hid (Ext.trans' HB1.out hb)
    have hall := HH.out.all hp
    have hlen : ss.length = (allI ks).length := by rw [← hall, List.length_mergeSort]
    rw [hall, hlen, ← num_cells] at hrow
    have HN := Lib.hid (show w3.ownsRow w.heap.size 3 1 v (pickT k ks 0).length ((pickT k ks 0).flatMap numCells) from by rw [pick_zero hk0]; exact ownsRow_base_a hrow HB1.out.size)
    clear hrow hlen hall hp hb O1
    go_wp2
    go_ret
    exact ⟨_, rfl, HN.out, HB3.out⟩
  have hk0' : (k.k == 0) = false := by simpa using hk0
  obtain ⟨v0, hv0, hw0⟩ := HH.out.look ixZero
  obtain ⟨v1, hv1, hw1⟩ := HH.out.look hk
  have hN0 := HH.out.nums ixZero hw0
  have hN1 := HH.out.nums hk hw1
  have HN0 := Lib.hid hN0
  have HN1 := Lib.hid hN1
  obtain ⟨a0, c0, hs0, _⟩ := hN0.len
  obtain ⟨a1, c1, hs1, _⟩ := hN1.len
  obtain ⟨n0, hn0⟩ : ∃ n, (rowI zeroKey ks).length = n := ⟨_, rfl⟩
  obtain ⟨n1, hn1⟩ : ∃ n, (rowI k ks).length = n := ⟨_, rfl⟩
  rw [hn0] at hs0
  rw [hn1] at hs1
  have HNN := Lib.hid (And.intro hn0 hn1)
  subst hs0 hs1
  clear hN0 hN1 hn0 hn1
  have hC : ∀ wq : World, Below w1.heap.size w1 wq → wq.cell? ⟨xb, 2, none⟩ = some (.map (some rb)) ∧ (wq.cell? ⟨w.heap.size, 0, none⟩ = some (.int .i64 k.k) ∧ wq.cell? ⟨w.heap.size, 1, none⟩ = some (.int .i64 k.n) ∧ wq.cell? ⟨w.heap.size, 2, none⟩ = some (.string k.s) ∧ wq.cell? ⟨w.heap.size, 3, none⟩ = some (.int .i64 k.ar)) ∧
      (Instr.lookup 129 (.map (some rb)) (.agg #[.int .i64 0, .int .i64 0, .string ⟨#[]⟩, .int .i64 0]) false).run Try.prog wq = .ok (.slice a0 n0 c0) wq ∧ (Instr.lookup 129 (.map (some rb)) (.agg #[.int .i64 k.k, .int .i64 k.n, .string k.s, .int .i64 k.ar]) false).run Try.prog wq = .ok (.slice a1 n1 c1) wq := fun wq hb => by
    have hr := (Ext.trans' HB1.out hb).block rb (HH.out.lt rb HH.out.inF.2.2)
    obtain ⟨x0, x1, x2, x3, _⟩ := (HX1.out.ext hb).four
    exact ⟨(HXB.out.ext hb).cells 2 _ rfl, ⟨x0, x1, x2, x3⟩, hv0 wq hr, hv1 wq hr⟩
  have HC := Lib.hid hC
  clear hC hv0 hv1 hw0 hw1 i1 i2
  go_upto_region 3 with fail
  clear x0 x1 x2 x3
  refine wp_region_held_drew (S := fun wq => wq.cell? ⟨xb, 2, none⟩ = some (.map (some rb)) ∧ (wq.cell? ⟨w.heap.size, 0, none⟩ = some (.int .i64 k.k) ∧ wq.cell? ⟨w.heap.size, 1, none⟩ = some (.int .i64 k.n) ∧ wq.cell? ⟨w.heap.size, 2, none⟩ = some (.string k.s) ∧ wq.cell? ⟨w.heap.size, 3, none⟩ = some (.int .i64 k.ar)) ∧
      (Instr.lookup 129 (.map (some rb)) (.agg #[.int .i64 0, .int .i64 0, .string ⟨#[]⟩, .int .i64 0]) false).run Try.prog wq = .ok (.slice a0 n0 c0) wq ∧ (Instr.lookup 129 (.map (some rb)) (.agg #[.int .i64 k.k, .int .i64 k.n, .string k.s, .int .i64 k.ar]) false).run Try.prog wq = .ok (.slice a1 n1 c1) wq) (by kernel_rfl) (HC.out _ (Below.refl _ _).drew) (fun hHeld => ?_)
  obtain ⟨wd, ewd⟩ : ∃ wd, w1.drew = wd := ⟨_, rfl⟩
  have HBd := Lib.hid (show Below w1.heap.size w1 wd from by rw [← ewd]; exact (Below.refl _ _).drew)
  rw [ewd] at hHeld ⊢
  clear ewd
  first | (refine held_t (i := 0) hHeld ?_; constructor; constructor; intro wq hq; focus ((try dsimp only at hq); go_simp; first | done | with_reducible rfl | fail)) | refine held_s (i := 0) hHeld ?_ | fail
  first | (refine held_t (i := 1) hHeld ?_; constructor; constructor; intro wq hq; focus ((try dsimp only at hq); go_simp; first | done | with_reducible rfl | fail)) | refine held_s (i := 1) hHeld ?_ | fail
  first | (refine held_t (i := 2) hHeld ?_; constructor; constructor; intro wq hq; focus ((try dsimp only at hq); go_simp; first | done | with_reducible rfl | fail)) | refine held_s (i := 2) hHeld ?_ | fail
  first | (refine held_t (i := 3) hHeld ?_; constructor; constructor; intro wq hq; focus ((try dsimp only at hq); go_simp; first | done | with_reducible rfl | fail)) | refine held_s (i := 3) hHeld ?_ | fail
  first | (refine held_t (i := 4) hHeld ?_; constructor; constructor; intro wq hq; focus ((try dsimp only at hq); go_simp; first | done | with_reducible rfl | fail)) | refine held_s (i := 4) hHeld ?_ | fail
  first | (refine held_t (i := 5) hHeld ?_; constructor; constructor; intro wq hq; focus ((try dsimp only at hq); go_simp; first | done | with_reducible rfl | fail)) | refine held_s (i := 5) hHeld ?_ | fail
  first | (refine held_t (i := 6) hHeld ?_; constructor; constructor; intro wq hq; focus ((try dsimp only at hq); go_simp; first | done | with_reducible rfl | fail)) | refine held_s (i := 6) hHeld ?_ | fail
  first | (refine held_t (i := 7) hHeld ?_; constructor; constructor; intro wq hq; focus ((try dsimp only at hq); go_simp; first | done | with_reducible rfl | fail)) | refine held_s (i := 7) hHeld ?_ | fail
  first | (refine held_t (i := 8) hHeld ?_; constructor; constructor; intro wq hq; focus ((try dsimp only at hq); go_simp; first | done | with_reducible rfl | fail)) | refine held_s (i := 8) hHeld ?_ | fail
  first | (refine held_t (i := 9) hHeld ?_; constructor; constructor; intro wq hq; focus ((try dsimp only at hq); go_simp; first | done | with_reducible rfl | fail)) | refine held_s (i := 9) hHeld ?_ | fail
  first | (refine held_t (i := 10) hHeld ?_; constructor; constructor; intro wq hq; focus ((try dsimp only at hq); go_simp; first | done | with_reducible rfl | fail)) | refine held_s (i := 10) hHeld ?_ | fail
  first | (refine held_t (i := 11) hHeld ?_; constructor; constructor; intro wq hq; focus ((try dsimp only at hq); go_simp; first | done | with_reducible rfl | fail)) | refine held_s (i := 11) hHeld ?_ | fail
  try simp only [Act.put, lay4]
  refine held_c 12 fun K hK => ?_
  go_simp
  skip
  refine hK.out _ _ (HC.out _ (Ext.trans' HBd.out (bel1' _ _))) (fun hHeld => ?_)
  clear hK K
  try simp only [Act.put, lay4]
  obtain ⟨w2, e2, b2, z2, X2⟩ := box_new wd #[.slice a0 n0 c0, .slice a1 n1 c1] 81
  obtain ⟨ab, hab⟩ : ∃ ab, wd.heap.size = ab := ⟨_, rfl⟩
  rw [hab] at X2 ⊢
  have HB2 := Lib.hid (Ext.trans' HBd.out b2)
  have HBw2 := Lib.hid (Ext.trans' HB1.out HB2.out)
  have HX2 := Lib.hid X2
  rw [e2] at hHeld ⊢
  clear e2 b2 z2 X2 hab
  have CC := Lib.hid (concatN_at (w := w2) (v := .slice (some ⟨ab, 0, none⟩) 2 2) (ps := [(.slice a0 n0 c0, rowI zeroKey ks), (.slice a1 n1 c1, rowI k ks)]) (L0 := rowI zeroKey ks ++ rowI k ks) (by simp)
    ⟨some ⟨ab, 0, none⟩, 2, rfl, Nat.le_refl _, by unfold maxLen; omega, Or.inr ⟨ab, 0, rfl, HX2.out.lt, fun i x hx j u hu => by
      rcases i with _ | _ | i <;> simp at hx <;> subst hx <;> rcases j with _ | j <;> simp at hu <;> subst hu <;> exact HX2.out.cells _ _ rfl⟩⟩
    (fun q hq => by
      simp at hq
      rcases hq with rfl | rfl
      · exact Nums.ext HN0.out HBw2.out
      · exact Nums.ext HN1.out HBw2.out) (by simp) (by have h1 := rowI_len zeroKey ks; have h2 := rowI_len k ks; rw [List.length_append]; omega))
  refine held_c 13 fun K hK => ?_
  go_simp
  (go_at_call 82; refine CC.out.mono ?_; rintro e w3 ⟨r3, rfl, h3, b3⟩; have HR3 := Lib.hid h3; have HB3 := Lib.hid (Ext.trans' HB2.out b3); have HS3 := Lib.hid b3.size; clear h3 b3)
  refine hK.out _ _ (HC.out _ HB3.out) (fun hHeld => ?_)
  clear hK K
  try simp only [Act.put, lay4]
  first | (refine held_t (i := 14) hHeld ?_; constructor; constructor; intro wq hq; focus ((try dsimp only at hq); go_simp; first | done | with_reducible rfl | fail)) | refine held_s (i := 14) hHeld ?_ | fail
  try simp only [Act.put, lay4]
  refine wpAnyH_done (by kernel_rfl) ?_ _
  clear hHeld
  have C := sortN_at HR3.out (by have h1 := rowI_len zeroKey ks; have h2 := rowI_len k ks; rw [List.length_append]; omega)
  (go_wp2_with fail; go_fit (C); rintro e w4 ⟨rfl, h4, g4⟩)
  have hlen := (List.mergeSort_perm (rowI zeroKey ks ++ rowI k ks) (fun x y => decide (x ≤ y))).length_eq
  rw [← hlen] at h4
  have HN4 := Lib.hid (show w4.ownsRow w.heap.size 3 1 r3 (pickT k ks 0).length ((pickT k ks 0).flatMap numCells) from by
    have hs : (rowI zeroKey ks ++ rowI k ks).mergeSort (fun x y => decide (x ≤ y)) = pickT k ks 0 := by
      rw [pickT_sel]
      exact selI_sort (by rw [← pickT_sel]; exact pick_two HH.out.kept hk0)
    rw [← hs]
    exact ownsRow_base_a h4 HBw2.out.size)
  have HB4 := Lib.hid ((Ext.trans' HB1.out HB3.out).grown g4 (Ext.trans' HB1.out HB3.out).size (fun g hg => Nat.le_trans HBw2.out.size (row_in HR3.out hg).1))
  clear hlen h4 g4
  go_wp2
  go_ret
  exact ⟨_, rfl, HN4.out, HB4.out⟩
end Go.Proofs.Ytchbbaehdcmcfaa
/- Stage 16's laws: IndexKnown. -/
namespace Go.Proofs.Ytchbbaehdcmcfaa
open Go.RowKit
set_option linter.unusedVariables false
theorem big1 : (⟨#[112]⟩ : ByteArray).size ≤ BIG := by unfold BIG; decide
theorem bigf : (⟨#[102]⟩ : ByteArray).size ≤ BIG := by unfold BIG; decide
theorem i64of7 : I64 7 := ⟨by decide, by decide⟩
theorem i64of3 : I64 3 := ⟨by decide, by decide⟩
theorem i64of9 : I64 9 := ⟨by decide, by decide⟩
def KnS (W w : World) (F : List Nat) (p : Value) (ks : List (KeyM × Bool)) (R : List (Value × List Int)) : Prop :=
 IsX w F p ks ∧ (∀ g ∈ F, W.heap.size ≤ g) ∧ Below W.heap.size W w ∧ ∀ q ∈ R, w.ownsRow 0 3 1 q.1 q.2.length (q.2.flatMap numCells) ∧ ∀ g, q.1.ownBlock = some g → ¬ g ∈ F
section
variable {W w w' : World} {F F' : List Nat} {p : Value} {ks ks' : List (KeyM × Bool)} {R : List (Value × List Int)}
theorem KnS.ext (h : KnS W w F p ks R) (hb : Below w.heap.size w w') : KnS W w' F p ks R :=
 ⟨h.1.ext hb, h.2.1, h.2.2.1.trans (hb.mono h.2.2.1.size), fun q hq => ⟨row_at (h.2.2.2 q hq).1 (fun g hg => hb.block g (row_in (h.2.2.2 q hq).1 hg).2), (h.2.2.2 q hq).2⟩⟩
theorem KnS.turn (h : KnS W w F p ks R) (hx : IsX w' F' p ks') (ht : Touch F w w') (hF : ∀ g ∈ F', g ∈ F ∨ w.heap.size ≤ g) : KnS W w' F' p ks' R :=
 ⟨hx, fun g hg => (hF g hg).elim (h.2.1 g) (fun e => Nat.le_trans h.2.2.1.size e), h.2.2.1.trans (ht.below h.2.2.1.size h.2.1),
  fun q hq => ⟨row_at (h.2.2.2 q hq).1 (fun g hg => ht.block g (row_in (h.2.2.2 q hq).1 hg).2 ((h.2.2.2 q hq).2 g hg)), fun g hg hm => (hF g hm).elim ((h.2.2.2 q hq).2 g hg) (fun e => by have := (row_in (h.2.2.2 q hq).1 hg).2; omega)⟩⟩
theorem KnS.row (h : KnS W w F p ks R) {q : Value × List Int} (hq : q ∈ R) : Nums w q.1 q.2 := Elems.owned (cells := numCells) (fun _ => rfl) (h.2.2.2 q hq).1
theorem add_kn (h : KnS W w F p ks R) (hl : ks.length < 400000) (k : KeyM) (hk : ixOk k) {n : Int} (hn : (ks.length : Int) = n) (he : ks ++ [(plainK k, true)] = ks') :
  Calls Try.prog 43 #[p, ixV k] w fun e w' => e = .returned (.int .i64 n) ∧ ∃ F', KnS W w' F' p ks' R := by
 refine (ixAdd_at h.1 hl k hk).mono ?_
 rintro e w' ⟨rfl, F', hx, ht, hf⟩
 subst hn he
 exact ⟨rfl, F', h.turn hx ht hf⟩
theorem drop_kn (h : KnS W w F p ks R) (hl : ks.length ≤ 400000) (i : Int) (hi : I64 i) {b : Bool} (hd : dropM ks i = (b, ks')) :
  Calls Try.prog 45 #[p, .int .i64 i] w fun e w' => e = .returned (.bool b) ∧ KnS W w' F p ks' R := by
 refine (ixDrop_at h.1 hl i hi).mono ?_
 rintro e w' ⟨rfl, hx, ht⟩
 rw [hd] at hx ⊢
 exact ⟨rfl, h.turn hx ht (fun g hg => Or.inl hg)⟩
theorem pick_kn (h : KnS W w F p ks R) (hl : ks.length ≤ 400000) (k : KeyM) (hk : ixOk k) {L : List Int} (he : pickT k ks 0 = L) :
  Calls Try.prog 44 #[p, ixV k] w fun e w' => ∃ r, e = .returned r ∧ KnS W w' F p ks ((r, L) :: R) := by
 refine (ixPickO_at h.1 hl k hk).mono ?_
 rintro e w' ⟨r, rfl, hn, hb⟩
 subst he
 have h' := h.ext hb
 refine ⟨r, rfl, h'.1, h'.2.1, h'.2.2.1, fun q hq => ?_⟩
 rcases List.mem_cons.1 hq with rfl | hq
 ·exact ⟨ownsRow_base_a hn (Nat.zero_le _), fun g hg hm => by have h1 := (row_in hn hg).1; have h2 := h.1.lt g hm; omega⟩
 ·exact h'.2.2.2 q hq
end
theorem kA_same : sameKey kA kA = true := sameKey_self _
theorem kB_same : sameKey kB kB = true := sameKey_self _
theorem k0_same : sameKey zeroKey zeroKey = true := sameKey_self _
theorem ixZ_v : ixV zeroKey = .agg #[.int .i64 0, .int .i64 0, .string ⟨#[]⟩, .int .i64 0] := rfl
theorem same_l {l : List Int} : decide (l = l) = true := decide_eq_true rfl
set_option maxHeartbeats 16000000 in
set_option maxRecDepth 100000 in
theorem indexKnown_at (W : World) : Calls Try.prog 7 #[] W fun e w' => IsBool W true e w' := by
  go_enter Try.func7, Try.ntmps7
  (go_wp2_with fail; go_fit (awake16_at _); rintro e w1 ⟨rfl, b1⟩)
  (go_wp2_with fail; go_fit (int_at _ 7); rintro e w2 ⟨rfl, b2⟩)
  (go_wp2_with fail; go_fit (var_at _ 0); rintro e w3 ⟨rfl, b3⟩)
  have HB3 := Lib.hid (Ext.trans' b1 (Ext.trans' b2 b3))
  have HT := Lib.hid (tms_two (leaf_tm w3 (k := 1) (n := 7) (s := ⟨#[]⟩) i64of1 i64of7 (by unfold BIG; decide)) (leaf_tm w3 (k := 0) (n := 0) (s := ⟨#[]⟩) i64of0 i64of0 (by unfold BIG; decide)))
  clear b1 b2 b3
  have C := comp_at ⟨#[112]⟩ big1 HT.out
  (go_wp2_with fail; go_fit (C); rintro e w4 ⟨a4, c4, rfl, t4, b4⟩)
  have HB4 := Lib.hid (Ext.trans' HB3.out (Ext.trans' (bel1' w3 _) b4))
  have C := ixOf_at tA w4 _ t4
  clear b4 t4 HT
  (go_wp2_with fail; go_fit (C); rintro e w5 ⟨rfl, b5⟩)
  rw [tA_key]
  have HB5 := Lib.hid (Ext.trans' HB4.out b5)
  clear b5 C
  (go_wp2_with fail; go_fit (var_at _ 0); rintro e w6 ⟨rfl, b6⟩)
  have HT := Lib.hid (tms_one (leaf_tm w6 (k := 0) (n := 0) (s := ⟨#[]⟩) i64of0 i64of0 (by unfold BIG; decide)))
  have C := comp_at ⟨#[102]⟩ bigf HT.out
  (go_wp2_with fail; go_fit (C); rintro e w7 ⟨a7, c7, rfl, t7, b7⟩)
  have HB7 := Lib.hid (Ext.trans' HB5.out (Ext.trans' b6 (Ext.trans' (bel1' w6 _) b7)))
  have HT2 := Lib.hid (tms_one t7)
  have C := comp_at ⟨#[112]⟩ big1 HT2.out
  clear b6 b7 t7 HT
  (go_wp2_with fail; go_fit (C); rintro e w8 ⟨a8, c8, rfl, t8, b8⟩)
  have HB8 := Lib.hid (Ext.trans' HB7.out (Ext.trans' (bel1' w7 _) b8))
  have C := ixOf_at tB w8 _ t8
  clear b8 t8 HT2
  (go_wp2_with fail; go_fit (C); rintro e w9 ⟨rfl, b9⟩)
  rw [tB_key]
  have HB9 := Lib.hid (Ext.trans' HB8.out b9)
  clear b9 C
  go_upto_region 4 with fail
  obtain ⟨w10, e10, b10, z10, X10⟩ := box_new w9 #[.int .i64 kA.k, .int .i64 kA.n, .string kA.s, .int .i64 kA.ar] 76
  obtain ⟨w11, e11, b11, z11, X11⟩ := box_new w10 #[.int .i64 kB.k, .int .i64 kB.n, .string kB.s, .int .i64 kB.ar] 76
  rw [e10, e11, ← z10]
  obtain ⟨ba, hba⟩ : ∃ ba, w9.heap.size = ba := ⟨_, rfl⟩
  obtain ⟨bb, hbb⟩ : ∃ bb, w10.heap.size = bb := ⟨_, rfl⟩
  rw [hba] at X10 ⊢
  rw [hbb] at X11 ⊢
  have HB11 := Lib.hid (Ext.trans' HB9.out (Ext.trans' b10 b11))
  have X10' := X10.ext b11
  have hC : ∀ wq, Below w11.heap.size w11 wq → (wq.cell? ⟨ba, 0, none⟩ = some (.int .i64 kA.k) ∧ wq.cell? ⟨ba, 1, none⟩ = some (.int .i64 kA.n) ∧ wq.cell? ⟨ba, 2, none⟩ = some (.string kA.s) ∧ wq.cell? ⟨ba, 3, none⟩ = some (.int .i64 kA.ar)) ∧
      (wq.cell? ⟨bb, 0, none⟩ = some (.int .i64 kB.k) ∧ wq.cell? ⟨bb, 1, none⟩ = some (.int .i64 kB.n) ∧ wq.cell? ⟨bb, 2, none⟩ = some (.string kB.s) ∧ wq.cell? ⟨bb, 3, none⟩ = some (.int .i64 kB.ar)) := fun wq hb => by
    obtain ⟨x0, x1, x2, x3, _⟩ := (X10'.ext hb).four
    obtain ⟨y0, y1, y2, y3, _⟩ := (X11.ext hb).four
    exact ⟨⟨x0, x1, x2, x3⟩, y0, y1, y2, y3⟩
  have HC := Lib.hid hC
  clear hC X10 X10' X11 e10 e11 z10 z11 b10 b11 hba hbb
  (go_wp2_with fail; go_fit (ixNew_at w11); rintro e w12 ⟨p, F, rfl, hx, b12, hF⟩)
  obtain ⟨xb, hp⟩ : ∃ xb, p = .pointer (some ⟨xb, 0, none⟩) := by
    obtain ⟨xb, _, _, _, _, _, rfl, _⟩ := hx
    exact ⟨xb, rfl⟩
  subst hp
  have K0 := Lib.hid (show KnS w11 w12 F (.pointer (some ⟨xb, 0, none⟩)) [] [] from ⟨hx, hF, b12, fun q hq => by cases hq⟩)
  clear hx b12 hF
  go_upto_region 7 with fail
  refine wp_region_held_drew (S := fun wq => (wq.cell? ⟨ba, 0, none⟩ = some (.int .i64 kA.k) ∧ wq.cell? ⟨ba, 1, none⟩ = some (.int .i64 kA.n) ∧ wq.cell? ⟨ba, 2, none⟩ = some (.string kA.s) ∧ wq.cell? ⟨ba, 3, none⟩ = some (.int .i64 kA.ar)) ∧
      (wq.cell? ⟨bb, 0, none⟩ = some (.int .i64 kB.k) ∧ wq.cell? ⟨bb, 1, none⟩ = some (.int .i64 kB.n) ∧ wq.cell? ⟨bb, 2, none⟩ = some (.string kB.s) ∧ wq.cell? ⟨bb, 3, none⟩ = some (.int .i64 kB.ar))) (by kernel_rfl) (HC.out _ (K0.out.2.2.1.drew)) (fun hHeld => ?_)
  have K0d := Lib.hid (K0.out.ext (w' := w12.drew) (Below.refl _ _).drew)
  obtain ⟨wd, ewd⟩ : ∃ wd, w12.drew = wd := ⟨_, rfl⟩
  rw [ewd] at hHeld K0d ⊢
  clear ewd
  first | (refine held_t (i := 0) hHeld ?_; constructor; constructor; intro wq hq; focus ((try dsimp only at hq); go_simp; first | done | with_reducible rfl | fail)) | refine held_s (i := 0) hHeld ?_ | fail
  first | (refine held_t (i := 1) hHeld ?_; constructor; constructor; intro wq hq; focus ((try dsimp only at hq); go_simp; first | done | with_reducible rfl | fail)) | refine held_s (i := 1) hHeld ?_ | fail
  first | (refine held_t (i := 3) hHeld ?_; constructor; constructor; intro wq hq; focus ((try dsimp only at hq); go_simp; first | done | with_reducible rfl | fail)) | refine held_s (i := 3) hHeld ?_ | fail
  first | (refine held_t (i := 4) hHeld ?_; constructor; constructor; intro wq hq; focus ((try dsimp only at hq); go_simp; first | done | with_reducible rfl | fail)) | refine held_s (i := 4) hHeld ?_ | fail
  first | (refine held_t (i := 6) hHeld ?_; constructor; constructor; intro wq hq; focus ((try dsimp only at hq); go_simp; first | done | with_reducible rfl | fail)) | refine held_s (i := 6) hHeld ?_ | fail
  first | (refine held_t (i := 7) hHeld ?_; constructor; constructor; intro wq hq; focus ((try dsimp only at hq); go_simp; first | done | with_reducible rfl | fail)) | refine held_s (i := 7) hHeld ?_ | fail
  first | (refine held_t (i := 9) hHeld ?_; constructor; constructor; intro wq hq; focus ((try dsimp only at hq); go_simp; first | done | with_reducible rfl | fail)) | refine held_s (i := 9) hHeld ?_ | fail
  first | (refine held_t (i := 10) hHeld ?_; constructor; constructor; intro wq hq; focus ((try dsimp only at hq); go_simp; first | done | with_reducible rfl | fail)) | refine held_s (i := 10) hHeld ?_ | fail
  try simp only [Act.put, lay4]
  refine held_c 2 fun K hK => ?_
  go_simp
  (go_at_call 43; refine (add_kn K0d.out (by decide) kA kA_ok (n := 0) (ks' := [(kA, true)]) rfl rfl).mono ?_; rintro e w13 ⟨rfl, F1, h1⟩; have K1 := Lib.hid h1; clear h1)
  refine hK.out _ _ (HC.out _ K1.out.2.2.1) (fun hHeld => ?_)
  clear hK K
  try simp only [Act.put, lay4]
  refine held_c 5 fun K hK => ?_
  go_simp
  (go_at_call 43; refine (add_kn K1.out (by decide) zeroKey ixZero (n := 1) (ks' := [(kA, true), (zeroKey, true)]) rfl rfl).mono ?_; rintro e w14 ⟨rfl, F2, h1⟩; have K2 := Lib.hid h1; clear h1)
  refine hK.out _ _ (HC.out _ K2.out.2.2.1) (fun hHeld => ?_)
  clear hK K
  try simp only [Act.put, lay4]
  refine held_c 8 fun K hK => ?_
  go_simp
  (go_at_call 43; refine (add_kn K2.out (by decide) kB kB_ok (n := 2) (ks' := [(kA, true), (zeroKey, true), (kB, true)]) rfl rfl).mono ?_; rintro e w15 ⟨rfl, F3, h1⟩; have K3 := Lib.hid h1; clear h1)
  refine hK.out _ _ (HC.out _ K3.out.2.2.1) (fun hHeld => ?_)
  clear hK K
  try simp only [Act.put, lay4]
  refine held_c 11 fun K hK => ?_
  go_simp
  (go_at_call 43; refine (add_kn K3.out (by decide) kA kA_ok (n := 3) (ks' := ks4) rfl rfl).mono ?_; rintro e w16 ⟨rfl, F4, h1⟩; have K4 := Lib.hid h1; clear h1)
  refine hK.out _ _ (HC.out _ K4.out.2.2.1) (fun hHeld => ?_)
  clear hK K
  try simp only [Act.put, lay4]
  first | (refine held_t (i := 12) hHeld ?_; constructor; constructor; intro wq hq; focus ((try dsimp only at hq); go_simp; first | done | with_reducible rfl | fail)) | refine held_s (i := 12) hHeld ?_ | fail
  first | (refine held_t (i := 13) hHeld ?_; constructor; constructor; intro wq hq; focus ((try dsimp only at hq); go_simp; first | done | with_reducible rfl | fail)) | refine held_s (i := 13) hHeld ?_ | fail
  first | (refine held_t (i := 14) hHeld ?_; constructor; constructor; intro wq hq; focus ((try dsimp only at hq); go_simp; first | done | with_reducible rfl | fail)) | refine held_s (i := 14) hHeld ?_ | fail
  first | (refine held_t (i := 15) hHeld ?_; constructor; constructor; intro wq hq; focus ((try dsimp only at hq); go_simp; first | done | with_reducible rfl | fail)) | refine held_s (i := 15) hHeld ?_ | fail
  try simp only [Act.put, lay4]
  refine wpAnyH_done (by kernel_rfl) ?_ _
  obtain ⟨⟨x0, x1, x2, x3⟩, y0, y1, y2, y3⟩ := hHeld
  have C := pick_kn K4.out (by decide) kA kA_ok pick_a
  (go_wp2_with fail; go_fit (C); rintro e w17 ⟨r8, rfl, h1⟩)
  have K5 := Lib.hid h1
  clear h1 C x0 x1 x2 x3 y0 y1 y2 y3
  have C := drop_kn K5.out (by decide) 0 i64of0 drop_a
  (go_wp2_with fail; go_fit (C); rintro e w18 ⟨rfl, h1⟩)
  have K6 := Lib.hid h1
  clear h1 C
  have C := drop_kn K6.out (by decide) 0 i64of0 drop_b
  (go_wp2_with fail; go_fit (C); rintro e w19 ⟨rfl, h1⟩)
  have K7 := Lib.hid h1
  clear h1 C
  have C := drop_kn K7.out (by decide) 9 i64of9 drop_c
  (go_wp2_with fail; go_fit (C); rintro e w20 ⟨rfl, h1⟩)
  have K8 := Lib.hid h1
  clear h1 C
  obtain ⟨⟨x0, x1, x2, x3⟩, y0, y1, y2, y3⟩ := HC.out _ K8.out.2.2.1
  have C := pick_kn K8.out (by decide) kA kA_ok pick_b
  (go_wp2_with fail; go_fit (C); rintro e w21 ⟨r12, rfl, h1⟩)
  have K9 := Lib.hid h1
  clear h1 C x0 x1 x2 x3 y0 y1 y2 y3
  have C := pick_kn K9.out (by decide) zeroKey ixZero pick_c
  (go_wp2_with fail; go_fit (C); rintro e w22 ⟨r13, rfl, h1⟩)
  have K10 := Lib.hid h1
  clear h1 C
  obtain ⟨⟨x0, x1, x2, x3⟩, y0, y1, y2, y3⟩ := HC.out _ K10.out.2.2.1
  have C := add_kn K10.out (by decide) kA kA_ok (n := 4) (ks' := ks5 ++ [(kA, true)]) rfl rfl
  (go_wp2_with fail; go_fit (C); rintro e w23 ⟨rfl, F5, h1⟩)
  have K11 := Lib.hid h1
  clear h1 C x0 x1 x2 x3 y0 y1 y2 y3
  obtain ⟨⟨x0, x1, x2, x3⟩, y0, y1, y2, y3⟩ := HC.out _ K11.out.2.2.1
  have he1 : ∀ wq : World, (Op.equalIn 10000 76 (.agg #[.int .i64 kA.k, .int .i64 kA.n, .string kA.s, .int .i64 kA.ar]) (.agg #[.int .i64 1, .int .i64 7, .string ⟨#[]⟩, .int .i64 0])).run Try.prog wq = .ok true wq := fun wq => by
    have := ixEq kA kA wq
    rw [kA_same] at this
    exact this
  have he2 : ∀ wq : World, (Op.equalIn 10000 76 (.agg #[.int .i64 kB.k, .int .i64 kB.n, .string kB.s, .int .i64 kB.ar]) (.agg #[.int .i64 2, .int .i64 0, .string ⟨#[102]⟩, .int .i64 1])).run Try.prog wq = .ok true wq := fun wq => by
    have := ixEq kB kB wq
    rw [kB_same] at this
    exact this
  have he0 : ∀ wq : World, (Op.equalIn 10000 76 (.agg #[.int .i64 0, .int .i64 0, .string ⟨#[]⟩, .int .i64 0]) (.agg #[.int .i64 0, .int .i64 0, .string ⟨#[]⟩, .int .i64 0])).run Try.prog wq = .ok true wq := fun wq => by
    have := ixEq zeroKey zeroKey wq
    rw [k0_same] at this
    exact this
  (go_wp2_with fail; go_fit (atom_at w23 ⟨#[112]⟩); rintro e u1 ⟨rfl, b1⟩)
  have HU1 := Lib.hid b1
  clear b1
  have C := ixOf_at (nameT sP []) u1 _ (leaf_tm u1 (k := 2) (n := 0) (s := ⟨#[112]⟩) i64of2 i64of0 big1)
  rw [tC_key, ixZ_v] at C
  (go_wp2_with fail; go_fit (C); rintro e u2 ⟨rfl, b2⟩)
  have HU2 := Lib.hid (Ext.trans' HU1.out b2)
  clear b2 C he1 he2 x0 x1 x2 x3 y0 y1 y2 y3
  have C := ixOf_at (.mk 9 0 ⟨#[]⟩ []) u2 _ (leaf_tm u2 (k := 9) (n := 0) (s := ⟨#[]⟩) i64of9 i64of0 (by unfold BIG; decide))
  rw [tD_key, ixZ_v] at C
  (go_wp2_with fail; go_fit (C); rintro e u3 ⟨rfl, b3⟩)
  have HU3 := Lib.hid (Ext.trans' HU2.out b3)
  clear b3 C
  (go_wp2_with fail; go_fit (var_at u3 3); rintro e u4 ⟨rfl, b4⟩)
  have HU4 := Lib.hid (Ext.trans' HU3.out b4)
  clear b4
  have HT := Lib.hid (tms_one (leaf_tm u4 (k := 0) (n := 3) (s := ⟨#[]⟩) i64of0 i64of3 (by unfold BIG; decide)))
  have C := comp_at ⟨#[112]⟩ big1 HT.out
  (go_wp2_with fail; go_fit (C); rintro e u5 ⟨a5, c5, rfl, t5, b5⟩)
  have HU5 := Lib.hid (Ext.trans' HU4.out (Ext.trans' (bel1' u4 _) b5))
  clear b5 HT C
  have C := ixOf_at tE u5 _ t5
  rw [tE_key, ixZ_v] at C
  clear t5
  (go_wp2_with fail; go_fit (C); rintro e u6 ⟨rfl, b6⟩)
  have HU6 := Lib.hid (Ext.trans' HU5.out b6)
  clear b6 C
  have N8 := (K11.out.row (q := (r8, [0, 1, 3])) (by simp)).ext (Ext.trans' HU6.out (bel1' u6 (.cells #[.int .i64 0, .int .i64 1, .int .i64 3] 3)))
  obtain ⟨u7, e7, b7, z7, X7⟩ := box_new u6 #[.int .i64 0, .int .i64 1, .int .i64 3] 3
  rw [e7] at N8
  have C := ints_at N8 (three_nums X7)
  rw [same_l, ← e7] at C
  have HU7 := Lib.hid (Ext.trans' HU6.out b7)
  rw [← e7] at HU7
  clear N8 e7 z7 X7 b7
  (go_wp2_with fail; go_fit (C); rintro e u8 ⟨rfl, b8⟩)
  have HU8 := Lib.hid (Ext.trans' HU7.out b8)
  clear b8 C
  have N12 := (K11.out.row (q := (r12, [1, 3])) (by simp)).ext (Ext.trans' HU8.out (bel1' u8 (.cells #[.int .i64 1, .int .i64 3] 3)))
  obtain ⟨u9, e9, b9, z9, X9⟩ := box_new u8 #[.int .i64 1, .int .i64 3] 3
  rw [e9] at N12
  have C := ints_at N12 (pair_nums X9)
  rw [same_l, ← e9] at C
  have HU9 := Lib.hid (Ext.trans' HU8.out b9)
  rw [← e9] at HU9
  clear N12 e9 z9 X9 b9
  (go_wp2_with fail; go_fit (C); rintro e v1 ⟨rfl, b1⟩)
  have HV1 := Lib.hid (Ext.trans' HU9.out b1)
  clear b1 C
  have N13 := (K11.out.row (q := (r13, [1, 2, 3])) (by simp)).ext (Ext.trans' HV1.out (bel1' v1 (.cells #[.int .i64 1, .int .i64 2, .int .i64 3] 3)))
  obtain ⟨v2, e2, b2, z2, X2⟩ := box_new v1 #[.int .i64 1, .int .i64 2, .int .i64 3] 3
  rw [e2] at N13
  have C := ints_at N13 (three_nums X2)
  rw [same_l, ← e2] at C
  have HV2 := Lib.hid (Ext.trans' HV1.out b2)
  rw [← e2] at HV2
  clear N13 e2 z2 X2 b2
  (go_wp2_with fail; go_fit (C); rintro e v3 ⟨rfl, b3⟩)
  have HV3 := Lib.hid (Ext.trans' HV2.out b3)
  clear b3 C
  have HX := Lib.hid (fun (wq : World) (hb : Below w23.heap.size w23 wq) => HC.out wq (K11.out.2.2.1.trans (hb.mono K11.out.2.2.1.size)))
  obtain ⟨⟨x0, x1, x2, x3⟩, y0, y1, y2, y3⟩ := HX.out _ HV3.out
  have C := ixMay_at kA kB v3
  rw [may_ab] at C
  (go_wp2_with fail; go_fit (C); rintro e v4 ⟨rfl, b4⟩)
  have HV4 := Lib.hid (Ext.trans' HV3.out b4)
  clear b4 C x0 x1 x2 x3 y0 y1 y2 y3
  obtain ⟨⟨x0, x1, x2, x3⟩, y0, y1, y2, y3⟩ := HX.out _ HV4.out
  have C := ixMay_at kA zeroKey v4
  rw [may_az] at C
  (go_wp2_with fail; go_fit (C); rintro e v5 ⟨rfl, b5⟩)
  have HV5 := Lib.hid (Ext.trans' HV4.out b5)
  clear b5 C x0 x1 x2 x3 y0 y1 y2 y3
  obtain ⟨⟨x0, x1, x2, x3⟩, y0, y1, y2, y3⟩ := HX.out _ HV5.out
  have C := ixMay_at kB kB v5
  rw [may_bb] at C
  (go_wp2_with fail; go_fit (C); rintro e v6 ⟨rfl, b6⟩)
  have HV6 := Lib.hid (Ext.trans' HV5.out b6)
  clear b6 C x0 x1 x2 x3 y0 y1 y2 y3
  go_wp2
  go_ret
  exact ⟨rfl, Ext.trans' HB11.out (K11.out.2.2.1.trans (HV6.out.mono K11.out.2.2.1.size))⟩
end Go.Proofs.Ytchbbaehdcmcfaa
/- IndexKnown: what the document tells of known keys: the law answers true. No condition. -/
namespace Go.Proofs.Ytchbbaehdcmcfaa
open Go.RowKit
namespace indexKnown
open Go.ChangeShapes Go.WideShapes Go.ChangeAt Go.RowKit
theorem own : ownKnob Try.prog.godebug = none := by kernel_rfl
set_option linter.unusedVariables false
set_option maxRecDepth 100000 in
theorem lifted (os : Os) (started : os.Started) (H : Type) (enc : TypeId × Value → H) :
  ReturnsInHanded {} Try.checked os 7 .any (Rows.indexKnownSpec.pre6 enc Try.prog Try.f7 Rows.indexKnownRow.domain false) (Rows.indexKnownSpec.post enc Try.prog Try.f7 false true false false) := by
 refine returnsInHanded_of_change_sized (C := Try.checked) own started (by kernel_rfl) Try.func7
  (ChangeSpec.witness6 (enc := enc) (C := Try.checked) false ⟨#[], #[], []⟩ 8 (by kernel_rfl) (by kernel_rfl) (by kernel_rfl) (by kernel_rfl)) ?_
 intro W base args ds gs before hval0 hW hcnd hsz0 _
 have hval : ∀ (j : Nat) t v, Try.f7.params[j]? = some t → args[j]? = some v → Value.okWide Try.prog W .any base t v := hval0
 have hW' := hW
 obtain ⟨p, q, hA0, hV, rfl, hfz, hnd⟩ := hW
 have hA : DataW.TrodAll enc Try.prog W 0 (fun _ => true) true Try.f7.params.toList args.toList ds p := hA0
 have hsz : (DataW.weightsEach Try.prog (Try.f7.params.toList ++ []) (ds ++ gs)).all (· ≤ reachBytes) = true := hsz0
 rw [Try.params7] at hA hval hsz
 obtain ⟨rfl, rfl, rfl⟩ := trodAll_none hA
 obtain ⟨rfl, rfl⟩ := trodVars_none hV
 clear hA0 hval0 hsz0
 refine (indexKnown_at W ).mono fun e W' ⟨he, bel⟩ => ?_
 subst he
 exact ⟨_, rfl, _, _, _, [], _, [], hW', trodAll_mk1 (shut_bool Try.underlying4 _), rfl, rfl, bel.frame _, fun h => by cases h⟩
theorem proved : Rows.IndexKnownSaid :=
 OpenClaim.holds_of_wide 7 Try.f7 rfl rfl rfl rfl rfl rfl rfl ⟨rfl, rfl, rfl, rfl, rfl⟩ rfl rfl rfl rfl rfl (by kernel_rfl) Try.func7 (by kernel_rfl)
  (of_decide_eq_true (by kernel_rfl)) (by unfold Func.isWrapper; first | (rw [if_pos (by decide +kernel)]; kernel_rfl) | (rw [if_neg (by decide +kernel)]; exact ⟨rfl, rfl⟩))
  (fun os started H enc _ => lifted os started H enc)
#print axioms proved
end indexKnown
end Go.Proofs.Ytchbbaehdcmcfaa
