import Derived.Test.YtaojalicnnnkmaaGreatDoorHgaau
import Derived.Test.YtaojalicnnnkmaaGreatDoorHgaaq
import Derived.Test.YtaojalicnnnkmaaGreatDoorHgaaa
set_option linter.unusedVariables false
set_option linter.unusedSimpArgs false
/- Stage 14's laws: awake. -/
namespace Go.Proofs.YtaojalicnnnkmaaGreatDoor
open Go.Shelf Go.RowKit
set_option linter.unusedVariables false
set_option maxRecDepth 100000

def atT (c : UInt8) : Tm := nameT ⟨#[c]⟩ []
def aw14S : ByteArray := ⟨#[97, 44, 32, 33, 44, 32, 98]⟩
def aw14T : Tm := nameT commaS [atT 97, nameT commaS [atT 33, atT 98]]
def aw14L : List Gl := [callG (atT 97), .mk 2 zeroT [], callG (atT 98)]
theorem aw14_read : readB oneR opsB (bl (aw14S ++ ⟨#[32, 46]⟩)) = .ok (aw14T, []) := by kernel_rfl
theorem aw14_of : ofE aw14T = (aw14L, 0) := by
  have h1 : goodT aw14T = true := by decide +kernel
  have h2 : ofB aw14T = some aw14L := by rfl
  unfold ofE
  rw [if_pos h1, h2]
theorem aw14_cnt : cntL aw14L = 3 := by rfl
theorem aw14_cut : cutL aw14L = true := by rfl
set_option maxHeartbeats 8000000 in
theorem awake14_at {w : World} (he : Err w) : Calls Tryz.prog 7 #[] w fun e w' => e = .returned (.bool true) ∧ Below w.heap.size w w' := by
  have C1 := say_at aw14S (by decide) aw14_read he
  unfold aw14S at C1
  clear he
  go_enter Tryz.func7, Tryz.ntmps7
  (go_wp2_with fail; go_fit (C1); rintro e w1 ⟨v1, rfl, ht1, b1⟩)
  have HB1 := Lib.hid b1
  have C2 := bOf_at aw14T w1 v1 ht1
  unfold OfKE at C2
  rw [aw14_of] at C2
  clear C1 ht1 b1
  (go_wp2_with fail; go_fit (C2); rintro e w2 ⟨v2, rfl, hg2, b2⟩)
  have HB2 := Lib.hid (Ext.trans' HB1.out b2)
  have HG2 := Lib.hid (show GoalsK w2 aw14L v2 from hg2)
  obtain ⟨a, c, hv2, hc1, hc2, _⟩ := HG2.out.1.len
  have hl3 : aw14L.length = 3 := rfl
  rw [hl3] at hv2 hc1
  subst hv2
  unfold maxLen at hc2
  obtain ⟨b, off, kt, nt, st, at_, mt, ct, ar, mr, cr, rfl, _, d0, -, -, -, -, -, -, -, -⟩ := HG2.out.1.get (i := 0) (g := callG (atT 97)) rfl
  obtain ⟨b', off', kt1, nt1, st1, at1, mt1, ct1, ar1, mr1, cr1, e1, _, f0, -, -, -, -, -, -, -, -⟩ := HG2.out.1.get (i := 1) (g := .mk 2 zeroT []) rfl
  cases e1
  obtain ⟨b', off', kt2, nt2, st2, at2, mt2, ct2, ar2, mr2, cr2, e2, _, -, g1, g2, g3, g4, -, -, ht, -⟩ := HG2.out.1.get (i := 2) (g := callG (atT 98)) rfl
  cases e2
  have HT := Lib.hid (show TmV w2 (atT 98) (.agg #[.int .i64 kt2, .int .i64 nt2, .string st2, .slice at2 mt2 ct2]) from ht)
  have D0 : w2.cell? ⟨b, off + 0 * 6, none⟩ = some (.int .i64 1) := d0
  have F0 : w2.cell? ⟨b, off + 1 * 6, none⟩ = some (.int .i64 2) := f0
  rw [Nat.zero_mul, Nat.add_zero] at D0
  rw [Nat.one_mul] at F0
  have G1 : w2.cell? ⟨b, off + 12 + 1, none⟩ = some (.int .i64 kt2) := g1
  have G2 : w2.cell? ⟨b, off + 12 + 1 + 1, none⟩ = some (.int .i64 nt2) := g2
  have G3 : w2.cell? ⟨b, off + 12 + 1 + 2, none⟩ = some (.string st2) := g3
  have G4 : w2.cell? ⟨b, off + 12 + 1 + 3, none⟩ = some (.slice at2 mt2 ct2) := g4
  have hsm : (goodT (atT 98) && goodT (atT 98) && sameT (atT 98) (atT 98)) = true := by decide +kernel
  have HS := Lib.hid (fun (wq : World) (hq : Below w2.heap.size w2 wq) => Same_at (TmV.ext hq _ _ HT.out) (show TmV wq (atT 98) (.agg #[.int .i64 2, .int .i64 0, .string ⟨#[98]⟩, .slice none 0 0]) from leaf_tm _ (i64_of 2 (by omega) (by omega)) i64_0 (by unfold BIG; decide)))
  rw [hsm] at HS
  clear hsm
  have HN := Lib.hid (fun (wq : World) (hq : Below w2.heap.size w2 wq) => Count_at aw14L (by rw [aw14_cnt]; omega) wq _ (HG2.out.keep (keeps_bare hq)))
  have HU := Lib.hid (fun (wq : World) (hq : Below w2.heap.size w2 wq) => Cuts_at aw14L wq _ (HG2.out.keep (keeps_bare hq)))
  rw [aw14_cnt] at HN
  rw [aw14_cut] at HU
  clear C2 hg2 b2 d0 f0 g1 g2 g3 g4 ht
  go_wp2_with fail
  refine wp_region_held_drew (S := (fun w' => (w'.cell? ⟨b, off, none⟩ = some (Value.int .i64 1) ∧ w'.cell? ⟨b, off + 6, none⟩ = some (Value.int .i64 2) ∧ w'.cell? ⟨b, off + 12 + 1, none⟩ = some (Value.int .i64 kt2) ∧ w'.cell? ⟨b, off + 12 + 1 + 1, none⟩ = some (Value.int .i64 nt2) ∧ w'.cell? ⟨b, off + 12 + 1 + 2, none⟩ = some (Value.string st2) ∧ w'.cell? ⟨b, off + 12 + 1 + 3, none⟩ = some (Value.slice at2 mt2 ct2)) ∧ Below w2.heap.size w2 w')) (by kernel_rfl) (⟨⟨D0, F0, G1, G2, G3, G4⟩, (Below.refl _ _).drew⟩) (fun hHeld => ?_)
  first | (refine held_t (i := 0) hHeld ?_; apply Exists.intro; refine ⟨fun wq hq => ?_, ?_⟩; (focus ((try dsimp only at hq); go_simp; (first | done | with_reducible rfl | fail)))) | refine held_s (i := 0) hHeld ?_ | fail
  first | (refine held_t (i := 1) hHeld ?_; apply Exists.intro; refine ⟨fun wq hq => ?_, ?_⟩; (focus ((try dsimp only at hq); go_simp; (first | done | with_reducible rfl | fail)))) | refine held_s (i := 1) hHeld ?_ | fail
  try simp only [Act.put, List.setIfInBounds_toArray, List.set_cons_zero, List.set_cons_succ]
  first | (refine held_t (i := 2) hHeld ?_; apply Exists.intro; refine ⟨fun wq hq => ?_, ?_⟩; (focus ((try dsimp only at hq); go_simp; (first | done | with_reducible rfl | fail)))) | refine held_s (i := 2) hHeld ?_ | fail
  first | (refine held_t (i := 3) hHeld ?_; apply Exists.intro; refine ⟨fun wq hq => ?_, ?_⟩; (focus ((try dsimp only at hq); go_simp; (first | done | with_reducible rfl | fail)))) | refine held_s (i := 3) hHeld ?_ | fail
  try simp only [Act.put, List.setIfInBounds_toArray, List.set_cons_zero, List.set_cons_succ]
  first | (refine held_t (i := 4) hHeld ?_; apply Exists.intro; refine ⟨fun wq hq => ?_, ?_⟩; (focus ((try dsimp only at hq); go_simp; (first | done | with_reducible rfl | fail)))) | refine held_s (i := 4) hHeld ?_ | fail
  first | (refine held_t (i := 5) hHeld ?_; apply Exists.intro; refine ⟨fun wq hq => ?_, ?_⟩; (focus ((try dsimp only at hq); go_simp; (first | done | with_reducible rfl | fail)))) | refine held_s (i := 5) hHeld ?_ | fail
  try simp only [Act.put, List.setIfInBounds_toArray, List.set_cons_zero, List.set_cons_succ]
  first | (refine held_t (i := 6) hHeld ?_; apply Exists.intro; refine ⟨fun wq hq => ?_, ?_⟩; (focus ((try dsimp only at hq); go_simp; (first | done | with_reducible rfl | fail)))) | refine held_s (i := 6) hHeld ?_ | fail
  first | (refine held_t (i := 7) hHeld ?_; apply Exists.intro; refine ⟨fun wq hq => ?_, ?_⟩; (focus ((try dsimp only at hq); go_simp; (first | done | with_reducible rfl | fail)))) | refine held_s (i := 7) hHeld ?_ | fail
  try simp only [Act.put, List.setIfInBounds_toArray, List.set_cons_zero, List.set_cons_succ]
  first | (refine held_t (i := 8) hHeld ?_; apply Exists.intro; refine ⟨fun wq hq => ?_, ?_⟩; (focus ((try dsimp only at hq); go_simp; (first | done | with_reducible rfl | fail)))) | refine held_s (i := 8) hHeld ?_ | fail
  first | (refine held_t (i := 9) hHeld ?_; apply Exists.intro; refine ⟨fun wq hq => ?_, ?_⟩; (focus ((try dsimp only at hq); go_simp; (first | done | with_reducible rfl | fail)))) | refine held_s (i := 9) hHeld ?_ | fail
  try simp only [Act.put, List.setIfInBounds_toArray, List.set_cons_zero, List.set_cons_succ]
  first | (refine held_t (i := 10) hHeld ?_; apply Exists.intro; refine ⟨fun wq hq => ?_, ?_⟩; (focus ((try dsimp only at hq); go_simp; (first | done | with_reducible rfl | fail)))) | refine held_s (i := 10) hHeld ?_ | fail
  first | (refine held_t (i := 11) hHeld ?_; apply Exists.intro; refine ⟨fun wq hq => ?_, ?_⟩; (focus ((try dsimp only at hq); go_simp; (first | done | with_reducible rfl | fail)))) | refine held_s (i := 11) hHeld ?_ | fail
  try simp only [Act.put, List.setIfInBounds_toArray, List.set_cons_zero, List.set_cons_succ]
  first | (refine held_t (i := 12) hHeld ?_; apply Exists.intro; refine ⟨fun wq hq => ?_, ?_⟩; (focus ((try dsimp only at hq); go_simp; (first | done | with_reducible rfl | fail)))) | refine held_s (i := 12) hHeld ?_ | fail
  first | (refine held_t (i := 13) hHeld ?_; apply Exists.intro; refine ⟨fun wq hq => ?_, ?_⟩; (focus ((try dsimp only at hq); go_simp; (first | done | with_reducible rfl | fail)))) | refine held_s (i := 13) hHeld ?_ | fail
  try simp only [Act.put, List.setIfInBounds_toArray, List.set_cons_zero, List.set_cons_succ]
  first | (refine held_t (i := 14) hHeld ?_; apply Exists.intro; refine ⟨fun wq hq => ?_, ?_⟩; (focus ((try dsimp only at hq); go_simp; (first | done | with_reducible rfl | fail)))) | refine held_s (i := 14) hHeld ?_ | fail
  first | (refine held_t (i := 15) hHeld ?_; apply Exists.intro; refine ⟨fun wq hq => ?_, ?_⟩; (focus ((try dsimp only at hq); go_simp; (first | done | with_reducible rfl | fail)))) | refine held_s (i := 15) hHeld ?_ | fail
  try simp only [Act.put, List.setIfInBounds_toArray, List.set_cons_zero, List.set_cons_succ]
  first | (refine held_t (i := 16) hHeld ?_; apply Exists.intro; refine ⟨fun wq hq => ?_, ?_⟩; (focus ((try dsimp only at hq); go_simp; (first | done | with_reducible rfl | fail)))) | refine held_s (i := 16) hHeld ?_ | fail
  first | (refine held_t (i := 17) hHeld ?_; apply Exists.intro; refine ⟨fun wq hq => ?_, ?_⟩; (focus ((try dsimp only at hq); go_simp; (first | done | with_reducible rfl | fail)))) | refine held_s (i := 17) hHeld ?_ | fail
  try simp only [Act.put, List.setIfInBounds_toArray, List.set_cons_zero, List.set_cons_succ]
  first | (refine held_t (i := 18) hHeld ?_; apply Exists.intro; refine ⟨fun wq hq => ?_, ?_⟩; (focus ((try dsimp only at hq); go_simp; (first | done | with_reducible rfl | fail)))) | refine held_s (i := 18) hHeld ?_ | fail
  first | (refine held_t (i := 19) hHeld ?_; apply Exists.intro; refine ⟨fun wq hq => ?_, ?_⟩; (focus ((try dsimp only at hq); go_simp; (first | done | with_reducible rfl | fail)))) | refine held_s (i := 19) hHeld ?_ | fail
  try simp only [Act.put, List.setIfInBounds_toArray, List.set_cons_zero, List.set_cons_succ]
  first | (refine held_t (i := 20) hHeld ?_; apply Exists.intro; refine ⟨fun wq hq => ?_, ?_⟩; (focus ((try dsimp only at hq); go_simp; (first | done | with_reducible rfl | fail)))) | refine held_s (i := 20) hHeld ?_ | fail
  first | (refine held_t (i := 21) hHeld ?_; apply Exists.intro; refine ⟨fun wq hq => ?_, ?_⟩; (focus ((try dsimp only at hq); go_simp; (first | done | with_reducible rfl | fail)))) | refine held_s (i := 21) hHeld ?_ | fail
  try simp only [Act.put, List.setIfInBounds_toArray, List.set_cons_zero, List.set_cons_succ]
  first | (refine held_t (i := 22) hHeld ?_; apply Exists.intro; refine ⟨fun wq hq => ?_, ?_⟩; (focus ((try dsimp only at hq); go_simp; (first | done | with_reducible rfl | fail)))) | refine held_s (i := 22) hHeld ?_ | fail
  first | (refine held_t (i := 23) hHeld ?_; apply Exists.intro; refine ⟨fun wq hq => ?_, ?_⟩; (focus ((try dsimp only at hq); go_simp; (first | done | with_reducible rfl | fail)))) | refine held_s (i := 23) hHeld ?_ | fail
  try simp only [Act.put, List.setIfInBounds_toArray, List.set_cons_zero, List.set_cons_succ]
  first | (refine held_t (i := 24) hHeld ?_; apply Exists.intro; refine ⟨fun wq hq => ?_, ?_⟩; (focus ((try dsimp only at hq); go_simp; (first | done | with_reducible rfl | fail)))) | refine held_s (i := 24) hHeld ?_ | fail
  first | (refine held_t (i := 25) hHeld ?_; apply Exists.intro; refine ⟨fun wq hq => ?_, ?_⟩; (focus ((try dsimp only at hq); go_simp; (first | done | with_reducible rfl | fail)))) | refine held_s (i := 25) hHeld ?_ | fail
  try simp only [Act.put, List.setIfInBounds_toArray, List.set_cons_zero, List.set_cons_succ]
  refine held_c 26 fun K hK => ?_
  go_simp
  (go_at_call 13; refine (atom_at _ _).mono ?_; rintro e wx ⟨rfl, h3⟩)
  refine hK.out _ _ (⟨⟨cell_later h3 hHeld.1.1, cell_later h3 hHeld.1.2.1, cell_later h3 hHeld.1.2.2.1, cell_later h3 hHeld.1.2.2.2.1, cell_later h3 hHeld.1.2.2.2.2.1, cell_later h3 hHeld.1.2.2.2.2.2⟩, Ext.trans' hHeld.2 h3⟩) (fun hHeld => ?_)
  clear hK K
  try simp only [Act.put, List.setIfInBounds_toArray, List.set_cons_zero, List.set_cons_succ]
  refine held_c 27 fun K hK => ?_
  go_simp
  (go_at_call 12; refine (HS.out _ hHeld.2).mono ?_; rintro e wx ⟨rfl, h4⟩)
  refine hK.out _ _ (⟨⟨cell_later h4 hHeld.1.1, cell_later h4 hHeld.1.2.1, cell_later h4 hHeld.1.2.2.1, cell_later h4 hHeld.1.2.2.2.1, cell_later h4 hHeld.1.2.2.2.2.1, cell_later h4 hHeld.1.2.2.2.2.2⟩, Ext.trans' hHeld.2 h4⟩) (fun hHeld => ?_)
  clear hK K
  try simp only [Act.put, List.setIfInBounds_toArray, List.set_cons_zero, List.set_cons_succ]
  first | (refine held_t (i := 28) hHeld ?_; apply Exists.intro; refine ⟨fun wq hq => ?_, ?_⟩; (focus ((try dsimp only at hq); go_simp; (first | done | with_reducible rfl | fail)))) | refine held_s (i := 28) hHeld ?_ | fail
  first | (refine held_t (i := 29) hHeld ?_; apply Exists.intro; refine ⟨fun wq hq => ?_, ?_⟩; (focus ((try dsimp only at hq); go_simp; (first | done | with_reducible rfl | fail)))) | refine held_s (i := 29) hHeld ?_ | fail
  try simp only [Act.put, List.setIfInBounds_toArray, List.set_cons_zero, List.set_cons_succ]
  first | (refine held_t (i := 30) hHeld ?_; apply Exists.intro; refine ⟨fun wq hq => ?_, ?_⟩; (focus ((try dsimp only at hq); go_simp; (first | done | with_reducible rfl | fail)))) | refine held_s (i := 30) hHeld ?_ | fail
  try simp only [Act.put, List.setIfInBounds_toArray, List.set_cons_zero, List.set_cons_succ]
  refine held_c 31 fun K hK => ?_
  go_simp
  (go_at_call 10; refine (HN.out _ hHeld.2).mono ?_; rintro e wx ⟨rfl, h5⟩)
  refine hK.out _ _ (⟨⟨cell_later h5 hHeld.1.1, cell_later h5 hHeld.1.2.1, cell_later h5 hHeld.1.2.2.1, cell_later h5 hHeld.1.2.2.2.1, cell_later h5 hHeld.1.2.2.2.2.1, cell_later h5 hHeld.1.2.2.2.2.2⟩, Ext.trans' hHeld.2 h5⟩) (fun hHeld => ?_)
  clear hK K
  try simp only [Act.put, List.setIfInBounds_toArray, List.set_cons_zero, List.set_cons_succ]
  first | (refine held_t (i := 32) hHeld ?_; apply Exists.intro; refine ⟨fun wq hq => ?_, ?_⟩; (focus ((try dsimp only at hq); go_simp; (first | done | with_reducible rfl | fail)))) | refine held_s (i := 32) hHeld ?_ | fail
  first | (refine held_t (i := 33) hHeld ?_; apply Exists.intro; refine ⟨fun wq hq => ?_, ?_⟩; (focus ((try dsimp only at hq); go_simp; (first | done | with_reducible rfl | fail)))) | refine held_s (i := 33) hHeld ?_ | fail
  try simp only [Act.put, List.setIfInBounds_toArray, List.set_cons_zero, List.set_cons_succ]
  first | (refine held_t (i := 34) hHeld ?_; apply Exists.intro; refine ⟨fun wq hq => ?_, ?_⟩; (focus ((try dsimp only at hq); go_simp; (first | done | with_reducible rfl | fail)))) | refine held_s (i := 34) hHeld ?_ | fail
  first | (refine held_t (i := 35) hHeld ?_; apply Exists.intro; refine ⟨fun wq hq => ?_, ?_⟩; (focus ((try dsimp only at hq); go_simp; (first | done | with_reducible rfl | fail)))) | refine held_s (i := 35) hHeld ?_ | fail
  try simp only [Act.put, List.setIfInBounds_toArray, List.set_cons_zero, List.set_cons_succ]
  refine held_c 36 fun K hK => ?_
  go_simp
  (go_at_call 14; refine (HU.out _ hHeld.2).mono ?_; rintro e wx ⟨rfl, h6⟩)
  refine hK.out _ _ (⟨⟨cell_later h6 hHeld.1.1, cell_later h6 hHeld.1.2.1, cell_later h6 hHeld.1.2.2.1, cell_later h6 hHeld.1.2.2.2.1, cell_later h6 hHeld.1.2.2.2.2.1, cell_later h6 hHeld.1.2.2.2.2.2⟩, Ext.trans' hHeld.2 h6⟩) (fun hHeld => ?_)
  clear hK K
  try simp only [Act.put, List.setIfInBounds_toArray, List.set_cons_zero, List.set_cons_succ]
  first | (refine held_t (i := 37) hHeld ?_; apply Exists.intro; refine ⟨fun wq hq => ?_, ?_⟩; (focus ((try dsimp only at hq); go_simp; (first | done | with_reducible rfl | fail)))) | refine held_s (i := 37) hHeld ?_ | fail
  first | (refine held_t (i := 38) hHeld ?_; apply Exists.intro; refine ⟨fun wq hq => ?_, ?_⟩; (focus ((try dsimp only at hq); go_simp; (first | done | with_reducible rfl | fail)))) | refine held_s (i := 38) hHeld ?_ | fail
  try simp only [Act.put, List.setIfInBounds_toArray, List.set_cons_zero, List.set_cons_succ]
  refine wpAnyH_done (by kernel_rfl) ?_ _
  have HEND := Lib.hid (Ext.trans' HB2.out hHeld.2)
  clear hHeld D0 F0 G1 G2 G3 G4
  go_wp2
  go_ret
  exact ⟨rfl, HEND.out⟩
end Go.Proofs.YtaojalicnnnkmaaGreatDoor
/- BodyJoins: the goals of two that are joined are the one's and the other's. The card ties the package variables of the standard library that its row lists. -/
namespace Go.Proofs.YtaojalicnnnkmaaGreatDoor
open Go.Shelf Go.RowKit
set_option linter.unusedVariables false

theorem joins14_law {w : World} {v v' : Value} {x y : Tm} (hx : TmV w x v) (hy : TmV w y v') (he : Err w) : Calls Tryz.prog 6 #[v, v'] w fun e w' => e = .returned (.bool true) ∧ Below w.heap.size w w' :=
  joins14_core (fun w1 h1 => awake14_at (he.ext h1)) hx hy
theorem ctxBJ {w : World} (h : laidMetH Tryz.prog Rows.bodyJoinsRow.laid w) : Err w := err_of (text := [118, 97, 108, 117, 101, 32, 111, 117, 116, 32, 111, 102, 32, 114, 97, 110, 103, 101]) (by kernel_rfl) (by kernel_rfl) rfl h
namespace bodyJoins
open Go.ChangeShapes Go.WideShapes Go.ChangeAt Go.RowKit
theorem own : ownKnob Tryz.prog.godebug = none := by kernel_rfl
theorem laidOut : laidOutB Tryz.prog = true := by kernel_rfl
set_option linter.unusedVariables false
set_option maxRecDepth 100000 in
theorem lifted (os : Os) (started : os.Started) (H : Type) (enc : TypeId × Value → H) :
    ReturnsInHanded {} Tryz.checked os 6 .any (fun w args => (Rows.bodyJoinsSpec.pre enc Tryz.prog Tryz.f6 [] false w args ∧ laidMetH Tryz.prog Rows.bodyJoinsRow.laid w) ∧ sizedMet enc Tryz.prog Tryz.f6 (OpenSpec.ofChange Rows.bodyJoinsSpec) false w args)
      (Rows.bodyJoinsSpec.post enc Tryz.prog Tryz.f6 false true false false) := by
  refine returnsInHanded_of_change_and (C := Tryz.checked) (X := fun w _ => laidMetH Tryz.prog Rows.bodyJoinsRow.laid w) (fun _ _ _ hh h => h.of_heap hh) own started (by kernel_rfl) Tryz.func6
    (ChangeSpec.witness_shaped (enc := enc) (C := Tryz.checked) (os := os) (X := fun w _ => laidMetH Tryz.prog Rows.bodyJoinsRow.laid w) false (World.laidAll Tryz.prog os Rows.bodyJoinsRow.laid) #[.agg #[.int .i64 0,.int .i64 0,.string ⟨#[]⟩,.slice none 0 0], .agg #[.int .i64 0,.int .i64 0,.string ⟨#[]⟩,.slice none 0 0]] 8 (World.laidAll_os _ _ _)
      (World.shaped_of_ZipB (by kernel_rfl) (by kernel_rfl)) (by kernel_rfl) (by kernel_rfl) (by kernel_rfl)
      (by rw [MakeChecks.laidMetH_plain _ _ _ (by kernel_rfl)]; exact laidMet_laidAll _ (by kernel_rfl) (by kernel_rfl))) ?_
  intro W base args ds gs before hval0 hW hcnd hsz0 hL _
  have hval : ∀ (j : Nat) t v, Tryz.f6.params[j]? = some t → args[j]? = some v → Value.okWide Tryz.prog W .any base t v := hval0
  have hW' := hW
  obtain ⟨p, q, hA0, hV, rfl, hfz, hnd⟩ := hW
  have hA : DataW.TrodAll enc Tryz.prog W 0 (fun _ => true) true Tryz.f6.params.toList args.toList ds p := hA0
  have hsz : (DataW.weightsEach Tryz.prog (Tryz.f6.params.toList ++ []) (ds ++ gs)).all (· ≤ reachBytes) = true := hsz0
  rw [Tryz.params6] at hA hval hsz
  obtain ⟨v0, vs0, d0, ds0, p0, q0, hargs, rfl, rfl, h0, r0⟩ := trodAll_cons hA
  obtain ⟨v1, vs1, d1, ds1, p1, q1, rfl, rfl, rfl, h1, r1⟩ := trodAll_cons r0
  obtain ⟨rfl, rfl, rfl⟩ := trodAll_nil r1
  obtain rfl : args = #[v0, v1] := by cases args; simp_all
  obtain ⟨rfl, rfl⟩ := trodVars_none hV
  clear hA0 hval0 hsz0
  have k0 := h0
  have lt0 := lt_of_trod h0
  have k1 := h1
  have lt1 := lt_of_trod h1
  obtain ⟨a0, w0⟩ := term_of_trod h0 (hval 0 31 v0 rfl rfl) (weights_ok hsz (j := 0) (t := 31) (d := d0) rfl rfl)
  obtain ⟨a1, w1⟩ := term_of_trod h1 (hval 1 31 v1 rfl rfl) (weights_ok hsz (j := 1) (t := 31) (d := d1) rfl rfl)
  refine (joins14_law w0 w1 (ctxBJ hL)).mono fun e W' ⟨he, bel⟩ => ?_
  subst he
  exact ⟨_, rfl, _, _, _, [], _, [], hW', trodAll_mk1 (shut_bool Tryz.underlying4 _), (trodAll_cons_mk (Below.trod laidOut (by kernel_rfl) (of_decide_eq_true (by kernel_rfl)) k0 bel lt0) (trodAll_cons_mk (Below.trod laidOut (by kernel_rfl) (of_decide_eq_true (by kernel_rfl)) k1 bel lt1) trodAll_mk0)), rfl, bel.frame _, fun h => by cases h⟩
theorem proved : Rows.BodyJoinsSaid :=
  OpenClaim.holds_of_wide 6 Tryz.f6 rfl rfl rfl rfl rfl rfl rfl ⟨rfl, rfl, rfl, rfl, rfl⟩ rfl rfl rfl rfl rfl (by kernel_rfl) Tryz.func6 (by kernel_rfl)
    (of_decide_eq_true (by kernel_rfl)) (by unfold Func.isWrapper; first | (rw [if_pos (by decide +kernel)]; kernel_rfl) | (rw [if_neg (by decide +kernel)]; exact ⟨rfl, rfl⟩))
    (fun os started H enc _ => lifted os started H enc)
theorem carded : Rows.BodyJoinsCardSaid :=
  Claim7.holds_tied_plain_at .later [] [.data, .data, .data, .sentinel, .sentinel] true (true, "33570ed6f5f17567edf92922097cefebf8e6d6f46405d756c182f11447c17dca") true
    proved (fun _ h => by cases h) (by kernel_rfl) (fun _ h => by cases h) bodyJoins_row_tie rfl ⟨rfl, rfl⟩ (by kernel_rfl) rfl
    (fun f fn hf hfn => by
      obtain rfl : f = 6 := Option.some.inj ((show Tryz.prog.funcNamed "sizar/sizarlaw14.BodyJoins" = some 6 by kernel_rfl).symm.trans hf) |>.symm
      obtain rfl : fn = Tryz.f6 := (Option.some.inj (Tryz.func6.symm.trans hfn)).symm
      exact ⟨by kernel_rfl, fun j t ht => by
        rw [Tryz.params6] at ht
        have hm : t ∈ [31, 31] := by simpa using Array.mem_of_getElem? ht
        have hall : ([31, 31].all fun u => !Tryz.prog.wantsStandIn u) = true := by kernel_rfl
        exact (show Tryz.prog.wantsStandIn t = false by simpa using List.all_eq_true.1 hall t hm)⟩)
    (by kernel_rfl)
#print axioms carded
end bodyJoins

end Go.Proofs.YtaojalicnnnkmaaGreatDoor
