/- The law's own: awake. -/
import Derived.Test.YthikbenfhaglkaaTnM
import Derived.Test.YthikbenfhaglkaaTnN
import Derived.Test.YthikbenfhaglkaaTnO
namespace Go.Proofs.Ythikbenfhaglkaa
open Go.RowKit
set_option linter.unusedVariables false

def gT : Tm := .mk 2 0 ⟨#[103]⟩ [intT 1]
def awT : Tm := .mk 2 0 ⟨#[102]⟩ [varT 3, gT]
theorem aw_size : sizeN awT = 4 := by decide
theorem aw_depth : depthN awT = 3 := by decide
theorem aw_good : goodT awT = true := by decide +kernel
theorem aw_vars : varsT awT [] = [3] := by decide +kernel
theorem oldNo (w : World) : Old noB w := fun _ _ => rfl
set_option maxHeartbeats 4000000 in
set_option maxRecDepth 100000 in
theorem tawake_at (w : World) : Calls Try.prog 7 #[] w fun e w' => e = .returned (.bool true) ∧ Below w.heap.size w w' := by
  have C1 := fun (w1 : World) (ad : Addr) (hsrc : ∀ (j : Nat) (v : Value), (([(intT 1, .slice none 0 0)] : List TmP).flatMap pCells)[j]? = some v → w1.cell? (ad.add j) = some v) => comp_q (E := noB) (w := w1) (ao := some ad) (m := 1) (c := 1) [(intT 1, .slice none 0 0)] ⟨#[103]⟩ (by unfold BIG; decide) (oldNo _) (fun p hp => by
    simp at hp
    subst hp
    exact leaf_q noB w1 i64_1 i64_1 (by unfold BIG; decide)) rfl (by unfold BIG; omega) (Or.inr ⟨ad, rfl, hsrc⟩)
  have C2 := fun (w1 : World) (u : Value) (hg : TmQ noB w1 gT (pVal (gT, u))) (ad : Addr) (hsrc : ∀ (j : Nat) (v : Value), (([(varT 3, .slice none 0 0), (gT, u)] : List TmP).flatMap pCells)[j]? = some v → w1.cell? (ad.add j) = some v) => comp_q (E := noB) (w := w1) (ao := some ad) (m := 2) (c := 2) [(varT 3, .slice none 0 0), (gT, u)] ⟨#[102]⟩ (by unfold BIG; decide) (oldNo _) (fun p hp => by
    simp at hp
    rcases hp with rfl | rfl
    · exact leaf_q noB w1 i64_0 (by unfold I64; omega) (by unfold BIG; decide)
    · exact hg) rfl (by unfold BIG; omega) (Or.inr ⟨ad, rfl, hsrc⟩)
  go_enter Try.func7, Try.ntmps7
  (go_wp2_with fail; go_fit (var_at _ _); rintro e w1 ⟨rfl, b1⟩)
  have B1 := Lib.hid b1
  clear b1
  (go_wp2_with fail; go_fit (int_at _ _); rintro e w2 ⟨rfl, b2⟩)
  have B2 := Lib.hid (Ext.trans' B1.out b2)
  clear b2 B1
  (go_wp2_with fail; go_fit (C1 _ ⟨w2.heap.size, 0, none⟩ (fun j v hv => cell_new _ _ _ j v hv)); rintro e w3 ⟨a3, c3, rfl, h3, b3⟩)
  have H3 : Hid (TmQ noB w3 gT (pVal (gT, .slice a3 1 c3))) := Lib.hid h3
  have B3 := Lib.hid (Ext.trans' B2.out (Ext.trans' (bel1' _ _) b3))
  clear h3 b3 B2 C1
  (go_wp2_with fail; go_fit (C2 _ (.slice a3 1 c3) (H3.out.later (bel1' _ _)) ⟨w3.heap.size, 0, none⟩ (fun j v hv => cell_new _ _ _ j v hv)); rintro e w4 ⟨a4, c4, rfl, h4, b4⟩)
  have H4 : Hid (TmQ noB w4 awT (.agg #[.int .i64 2, .int .i64 0, .string ⟨#[102]⟩, .slice a4 2 c4])) := Lib.hid h4
  have B4 := Lib.hid (Ext.trans' B3.out (Ext.trans' (bel1' _ _) b4))
  clear h4 b4 B3 C2 H3
  have S5 := fun w6 (hb : Below (w4.alloc (box4 2 0 ⟨#[102]⟩ (.slice a4 2 c4) 25)).heap.size (w4.alloc (box4 2 0 ⟨#[102]⟩ (.slice a4 2 c4) 25)) w6) => (H4.out.later (bel1' _ (box4 2 0 ⟨#[102]⟩ (.slice a4 2 c4) 25))).later hb
  have S := fun w6 hb => size_at _ w6 _ (S5 w6 hb).bare
  have D := fun w6 hb => Depth_at _ w6 _ (S5 w6 hb)
  have G := fun w6 hb => Good_at _ w6 _ (S5 w6 hb).bare
  have V := fun w6 hb => Vars_at _ w6 _ (S5 w6 hb).bare
  rw [aw_size] at S
  rw [aw_depth] at D
  rw [aw_good] at G V
  rw [aw_vars] at V
  rw [show min 4 2001 = 4 from rfl] at S
  rw [show min 3 65 = 3 from rfl] at D
  have S0 := S _ (Below.refl _ _)
  have HD := Lib.hid D
  have HG := Lib.hid G
  have HV := Lib.hid V
  clear S5 S D G V
  (go_wp2_with fail; go_fit (S0); rintro e w5 ⟨rfl, b5⟩)
  obtain ⟨e0, e1, e2, e3⟩ := box_cells w4 25 _ _ _ _ b5
  have D0 := HD.out _ b5
  have B5 := Lib.hid b5
  clear b5 S0
  (go_wp2_with fail; go_fit (D0); rintro e w6 ⟨rfl, b6⟩)
  have B6 := Lib.hid (Ext.trans' B5.out b6)
  clear b6 D0 B5 e0 e1 e2 e3
  obtain ⟨e0, e1, e2, e3⟩ := box_cells w4 25 _ _ _ _ B6.out
  have G0 := HG.out _ B6.out
  (go_wp2_with fail; go_fit (G0); rintro e w7 ⟨rfl, b7⟩)
  have B7 := Lib.hid (Ext.trans' B6.out b7)
  clear b7 G0 B6 e0 e1 e2 e3
  obtain ⟨e0, e1, e2, e3⟩ := box_cells w4 25 _ _ _ _ B7.out
  have V0 := HV.out _ B7.out
  (go_wp2_with fail; go_fit (V0); rintro e w8 ⟨r, rfl, hr, b8⟩)
  have B8 := Lib.hid (Ext.trans' B7.out b8)
  have HR := Lib.hid hr
  clear b8 V0 B7 e0 e1 e2 e3 hr
  have NU := nums_at (HR.out.ext (bel1' w8 (.cells #[.int .i64 3] 2))) (l' := [3]) (v' := .slice (some ⟨w8.heap.size, 0, none⟩) 1 1) ⟨_, _, rfl, by decide, by unfold maxLen; decide, Or.inr ⟨_, _, rfl, by simp, fun i x hx j u hu => by
    match i, hx with
    | 0, hx =>
      cases hx
      match j, hu with
      | 0, hu => cases hu; simp⟩⟩
  rw [if_pos trivial, show (([3] : List Int) == [3]) = true from rfl] at NU
  (go_wp2_with fail; go_fit (NU); rintro e w9 ⟨rfl, b9⟩)
  have B9 := Lib.hid (Ext.trans' B4.out (Ext.trans' (bel1' _ _) (Ext.trans' B8.out (Ext.trans' (bel1' _ _) b9))))
  clear b9
  go_wp2
  go_ret
  exact ⟨rfl, B9.out⟩
end Go.Proofs.Ythikbenfhaglkaa
