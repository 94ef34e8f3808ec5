import Derived.Test.YtbbbgijlbcmpbaaHpfae
import Derived.Test.YtbbbgijlbcmpbaaRows
set_option linter.unusedVariables false
set_option linter.unusedSimpArgs false
/- Stage 13's laws: AliasKnown. (gen_aliasknown.py) -/
namespace Go.Proofs.Ytbbbgijlbcmpbaa
open Go.RowKit
set_option linter.unusedVariables false

set_option maxHeartbeats 16000000 in
set_option maxRecDepth 100000 in
theorem known_walk (W : World) : Calls Try.prog 9 #[] W fun e w' => IsBool W true e w' := by
  go_enter Try.func9, Try.ntmps9
  (go_wp2_with fail; go_fit (aawake_at _); rintro e w1 ⟨rfl, b1⟩)
  have HW := Lib.hid b1
  clear b1
  (go_wp2_with fail; go_fit (var_at _ 5); rintro e v1 ⟨rfl, b1⟩)
  (go_wp2_with fail; go_fit (var_at _ 6); rintro e v2 ⟨rfl, b2⟩)
  have HB := Lib.hid (Ext.trans' b1 b2)
  have C := comp_pair (w := v2) ⟨#[102]⟩ (big_1 _) (var_rd v2 5 (i64s _ (by omega))) (var_rd v2 6 (i64s _ (by omega)))
  clear b1 b2
  (go_wp2_with fail; go_fit (C); rintro e w2 ⟨ax, cx, rfl, ht, b⟩)
  have HB := Lib.hid (Ext.trans' HB.out b)
  clear b C
  obtain ⟨w3, e3, b3, z3, x3⟩ := box_new w2 #[.int .i64 2, .int .i64 0, .string ⟨#[102]⟩, .slice ax 2 cx] 31
  have HX := Lib.hid (And.intro x3 (show TmV w3 kX _ from TmV.ext b3 _ _ ht))
  have HW := Lib.hid (Ext.trans' HW.out (Ext.trans' HB.out b3))
  have HE := Lib.hid e3
  obtain ⟨g1, hg1⟩ : ∃ b, w2.heap.size = b := ⟨_, rfl⟩
  have HEB := Lib.hid hg1
  rw [hg1] at HX
  clear b3 z3 x3 e3 ht HB hg1
  go_upto_region 4 with fail
  (try rw [HE.out])
  (try rw [HEB.out])
  clear HE HEB
  obtain ⟨x0, x1, x2, x3, _⟩ := HX.out.1.four
  have C := pFrom_at kX 10 (by unfold I64; omega) w3 _ HX.out.2
  unfold FromP at C
  rw [kn1] at C
  (go_wp2_with fail; go_fit (C); rintro e w4a ⟨r, rfl, ht, b1⟩)
  obtain ⟨kw4, nw4, sw4, aw4, mw4, cw4, rfl, f1, f2, f3, f4⟩ := four_of ht
  obtain ⟨w4, e3, b3, z3, x3'⟩ := box_new w4a #[.int .i64 kw4, .int .i64 nw4, .string sw4, .slice aw4 mw4 cw4] 31
  have HB := Lib.hid (Ext.trans' b1 b3)
  have HW := Lib.hid (Ext.trans' HW.out HB.out)
  have HX := Lib.hid (And.intro (HX.out.1.ext HB.out) (TmV.ext HB.out _ _ HX.out.2))
  have HA := Lib.hid (And.intro x3' (TmV.ext b3 _ _ ht.bare))
  have HE := Lib.hid e3
  obtain ⟨gw4, hg⟩ : ∃ b, w4a.heap.size = b := ⟨_, rfl⟩
  have HEB := Lib.hid hg
  rw [hg] at HA
  clear f1 f2 f3 f4 ht b1 b3 z3 x3' e3 C HB hg x0 x1 x2 x3
  go_upto_region 5 with fail
  (try rw [HE.out])
  (try rw [HEB.out])
  clear HE HEB
  obtain ⟨x0, x1, x2, x3, _⟩ := HX.out.1.four
  have C := pFrom_at kX 2147483647 (by unfold I64; omega) w4 _ HX.out.2
  unfold FromP at C
  rw [kn2] at C
  (go_wp2_with fail; go_fit (C); rintro e w5a ⟨r, rfl, ht, b1⟩)
  obtain ⟨kw5, nw5, sw5, aw5, mw5, cw5, rfl, f1, f2, f3, f4⟩ := four_of ht
  obtain ⟨w5, e3, b3, z3, x3'⟩ := box_new w5a #[.int .i64 kw5, .int .i64 nw5, .string sw5, .slice aw5 mw5 cw5] 31
  have HB := Lib.hid (Ext.trans' b1 b3)
  have HW := Lib.hid (Ext.trans' HW.out HB.out)
  have HX := Lib.hid (And.intro (HX.out.1.ext HB.out) (TmV.ext HB.out _ _ HX.out.2))
  have HA := Lib.hid (And.intro (HA.out.1.ext HB.out) (TmV.ext HB.out _ _ HA.out.2))
  have HE := Lib.hid e3
  obtain ⟨gw5, hg⟩ : ∃ b, w5a.heap.size = b := ⟨_, rfl⟩
  have HEB := Lib.hid hg
  clear f1 f2 f3 f4 ht b1 b3 z3 x3' e3 C HB hg x0 x1 x2 x3
  go_upto_region 6 with fail
  (try rw [HE.out])
  (try rw [HEB.out])
  clear HE HEB
  obtain ⟨x0, x1, x2, x3, _⟩ := HX.out.1.four
  have C := pFrom_at kX (-1) (by unfold I64; omega) w5 _ HX.out.2
  unfold FromP at C
  rw [kn3] at C
  (go_wp2_with fail; go_fit (C); rintro e w6a ⟨r, rfl, ht, b1⟩)
  obtain ⟨kw6, nw6, sw6, aw6, mw6, cw6, rfl, f1, f2, f3, f4⟩ := four_of ht
  obtain ⟨w6, e3, b3, z3, x3'⟩ := box_new w6a #[.int .i64 kw6, .int .i64 nw6, .string sw6, .slice aw6 mw6 cw6] 31
  have HB := Lib.hid (Ext.trans' b1 b3)
  have HW := Lib.hid (Ext.trans' HW.out HB.out)
  have HX := Lib.hid (And.intro (HX.out.1.ext HB.out) (TmV.ext HB.out _ _ HX.out.2))
  have HA := Lib.hid (And.intro (HA.out.1.ext HB.out) (TmV.ext HB.out _ _ HA.out.2))
  have HE := Lib.hid e3
  obtain ⟨gw6, hg⟩ : ∃ b, w6a.heap.size = b := ⟨_, rfl⟩
  have HEB := Lib.hid hg
  clear f1 f2 f3 f4 ht b1 b3 z3 x3' e3 C HB hg x0 x1 x2 x3
  go_upto_region 7 with fail
  (try rw [HE.out])
  (try rw [HEB.out])
  clear HE HEB
  have C := pFrom_at tm8 0 (by unfold I64; omega) w6 _ (eight_rd _)
  unfold FromP at C
  rw [kn4] at C
  (go_wp2_with fail; go_fit (C); rintro e w7a ⟨r, rfl, ht, b1⟩)
  obtain ⟨kw7, nw7, sw7, aw7, mw7, cw7, rfl, f1, f2, f3, f4⟩ := four_of ht
  obtain ⟨w7, e3, b3, z3, x3'⟩ := box_new w7a #[.int .i64 kw7, .int .i64 nw7, .string sw7, .slice aw7 mw7 cw7] 31
  have HB := Lib.hid (Ext.trans' b1 b3)
  have HW := Lib.hid (Ext.trans' HW.out HB.out)
  have HX := Lib.hid (And.intro (HX.out.1.ext HB.out) (TmV.ext HB.out _ _ HX.out.2))
  have HA := Lib.hid (And.intro (HA.out.1.ext HB.out) (TmV.ext HB.out _ _ HA.out.2))
  have HE := Lib.hid e3
  obtain ⟨gw7, hg⟩ : ∃ b, w7a.heap.size = b := ⟨_, rfl⟩
  have HEB := Lib.hid hg
  clear f1 f2 f3 f4 ht b1 b3 z3 x3' e3 C HB hg
  go_upto_region 8 with fail
  (try rw [HE.out])
  (try rw [HEB.out])
  clear HE HEB
  obtain ⟨x0, x1, x2, x3, _⟩ := HX.out.1.four
  have C := pFrom_at kX 2147483646 (by unfold I64; omega) w7 _ HX.out.2
  unfold FromP at C
  rw [kn5] at C
  (go_wp2_with fail; go_fit (C); rintro e w8a ⟨r, rfl, ht, b1⟩)
  obtain ⟨kw8, nw8, sw8, aw8, mw8, cw8, rfl, f1, f2, f3, f4⟩ := four_of ht
  obtain ⟨w8, e3, b3, z3, x3'⟩ := box_new w8a #[.int .i64 kw8, .int .i64 nw8, .string sw8, .slice aw8 mw8 cw8] 31
  have HB := Lib.hid (Ext.trans' b1 b3)
  have HW := Lib.hid (Ext.trans' HW.out HB.out)
  have HX := Lib.hid (And.intro (HX.out.1.ext HB.out) (TmV.ext HB.out _ _ HX.out.2))
  have HA := Lib.hid (And.intro (HA.out.1.ext HB.out) (TmV.ext HB.out _ _ HA.out.2))
  have HE := Lib.hid e3
  obtain ⟨gw8, hg⟩ : ∃ b, w8a.heap.size = b := ⟨_, rfl⟩
  have HEB := Lib.hid hg
  clear f1 f2 f3 f4 ht b1 b3 z3 x3' e3 C HB hg x0 x1 x2 x3
  go_upto_region 9 with fail
  (try rw [HE.out])
  (try rw [HEB.out])
  clear HE HEB
  (go_wp2_with fail; go_fit (int_at _ 1); rintro e v1 ⟨rfl, b1⟩)
  (go_wp2_with fail; go_fit (var_at _ 5); rintro e v2 ⟨rfl, b2⟩)
  have HB := Lib.hid (Ext.trans' b1 b2)
  have C := comp_one (w0 := w8) HB.out ⟨#[103]⟩ ⟨#[]⟩ (big_1 _) (k := 0) (n := 5) i64_0 (i64s _ (by omega)) big_0
  clear b1 b2
  (go_wp2_with fail; go_fit (C); rintro e v3 ⟨a', c', rfl, ht, b⟩)
  have HT := Lib.hid (show TmV v3 kG _ from ht.bare)
  have HB := Lib.hid b
  clear b C ht
  have C := comp_pair (w := v3) ⟨#[102]⟩ (big_1 _) (int_rd v3 1 i64_1) HT.out
  (go_wp2_with fail; go_fit (C); rintro e v4 ⟨ay, cy, rfl, ht, b⟩)
  have HB := Lib.hid (Ext.trans' HB.out b)
  clear b C HT
  obtain ⟨w9, e3, b3, z3, x3⟩ := box_new v4 #[.int .i64 2, .int .i64 0, .string ⟨#[102]⟩, .slice ay 2 cy] 31
  have HY := Lib.hid (And.intro x3 (show TmV w9 kY _ from TmV.ext b3 _ _ ht))
  have HB := Lib.hid (Ext.trans' HB.out b3)
  have HW := Lib.hid (Ext.trans' HW.out HB.out)
  have HX := Lib.hid (And.intro (HX.out.1.ext HB.out) (TmV.ext HB.out _ _ HX.out.2))
  have HA := Lib.hid (And.intro (HA.out.1.ext HB.out) (TmV.ext HB.out _ _ HA.out.2))
  have HE := Lib.hid e3
  obtain ⟨g17, hg⟩ : ∃ b, v4.heap.size = b := ⟨_, rfl⟩
  have HEB := Lib.hid hg
  rw [hg] at HY
  clear b3 z3 x3 e3 ht HB hg
  go_upto_region 10 with fail
  (try rw [HE.out])
  (try rw [HEB.out])
  clear HE HEB
  (go_wp2_with fail; go_fit (var_at _ 1); rintro e v1 ⟨rfl, b1⟩)
  (go_wp2_with fail; go_fit (var_at _ 1); rintro e v2 ⟨rfl, b2⟩)
  have HB := Lib.hid (Ext.trans' b1 b2)
  have C := comp_pair (w := v2) ⟨#[102]⟩ (big_1 _) (var_rd v2 1 (i64s _ (by omega))) (var_rd v2 1 (i64s _ (by omega)))
  clear b1 b2
  (go_wp2_with fail; go_fit (C); rintro e w10 ⟨az, cz, rfl, ht, b⟩)
  have HB := Lib.hid (Ext.trans' HB.out b)
  clear b C
  obtain ⟨w11, e3, b3, z3, x3⟩ := box_new w10 #[.int .i64 2, .int .i64 0, .string ⟨#[102]⟩, .slice az 2 cz] 31
  have HZ := Lib.hid (And.intro x3 (show TmV w11 kZ _ from TmV.ext b3 _ _ ht))
  have HB := Lib.hid (Ext.trans' HB.out b3)
  have HW := Lib.hid (Ext.trans' HW.out HB.out)
  have HX := Lib.hid (And.intro (HX.out.1.ext HB.out) (TmV.ext HB.out _ _ HX.out.2))
  have HA := Lib.hid (And.intro (HA.out.1.ext HB.out) (TmV.ext HB.out _ _ HA.out.2))
  have HY := Lib.hid (And.intro (HY.out.1.ext HB.out) (TmV.ext HB.out _ _ HY.out.2))
  have HE := Lib.hid e3
  obtain ⟨g18, hg⟩ : ∃ b, w10.heap.size = b := ⟨_, rfl⟩
  have HEB := Lib.hid hg
  rw [hg] at HZ
  clear b3 z3 x3 e3 ht HB hg
  go_upto_region 11 with fail
  (try rw [HE.out])
  (try rw [HEB.out])
  clear HE HEB
  refine last_regionA HX.out.2 HA.out.2 HY.out.2 HZ.out.2 ⟨HX.out.1, HA.out.1, HY.out.1, HZ.out.1⟩ ?_
  intros
  rename_i wE hE
  go_wp2
  go_ret
  exact ⟨rfl, HW.out.trans (hE.mono HW.out.size)⟩
end Go.Proofs.Ytbbbgijlbcmpbaa
/- AliasKnown: what chapter 13 says of ends, of what says more: the law answers true. No condition. -/
namespace Go.Proofs.Ytbbbgijlbcmpbaa
open Go.RowKit
namespace aliasKnown
open Go.ChangeShapes Go.WideShapes Go.ChangeAt Go.RowKit
theorem own : ownKnob Try.prog.godebug = none := by kernel_rfl
set_option linter.unusedVariables false
set_option maxRecDepth 100000 in
theorem lifted (os : Os) (started : os.Started) (H : Type) (enc : TypeId × Value → H) :
    ReturnsInHanded {} Try.checked os 9 .any (Rows.aliasKnownSpec.pre6 enc Try.prog Try.f9 Rows.aliasKnownRow.domain false) (Rows.aliasKnownSpec.post enc Try.prog Try.f9 false true false false) := by
  refine returnsInHanded_of_change_sized (C := Try.checked) own started (by kernel_rfl) Try.func9
    (ChangeSpec.witness6 (enc := enc) (C := Try.checked) false ⟨#[], #[], []⟩ 8 (by kernel_rfl) (by kernel_rfl) (by kernel_rfl) (by kernel_rfl)) ?_
  intro W base args ds gs before hval0 hW hcnd hsz0 _
  have hval : ∀ (j : Nat) t v, Try.f9.params[j]? = some t → args[j]? = some v → Value.okWide Try.prog W .any base t v := hval0
  have hW' := hW
  obtain ⟨p, q, hA0, hV, rfl, hfz, hnd⟩ := hW
  have hA : DataW.TrodAll enc Try.prog W 0 (fun _ => true) true Try.f9.params.toList args.toList ds p := hA0
  have hsz : (DataW.weightsEach Try.prog (Try.f9.params.toList ++ []) (ds ++ gs)).all (· ≤ reachBytes) = true := hsz0
  rw [Try.params9] at hA hval hsz
  obtain ⟨rfl, rfl, rfl⟩ := trodAll_none hA
  obtain ⟨rfl, rfl⟩ := trodVars_none hV
  clear hA0 hval0 hsz0


  refine (known_walk W ).mono fun e W' ⟨he, bel⟩ => ?_
  subst he
  exact ⟨_, rfl, _, _, _, [], _, [], hW', trodAll_mk1 (shut_bool Try.underlying4 _), rfl, rfl, bel.frame _, fun h => by cases h⟩
theorem proved : Rows.AliasKnownSaid :=
  OpenClaim.holds_of_wide 9 Try.f9 rfl rfl rfl rfl rfl rfl rfl ⟨rfl, rfl, rfl, rfl, rfl⟩ rfl rfl rfl rfl rfl (by kernel_rfl) Try.func9 (by kernel_rfl)
    (of_decide_eq_true (by kernel_rfl)) (by unfold Func.isWrapper; first | (rw [if_pos (by decide +kernel)]; kernel_rfl) | (rw [if_neg (by decide +kernel)]; exact ⟨rfl, rfl⟩))
    (fun os started H enc _ => lifted os started H enc)
#print axioms proved
end aliasKnown

end Go.Proofs.Ytbbbgijlbcmpbaa
