import Derived.Test.YtaojalicnnnkmaaGreatDoorHyyat
import Derived.Deep.RegionHeld3
import Derived.Deep.Quiet
import Derived.Test.YtaojalicnnnkmaaGreatDoorHyyag
set_option linter.unusedVariables false
set_option linter.unusedSimpArgs false
/- BodyKnown's last region, over a frame of letters. (gen_kk2.py) -/
namespace Go.Proofs.YtaojalicnnnkmaaGreatDoor
open Go.Shelf Go.RowKit
set_option linter.unusedVariables false

def findReg (n : Nat) : Code → Option Code
  | .region id ops d => if id = n then some (.region id ops d) else none
  | .seq a b => match findReg n a with
    | some c => some c
    | none => findReg n b
  | .block _ c => findReg n c
  | .scope c => findReg n c
  | .loop c => findReg n c
  | .cond _ a b => match findReg n a with
    | some c => some c
    | none => findReg n b
  | _ => none
noncomputable def klReg : Code := (Tryz.f3.body.bind (findReg 30)).getD .skip
theorem true_leaf (w : World) (s : ByteArray) (hs : s.size ≤ BIG) : TmV w (nameT s []) (.agg #[.int .i64 2, .int .i64 0, .string s, .slice none 0 0]) := leaf_tm _ (i64_of 2 (by omega) (by omega)) i64_0 hs
set_option maxHeartbeats 40000000 in
set_option maxRecDepth 100000 in
theorem kl_region {K0 : Act → World → Prop} {R0 : Ending → World → Prop} {we : World} {g14 g15 g17 g18 m14 c14 m17 c17 m18 c18 : Nat} {k14 n14 k17 n17 k18 n18 : Int} {s14 s15 s17 s18 : ByteArray} {a14 a17 a18 : Option Addr} {v24 v26 v28 : Value}
    {y0 y1 y2 y3 y4 y5 y6 y7 y8 y9 y10 y11 y12 y13 y20 y22 y25 y27 y29 y30 y31 y32 y33 y34 y35 y36 y37 y38 y39 y40 y41 y42 y43 y44 y45 y46 y47 y48 y49 y50 y51 y52 y53 y54 y55 y56 y57 y58 y59 y60 y61 y62 y63 y64 y65 y66 y67 y68 y69 y70 y71 y72 y73 y74 y75 y76 y77 y78 y79 y80 y81 y82 y83 y84 y85 y86 y87 y88 y89 y90 y91 y92 y93 y94 y95 y96 y97 y98 y99 y100 y101 y102 y103 y104 y105 y106 y107 y108 y109 y110 y111 y112 y113 y114 y115 y116 y117 y118 y119 y120 y121 y122 y123 y124 y125 y126 y127 y128 y129 y130 y131 y132 y133 y134 y135 y136 y137 y138 y139 y140 y141 y142 y143 y144 y145 y146 y147 y148 y149 y150 y151 y152 y153 y154 y155 y156 y157 y158 y159 y160 y161 y162 y163 y164 y165 y166 y167 y168 y169 y170 y171 y172 y173 y174 y175 y176 y177 y178 y179 y180 y181 y182 y183 y184 y185 y186 y187 y188 : Value}
    (hH : TmV we kh (.agg #[.int .i64 k14, .int .i64 n14, .string s14, .slice a14 m14 c14])) (hF : TmV we kf (.agg #[.int .i64 k17, .int .i64 n17, .string s17, .slice a17 m17 c17])) (hG : TmV we kg (.agg #[.int .i64 k18, .int .i64 n18, .string s18, .slice a18 m18 c18])) (hA : GoalsK we ka v24) (hB : GoalsK we kb v26) (hC : GoalsK we kc v28) (hER : ∀ wq, Below we.heap.size we wq → Err wq) (h15 : (s15.toList == [44]) = true)
    (hc : we.cell? ⟨g14, 0, none⟩ = some (.int .i64 k14) ∧ we.cell? ⟨g14, 1, none⟩ = some (.int .i64 n14) ∧ we.cell? ⟨g14, 2, none⟩ = some (.string s14) ∧ we.cell? ⟨g14, 3, none⟩ = some (.slice a14 m14 c14) ∧ we.cell? ⟨g15, 2, none⟩ = some (.string s15) ∧ we.cell? ⟨g17, 0, none⟩ = some (.int .i64 k17) ∧ we.cell? ⟨g17, 1, none⟩ = some (.int .i64 n17) ∧ we.cell? ⟨g17, 2, none⟩ = some (.string s17) ∧ we.cell? ⟨g17, 3, none⟩ = some (.slice a17 m17 c17) ∧ we.cell? ⟨g18, 0, none⟩ = some (.int .i64 k18) ∧ we.cell? ⟨g18, 1, none⟩ = some (.int .i64 n18) ∧ we.cell? ⟨g18, 2, none⟩ = some (.string s18) ∧ we.cell? ⟨g18, 3, none⟩ = some (.slice a18 m18 c18))
    (hQ : ∀ (x137 x138 x139 x140 x141 x142 x143 x144 x145 x146 x147 x148 x149 x150 x151 x152 x153 x154 x155 x156 x157 x158 x159 x160 x161 x162 x163 x164 x165 x166 x167 x168 x169 x170 x171 x172 x173 x174 x175 x176 x177 x178 x179 x180 x181 x182 x183 x184 x185 x186 x187 x188 : Value) (w' : World), Below we.heap.size we w' → K0 ⟨#[.bool true, y1, y2, y3, y4, y5, y6, y7, y8, y9, y10, y11, y12, y13, .pointer (some ⟨g14, 0, none⟩), .pointer (some ⟨g15, 0, none⟩), .int .i64 0, .pointer (some ⟨g17, 0, none⟩), .pointer (some ⟨g18, 0, none⟩), .int .i64 0, y20, .int .i64 5, y22, .int .i64 1, v24, y25, v26, y27, v28, y29, y30, y31, y32, y33, y34, y35, y36, y37, y38, y39, y40, y41, y42, y43, y44, y45, y46, y47, y48, y49, y50, y51, y52, y53, y54, y55, y56, y57, y58, y59, y60, y61, y62, y63, y64, y65, y66, y67, y68, y69, y70, y71, y72, y73, y74, y75, y76, y77, y78, y79, y80, y81, y82, y83, y84, y85, y86, y87, y88, y89, y90, y91, y92, y93, y94, y95, y96, y97, y98, y99, y100, y101, y102, y103, y104, y105, y106, y107, y108, y109, y110, y111, y112, y113, y114, y115, y116, y117, y118, y119, y120, y121, y122, y123, y124, y125, y126, y127, y128, y129, y130, y131, y132, y133, y134, y135, y136, x137, x138, x139, x140, x141, x142, x143, x144, x145, x146, x147, x148, x149, x150, x151, x152, x153, x154, x155, x156, x157, x158, x159, x160, x161, x162, x163, x164, x165, x166, x167, x168, x169, x170, x171, x172, x173, x174, x175, x176, x177, x178, x179, x180, x181, x182, x183, x184, x185, x186, x187, x188], []⟩ w') :
    Code.wp Tryz.prog klReg (Exit.then K0 (bodyPost Tryz.prog Tryz.f3 R0)) ⟨#[y0, y1, y2, y3, y4, y5, y6, y7, y8, y9, y10, y11, y12, y13, .pointer (some ⟨g14, 0, none⟩), .pointer (some ⟨g15, 0, none⟩), .int .i64 0, .pointer (some ⟨g17, 0, none⟩), .pointer (some ⟨g18, 0, none⟩), .int .i64 0, y20, .int .i64 5, y22, .int .i64 1, v24, y25, v26, y27, v28, y29, y30, y31, y32, y33, y34, y35, y36, y37, y38, y39, y40, y41, y42, y43, y44, y45, y46, y47, y48, y49, y50, y51, y52, y53, y54, y55, y56, y57, y58, y59, y60, y61, y62, y63, y64, y65, y66, y67, y68, y69, y70, y71, y72, y73, y74, y75, y76, y77, y78, y79, y80, y81, y82, y83, y84, y85, y86, y87, y88, y89, y90, y91, y92, y93, y94, y95, y96, y97, y98, y99, y100, y101, y102, y103, y104, y105, y106, y107, y108, y109, y110, y111, y112, y113, y114, y115, y116, y117, y118, y119, y120, y121, y122, y123, y124, y125, y126, y127, y128, y129, y130, y131, y132, y133, y134, y135, y136, y137, y138, y139, y140, y141, y142, y143, y144, y145, y146, y147, y148, y149, y150, y151, y152, y153, y154, y155, y156, y157, y158, y159, y160, y161, y162, y163, y164, y165, y166, y167, y168, y169, y170, y171, y172, y173, y174, y175, y176, y177, y178, y179, y180, y181, y182, y183, y184, y185, y186, y187, y188], []⟩ we := by
  obtain ⟨z0, z1, z2, z3, z4, z5, z6, z7, z8, z9, z10, z11, z12⟩ := hc
  have HER := Lib.hid hER
  have HQ := Lib.hid hQ
  have HS1 := Lib.hid (fun (wq : World) (v : Value) (hq : Below we.heap.size we wq) (hv : TmV wq (rdT ks7) v) => Same_at (TmV.ext hq _ _ hH) hv)
  have HS2 := Lib.hid (fun (wq : World) (hq : Below we.heap.size we wq) => Same_at (TmV.ext hq _ _ hF) (true_leaf wq ⟨#[112]⟩ (by unfold BIG; decide)))
  have HS3 := Lib.hid (fun (wq : World) (hq : Below we.heap.size we wq) => Same_at (TmV.ext hq _ _ hG) (true_leaf wq trueS (by unfold BIG; decide)))
  have HS4 := Lib.hid (fun (wq : World) => Same_at (true_leaf wq trueS (by unfold BIG; decide)) (true_leaf wq trueS (by unfold BIG; decide)))
  rw [k1_same] at HS1
  rw [k2_same] at HS2
  rw [k2_true] at HS3
  rw [kt_same] at HS4
  have HU1 := Lib.hid (fun (wq : World) (hq : Below we.heap.size we wq) => Cuts_at ka wq v24 (hA.keep (keeps_bare hq)))
  have HU2 := Lib.hid (fun (wq : World) (hq : Below we.heap.size we wq) => Cuts_at kb wq v26 (hB.keep (keeps_bare hq)))
  have HU3 := Lib.hid (fun (wq : World) (hq : Below we.heap.size we wq) => Cuts_at kc wq v28 (hC.keep (keeps_bare hq)))
  rw [ka_cut] at HU1
  rw [kb_cut] at HU2
  rw [kc_cut] at HU3
  clear hH hF hG hA hB hC hER hQ
  conv => arg 2; whnf
  simp only [List.append_eq, List.cons_append, List.nil_append]
  refine wp_region_held_drew (S := fun w' => (w'.cell? ⟨g14, 0, none⟩ = some (.int .i64 k14) ∧ w'.cell? ⟨g14, 1, none⟩ = some (.int .i64 n14) ∧ w'.cell? ⟨g14, 2, none⟩ = some (.string s14) ∧ w'.cell? ⟨g14, 3, none⟩ = some (.slice a14 m14 c14) ∧ w'.cell? ⟨g15, 2, none⟩ = some (.string s15) ∧ w'.cell? ⟨g17, 0, none⟩ = some (.int .i64 k17) ∧ w'.cell? ⟨g17, 1, none⟩ = some (.int .i64 n17) ∧ w'.cell? ⟨g17, 2, none⟩ = some (.string s17) ∧ w'.cell? ⟨g17, 3, none⟩ = some (.slice a17 m17 c17) ∧ w'.cell? ⟨g18, 0, none⟩ = some (.int .i64 k18) ∧ w'.cell? ⟨g18, 1, none⟩ = some (.int .i64 n18) ∧ w'.cell? ⟨g18, 2, none⟩ = some (.string s18) ∧ w'.cell? ⟨g18, 3, none⟩ = some (.slice a18 m18 c18)) ∧ Below we.heap.size we w') (by kernel_rfl) ⟨⟨z0, z1, z2, z3, z4, z5, z6, z7, z8, z9, z10, z11, z12⟩, (Below.refl _ _).drew⟩ (fun hHeld => ?_)
  first | (refine held_t (i := 0) hHeld ?_; apply Exists.intro; refine ⟨fun wq hq => ?_, ?_⟩; (focus ((try dsimp only at hq); go_simp; (first | done | with_reducible rfl | fail)))) | refine held_s (i := 0) hHeld ?_ | fail
  first | (refine held_t (i := 1) hHeld ?_; apply Exists.intro; refine ⟨fun wq hq => ?_, ?_⟩; (focus ((try dsimp only at hq); go_simp; (first | done | with_reducible rfl | fail)))) | refine held_s (i := 1) hHeld ?_ | fail
  try simp only [Act.put, List.setIfInBounds_toArray, List.set_cons_zero, List.set_cons_succ]
  first | (refine held_t (i := 2) hHeld ?_; apply Exists.intro; refine ⟨fun wq hq => ?_, ?_⟩; (focus ((try dsimp only at hq); go_simp; (first | done | with_reducible rfl | fail)))) | refine held_s (i := 2) hHeld ?_ | fail
  first | (refine held_t (i := 3) hHeld ?_; apply Exists.intro; refine ⟨fun wq hq => ?_, ?_⟩; (focus ((try dsimp only at hq); go_simp; (first | done | with_reducible rfl | fail)))) | refine held_s (i := 3) hHeld ?_ | fail
  try simp only [Act.put, List.setIfInBounds_toArray, List.set_cons_zero, List.set_cons_succ]
  refine held_c 4 fun K hK => ?_
  go_simp
  (go_at_call 9; refine (say_ok (s := ks7) (by decide) ks7_ok (HER.out _ hHeld.2)).mono ?_; rintro e wx4 ⟨v7, rfl, hv7, h4⟩; have HV7 := Lib.hid hv7; clear hv7)
  refine hK.out _ _ (⟨⟨cell_later h4 hHeld.1.1, cell_later h4 hHeld.1.2.1, cell_later h4 hHeld.1.2.2.1, cell_later h4 hHeld.1.2.2.2.1, cell_later h4 hHeld.1.2.2.2.2.1, cell_later h4 hHeld.1.2.2.2.2.2.1, cell_later h4 hHeld.1.2.2.2.2.2.2.1, cell_later h4 hHeld.1.2.2.2.2.2.2.2.1, cell_later h4 hHeld.1.2.2.2.2.2.2.2.2.1, cell_later h4 hHeld.1.2.2.2.2.2.2.2.2.2.1, cell_later h4 hHeld.1.2.2.2.2.2.2.2.2.2.2.1, cell_later h4 hHeld.1.2.2.2.2.2.2.2.2.2.2.2.1, cell_later h4 hHeld.1.2.2.2.2.2.2.2.2.2.2.2.2⟩, Ext.trans' hHeld.2 h4⟩) (fun hHeld => ?_)
  clear hK K
  try simp only [Act.put, List.setIfInBounds_toArray, List.set_cons_zero, List.set_cons_succ]
  refine held_c 5 fun K hK => ?_
  go_simp
  (go_at_call 12; refine (HS1.out _ v7 hHeld.2 HV7.out).mono ?_; rintro e wx5 ⟨rfl, h5⟩)
  refine hK.out _ _ (⟨⟨cell_later h5 hHeld.1.1, cell_later h5 hHeld.1.2.1, cell_later h5 hHeld.1.2.2.1, cell_later h5 hHeld.1.2.2.2.1, cell_later h5 hHeld.1.2.2.2.2.1, cell_later h5 hHeld.1.2.2.2.2.2.1, cell_later h5 hHeld.1.2.2.2.2.2.2.1, cell_later h5 hHeld.1.2.2.2.2.2.2.2.1, cell_later h5 hHeld.1.2.2.2.2.2.2.2.2.1, cell_later h5 hHeld.1.2.2.2.2.2.2.2.2.2.1, cell_later h5 hHeld.1.2.2.2.2.2.2.2.2.2.2.1, cell_later h5 hHeld.1.2.2.2.2.2.2.2.2.2.2.2.1, cell_later h5 hHeld.1.2.2.2.2.2.2.2.2.2.2.2.2⟩, Ext.trans' hHeld.2 h5⟩) (fun hHeld => ?_)
  clear hK K
  try simp only [Act.put, List.setIfInBounds_toArray, List.set_cons_zero, List.set_cons_succ]
  first | (refine held_t (i := 6) hHeld ?_; apply Exists.intro; refine ⟨fun wq hq => ?_, ?_⟩; (focus ((try dsimp only at hq); go_simp; (first | done | with_reducible rfl | fail)))) | refine held_s (i := 6) hHeld ?_ | fail
  first | (refine held_t (i := 7) hHeld ?_; apply Exists.intro; refine ⟨fun wq hq => ?_, ?_⟩; (focus ((try dsimp only at hq); go_simp; (first | done | with_reducible rfl | fail)))) | refine held_s (i := 7) hHeld ?_ | fail
  try simp only [Act.put, List.setIfInBounds_toArray, List.set_cons_zero, List.set_cons_succ]
  first | (refine held_t (i := 8) hHeld ?_; apply Exists.intro; refine ⟨fun wq hq => ?_, ?_⟩; (focus ((try dsimp only at hq); go_simp; (first | done | with_reducible rfl | fail)))) | refine held_s (i := 8) hHeld ?_ | fail
  first | (refine held_t (i := 9) hHeld ?_; apply Exists.intro; refine ⟨fun wq hq => ?_, ?_⟩; (focus ((try dsimp only at hq); go_simp; (first | done | with_reducible rfl | fail)))) | refine held_s (i := 9) hHeld ?_ | fail
  try simp only [Act.put, List.setIfInBounds_toArray, List.set_cons_zero, List.set_cons_succ]
  first | (refine held_t (i := 10) hHeld ?_; apply Exists.intro; refine ⟨fun wq hq => ?_, ?_⟩; (focus ((try dsimp only at hq); go_simp; (first | done | with_reducible rfl | fail)))) | refine held_s (i := 10) hHeld ?_ | fail
  first | (refine held_t (i := 11) hHeld ?_; apply Exists.intro; refine ⟨fun wq hq => ?_, ?_⟩; (focus ((try dsimp only at hq); go_simp; (first | done | with_reducible rfl | fail)))) | refine held_s (i := 11) hHeld ?_ | fail
  try simp only [Act.put, List.setIfInBounds_toArray, List.set_cons_zero, List.set_cons_succ]
  first | (refine held_t (i := 12) hHeld ?_; apply Exists.intro; refine ⟨fun wq hq => ?_, ?_⟩; (focus ((try dsimp only at hq); go_simp; (first | done | with_reducible rfl | fail)))) | refine held_s (i := 12) hHeld ?_ | fail
  first | (refine held_t (i := 13) hHeld ?_; apply Exists.intro; refine ⟨fun wq hq => ?_, ?_⟩; (focus ((try dsimp only at hq); go_simp; (first | done | with_reducible rfl | fail)))) | refine held_s (i := 13) hHeld ?_ | fail
  try simp only [Act.put, List.setIfInBounds_toArray, List.set_cons_zero, List.set_cons_succ]
  first | (refine held_t (i := 14) hHeld ?_; apply Exists.intro; refine ⟨fun wq hq => ?_, ?_⟩; (focus ((try dsimp only at hq); go_simp; (first | done | with_reducible rfl | fail)))) | refine held_s (i := 14) hHeld ?_ | fail
  first | (refine held_t (i := 15) hHeld ?_; apply Exists.intro; refine ⟨fun wq hq => ?_, ?_⟩; (focus ((try dsimp only at hq); go_simp; (first | done | with_reducible rfl | fail)))) | refine held_s (i := 15) hHeld ?_ | fail
  try simp only [Act.put, List.setIfInBounds_toArray, List.set_cons_zero, List.set_cons_succ]
  first | (refine held_t (i := 16) hHeld ?_; apply Exists.intro; refine ⟨fun wq hq => ?_, ?_⟩; (focus ((try dsimp only at hq); go_simp; (first | done | with_reducible rfl | fail)))) | refine held_s (i := 16) hHeld ?_ | fail
  first | (refine held_t (i := 17) hHeld ?_; apply Exists.intro; refine ⟨fun wq hq => ?_, ?_⟩; (focus ((try dsimp only at hq); go_simp; (first | done | with_reducible rfl | fail)))) | refine held_s (i := 17) hHeld ?_ | fail
  try simp only [Act.put, List.setIfInBounds_toArray, List.set_cons_zero, List.set_cons_succ]
  refine held_c 18 fun K hK => ?_
  go_simp
  (go_at_call 13; refine (atom_at _ _).mono ?_; rintro e wx18 ⟨rfl, h18⟩)
  refine hK.out _ _ (⟨⟨cell_later h18 hHeld.1.1, cell_later h18 hHeld.1.2.1, cell_later h18 hHeld.1.2.2.1, cell_later h18 hHeld.1.2.2.2.1, cell_later h18 hHeld.1.2.2.2.2.1, cell_later h18 hHeld.1.2.2.2.2.2.1, cell_later h18 hHeld.1.2.2.2.2.2.2.1, cell_later h18 hHeld.1.2.2.2.2.2.2.2.1, cell_later h18 hHeld.1.2.2.2.2.2.2.2.2.1, cell_later h18 hHeld.1.2.2.2.2.2.2.2.2.2.1, cell_later h18 hHeld.1.2.2.2.2.2.2.2.2.2.2.1, cell_later h18 hHeld.1.2.2.2.2.2.2.2.2.2.2.2.1, cell_later h18 hHeld.1.2.2.2.2.2.2.2.2.2.2.2.2⟩, Ext.trans' hHeld.2 h18⟩) (fun hHeld => ?_)
  clear hK K
  try simp only [Act.put, List.setIfInBounds_toArray, List.set_cons_zero, List.set_cons_succ]
  refine held_c 19 fun K hK => ?_
  go_simp
  (go_at_call 12; refine (HS2.out _ hHeld.2).mono ?_; rintro e wx19 ⟨rfl, h19⟩)
  refine hK.out _ _ (⟨⟨cell_later h19 hHeld.1.1, cell_later h19 hHeld.1.2.1, cell_later h19 hHeld.1.2.2.1, cell_later h19 hHeld.1.2.2.2.1, cell_later h19 hHeld.1.2.2.2.2.1, cell_later h19 hHeld.1.2.2.2.2.2.1, cell_later h19 hHeld.1.2.2.2.2.2.2.1, cell_later h19 hHeld.1.2.2.2.2.2.2.2.1, cell_later h19 hHeld.1.2.2.2.2.2.2.2.2.1, cell_later h19 hHeld.1.2.2.2.2.2.2.2.2.2.1, cell_later h19 hHeld.1.2.2.2.2.2.2.2.2.2.2.1, cell_later h19 hHeld.1.2.2.2.2.2.2.2.2.2.2.2.1, cell_later h19 hHeld.1.2.2.2.2.2.2.2.2.2.2.2.2⟩, Ext.trans' hHeld.2 h19⟩) (fun hHeld => ?_)
  clear hK K
  try simp only [Act.put, List.setIfInBounds_toArray, List.set_cons_zero, List.set_cons_succ]
  first | (refine held_t (i := 20) hHeld ?_; apply Exists.intro; refine ⟨fun wq hq => ?_, ?_⟩; (focus ((try dsimp only at hq); go_simp; (first | done | with_reducible rfl | fail)))) | refine held_s (i := 20) hHeld ?_ | fail
  first | (refine held_t (i := 21) hHeld ?_; apply Exists.intro; refine ⟨fun wq hq => ?_, ?_⟩; (focus ((try dsimp only at hq); go_simp; (first | done | with_reducible rfl | fail)))) | refine held_s (i := 21) hHeld ?_ | fail
  try simp only [Act.put, List.setIfInBounds_toArray, List.set_cons_zero, List.set_cons_succ]
  first | (refine held_t (i := 22) hHeld ?_; apply Exists.intro; refine ⟨fun wq hq => ?_, ?_⟩; (focus ((try dsimp only at hq); go_simp; (first | done | with_reducible rfl | fail)))) | refine held_s (i := 22) hHeld ?_ | fail
  try simp only [Act.put, List.setIfInBounds_toArray, List.set_cons_zero, List.set_cons_succ]
  refine held_c 23 fun K hK => ?_
  go_simp
  (go_at_call 13; refine (atom_at _ _).mono ?_; rintro e wx23 ⟨rfl, h23⟩)
  refine hK.out _ _ (⟨⟨cell_later h23 hHeld.1.1, cell_later h23 hHeld.1.2.1, cell_later h23 hHeld.1.2.2.1, cell_later h23 hHeld.1.2.2.2.1, cell_later h23 hHeld.1.2.2.2.2.1, cell_later h23 hHeld.1.2.2.2.2.2.1, cell_later h23 hHeld.1.2.2.2.2.2.2.1, cell_later h23 hHeld.1.2.2.2.2.2.2.2.1, cell_later h23 hHeld.1.2.2.2.2.2.2.2.2.1, cell_later h23 hHeld.1.2.2.2.2.2.2.2.2.2.1, cell_later h23 hHeld.1.2.2.2.2.2.2.2.2.2.2.1, cell_later h23 hHeld.1.2.2.2.2.2.2.2.2.2.2.2.1, cell_later h23 hHeld.1.2.2.2.2.2.2.2.2.2.2.2.2⟩, Ext.trans' hHeld.2 h23⟩) (fun hHeld => ?_)
  clear hK K
  try simp only [Act.put, List.setIfInBounds_toArray, List.set_cons_zero, List.set_cons_succ]
  refine held_c 24 fun K hK => ?_
  go_simp
  (go_at_call 12; refine (HS3.out _ hHeld.2).mono ?_; rintro e wx24 ⟨rfl, h24⟩)
  refine hK.out _ _ (⟨⟨cell_later h24 hHeld.1.1, cell_later h24 hHeld.1.2.1, cell_later h24 hHeld.1.2.2.1, cell_later h24 hHeld.1.2.2.2.1, cell_later h24 hHeld.1.2.2.2.2.1, cell_later h24 hHeld.1.2.2.2.2.2.1, cell_later h24 hHeld.1.2.2.2.2.2.2.1, cell_later h24 hHeld.1.2.2.2.2.2.2.2.1, cell_later h24 hHeld.1.2.2.2.2.2.2.2.2.1, cell_later h24 hHeld.1.2.2.2.2.2.2.2.2.2.1, cell_later h24 hHeld.1.2.2.2.2.2.2.2.2.2.2.1, cell_later h24 hHeld.1.2.2.2.2.2.2.2.2.2.2.2.1, cell_later h24 hHeld.1.2.2.2.2.2.2.2.2.2.2.2.2⟩, Ext.trans' hHeld.2 h24⟩) (fun hHeld => ?_)
  clear hK K
  try simp only [Act.put, List.setIfInBounds_toArray, List.set_cons_zero, List.set_cons_succ]
  first | (refine held_t (i := 25) hHeld ?_; apply Exists.intro; refine ⟨fun wq hq => ?_, ?_⟩; (focus ((try dsimp only at hq); go_simp; (first | done | with_reducible rfl | fail)))) | refine held_s (i := 25) hHeld ?_ | fail
  first | (refine held_t (i := 26) hHeld ?_; apply Exists.intro; refine ⟨fun wq hq => ?_, ?_⟩; (focus ((try dsimp only at hq); go_simp; (first | done | with_reducible rfl | fail)))) | refine held_s (i := 26) hHeld ?_ | fail
  try simp only [Act.put, List.setIfInBounds_toArray, List.set_cons_zero, List.set_cons_succ]
  first | (refine held_t (i := 27) hHeld ?_; apply Exists.intro; refine ⟨fun wq hq => ?_, ?_⟩; (focus ((try dsimp only at hq); go_simp; (first | done | with_reducible rfl | fail)))) | refine held_s (i := 27) hHeld ?_ | fail
  first | (refine held_t (i := 28) hHeld ?_; apply Exists.intro; refine ⟨fun wq hq => ?_, ?_⟩; (focus ((try dsimp only at hq); go_simp; (first | done | with_reducible rfl | fail)))) | refine held_s (i := 28) hHeld ?_ | fail
  try simp only [Act.put, List.setIfInBounds_toArray, List.set_cons_zero, List.set_cons_succ]
  first | (refine held_t (i := 29) hHeld ?_; apply Exists.intro; refine ⟨fun wq hq => ?_, ?_⟩; (focus ((try dsimp only at hq); go_simp; (first | done | with_reducible rfl | fail)))) | refine held_s (i := 29) hHeld ?_ | fail
  first | (refine held_t (i := 30) hHeld ?_; apply Exists.intro; refine ⟨fun wq hq => ?_, ?_⟩; (focus ((try dsimp only at hq); go_simp; (first | done | with_reducible rfl | fail)))) | refine held_s (i := 30) hHeld ?_ | fail
  try simp only [Act.put, List.setIfInBounds_toArray, List.set_cons_zero, List.set_cons_succ]
  first | (refine held_t (i := 31) hHeld ?_; apply Exists.intro; refine ⟨fun wq hq => ?_, ?_⟩; (focus ((try dsimp only at hq); go_simp; (first | done | with_reducible rfl | fail)))) | refine held_s (i := 31) hHeld ?_ | fail
  first | (refine held_t (i := 32) hHeld ?_; apply Exists.intro; refine ⟨fun wq hq => ?_, ?_⟩; (focus ((try dsimp only at hq); go_simp; (first | done | with_reducible rfl | fail)))) | refine held_s (i := 32) hHeld ?_ | fail
  try simp only [Act.put, List.setIfInBounds_toArray, List.set_cons_zero, List.set_cons_succ]
  first | (refine held_t (i := 33) hHeld ?_; apply Exists.intro; refine ⟨fun wq hq => ?_, ?_⟩; (focus ((try dsimp only at hq); go_simp; (first | done | with_reducible rfl | fail)))) | refine held_s (i := 33) hHeld ?_ | fail
  first | (refine held_t (i := 34) hHeld ?_; apply Exists.intro; refine ⟨fun wq hq => ?_, ?_⟩; (focus ((try dsimp only at hq); go_simp; (first | done | with_reducible rfl | fail)))) | refine held_s (i := 34) hHeld ?_ | fail
  try simp only [Act.put, List.setIfInBounds_toArray, List.set_cons_zero, List.set_cons_succ]
  first | (refine held_t (i := 35) hHeld ?_; apply Exists.intro; refine ⟨fun wq hq => ?_, ?_⟩; (focus ((try dsimp only at hq); go_simp; (first | done | with_reducible rfl | fail)))) | refine held_s (i := 35) hHeld ?_ | fail
  try simp only [Act.put, List.setIfInBounds_toArray, List.set_cons_zero, List.set_cons_succ]
  refine held_c 36 fun K hK => ?_
  go_simp
  (go_at_call 14; refine (HU1.out _ hHeld.2).mono ?_; rintro e wx36 ⟨rfl, h36⟩)
  refine hK.out _ _ (⟨⟨cell_later h36 hHeld.1.1, cell_later h36 hHeld.1.2.1, cell_later h36 hHeld.1.2.2.1, cell_later h36 hHeld.1.2.2.2.1, cell_later h36 hHeld.1.2.2.2.2.1, cell_later h36 hHeld.1.2.2.2.2.2.1, cell_later h36 hHeld.1.2.2.2.2.2.2.1, cell_later h36 hHeld.1.2.2.2.2.2.2.2.1, cell_later h36 hHeld.1.2.2.2.2.2.2.2.2.1, cell_later h36 hHeld.1.2.2.2.2.2.2.2.2.2.1, cell_later h36 hHeld.1.2.2.2.2.2.2.2.2.2.2.1, cell_later h36 hHeld.1.2.2.2.2.2.2.2.2.2.2.2.1, cell_later h36 hHeld.1.2.2.2.2.2.2.2.2.2.2.2.2⟩, Ext.trans' hHeld.2 h36⟩) (fun hHeld => ?_)
  clear hK K
  try simp only [Act.put, List.setIfInBounds_toArray, List.set_cons_zero, List.set_cons_succ]
  first | (refine held_t (i := 37) hHeld ?_; apply Exists.intro; refine ⟨fun wq hq => ?_, ?_⟩; (focus ((try dsimp only at hq); go_simp; (first | done | with_reducible rfl | fail)))) | refine held_s (i := 37) hHeld ?_ | fail
  first | (refine held_t (i := 38) hHeld ?_; apply Exists.intro; refine ⟨fun wq hq => ?_, ?_⟩; (focus ((try dsimp only at hq); go_simp; (first | done | with_reducible rfl | fail)))) | refine held_s (i := 38) hHeld ?_ | fail
  try simp only [Act.put, List.setIfInBounds_toArray, List.set_cons_zero, List.set_cons_succ]
  first | (refine held_t (i := 39) hHeld ?_; apply Exists.intro; refine ⟨fun wq hq => ?_, ?_⟩; (focus ((try dsimp only at hq); go_simp; (first | done | with_reducible rfl | fail)))) | refine held_s (i := 39) hHeld ?_ | fail
  first | (refine held_t (i := 40) hHeld ?_; apply Exists.intro; refine ⟨fun wq hq => ?_, ?_⟩; (focus ((try dsimp only at hq); go_simp; (first | done | with_reducible rfl | fail)))) | refine held_s (i := 40) hHeld ?_ | fail
  try simp only [Act.put, List.setIfInBounds_toArray, List.set_cons_zero, List.set_cons_succ]
  refine held_c 41 fun K hK => ?_
  go_simp
  (go_at_call 14; refine (HU2.out _ hHeld.2).mono ?_; rintro e wx41 ⟨rfl, h41⟩)
  refine hK.out _ _ (⟨⟨cell_later h41 hHeld.1.1, cell_later h41 hHeld.1.2.1, cell_later h41 hHeld.1.2.2.1, cell_later h41 hHeld.1.2.2.2.1, cell_later h41 hHeld.1.2.2.2.2.1, cell_later h41 hHeld.1.2.2.2.2.2.1, cell_later h41 hHeld.1.2.2.2.2.2.2.1, cell_later h41 hHeld.1.2.2.2.2.2.2.2.1, cell_later h41 hHeld.1.2.2.2.2.2.2.2.2.1, cell_later h41 hHeld.1.2.2.2.2.2.2.2.2.2.1, cell_later h41 hHeld.1.2.2.2.2.2.2.2.2.2.2.1, cell_later h41 hHeld.1.2.2.2.2.2.2.2.2.2.2.2.1, cell_later h41 hHeld.1.2.2.2.2.2.2.2.2.2.2.2.2⟩, Ext.trans' hHeld.2 h41⟩) (fun hHeld => ?_)
  clear hK K
  try simp only [Act.put, List.setIfInBounds_toArray, List.set_cons_zero, List.set_cons_succ]
  first | (refine held_t (i := 42) hHeld ?_; apply Exists.intro; refine ⟨fun wq hq => ?_, ?_⟩; (focus ((try dsimp only at hq); go_simp; (first | done | with_reducible rfl | fail)))) | refine held_s (i := 42) hHeld ?_ | fail
  first | (refine held_t (i := 43) hHeld ?_; apply Exists.intro; refine ⟨fun wq hq => ?_, ?_⟩; (focus ((try dsimp only at hq); go_simp; (first | done | with_reducible rfl | fail)))) | refine held_s (i := 43) hHeld ?_ | fail
  try simp only [Act.put, List.setIfInBounds_toArray, List.set_cons_zero, List.set_cons_succ]
  first | (refine held_t (i := 44) hHeld ?_; apply Exists.intro; refine ⟨fun wq hq => ?_, ?_⟩; (focus ((try dsimp only at hq); go_simp; (first | done | with_reducible rfl | fail)))) | refine held_s (i := 44) hHeld ?_ | fail
  try simp only [Act.put, List.setIfInBounds_toArray, List.set_cons_zero, List.set_cons_succ]
  refine held_c 45 fun K hK => ?_
  go_simp
  (go_at_call 14; refine (HU3.out _ hHeld.2).mono ?_; rintro e wx45 ⟨rfl, h45⟩)
  refine hK.out _ _ (⟨⟨cell_later h45 hHeld.1.1, cell_later h45 hHeld.1.2.1, cell_later h45 hHeld.1.2.2.1, cell_later h45 hHeld.1.2.2.2.1, cell_later h45 hHeld.1.2.2.2.2.1, cell_later h45 hHeld.1.2.2.2.2.2.1, cell_later h45 hHeld.1.2.2.2.2.2.2.1, cell_later h45 hHeld.1.2.2.2.2.2.2.2.1, cell_later h45 hHeld.1.2.2.2.2.2.2.2.2.1, cell_later h45 hHeld.1.2.2.2.2.2.2.2.2.2.1, cell_later h45 hHeld.1.2.2.2.2.2.2.2.2.2.2.1, cell_later h45 hHeld.1.2.2.2.2.2.2.2.2.2.2.2.1, cell_later h45 hHeld.1.2.2.2.2.2.2.2.2.2.2.2.2⟩, Ext.trans' hHeld.2 h45⟩) (fun hHeld => ?_)
  clear hK K
  try simp only [Act.put, List.setIfInBounds_toArray, List.set_cons_zero, List.set_cons_succ]
  first | (refine held_t (i := 46) hHeld ?_; apply Exists.intro; refine ⟨fun wq hq => ?_, ?_⟩; (focus ((try dsimp only at hq); go_simp; (first | done | with_reducible rfl | fail)))) | refine held_s (i := 46) hHeld ?_ | fail
  first | (refine held_t (i := 47) hHeld ?_; apply Exists.intro; refine ⟨fun wq hq => ?_, ?_⟩; (focus ((try dsimp only at hq); go_simp; (first | done | with_reducible rfl | fail)))) | refine held_s (i := 47) hHeld ?_ | fail
  try simp only [Act.put, List.setIfInBounds_toArray, List.set_cons_zero, List.set_cons_succ]
  refine held_c 48 fun K hK => ?_
  go_simp
  (go_at_call 15; refine (back_nil _).mono ?_; rintro e wx48 ⟨rfl, h48⟩)
  refine hK.out _ _ (⟨⟨cell_later h48 hHeld.1.1, cell_later h48 hHeld.1.2.1, cell_later h48 hHeld.1.2.2.1, cell_later h48 hHeld.1.2.2.2.1, cell_later h48 hHeld.1.2.2.2.2.1, cell_later h48 hHeld.1.2.2.2.2.2.1, cell_later h48 hHeld.1.2.2.2.2.2.2.1, cell_later h48 hHeld.1.2.2.2.2.2.2.2.1, cell_later h48 hHeld.1.2.2.2.2.2.2.2.2.1, cell_later h48 hHeld.1.2.2.2.2.2.2.2.2.2.1, cell_later h48 hHeld.1.2.2.2.2.2.2.2.2.2.2.1, cell_later h48 hHeld.1.2.2.2.2.2.2.2.2.2.2.2.1, cell_later h48 hHeld.1.2.2.2.2.2.2.2.2.2.2.2.2⟩, Ext.trans' hHeld.2 h48⟩) (fun hHeld => ?_)
  clear hK K
  try simp only [Act.put, List.setIfInBounds_toArray, List.set_cons_zero, List.set_cons_succ]
  refine held_c 49 fun K hK => ?_
  go_simp
  (go_at_call 13; refine (atom_at _ _).mono ?_; rintro e wx49 ⟨rfl, h49⟩)
  refine hK.out _ _ (⟨⟨cell_later h49 hHeld.1.1, cell_later h49 hHeld.1.2.1, cell_later h49 hHeld.1.2.2.1, cell_later h49 hHeld.1.2.2.2.1, cell_later h49 hHeld.1.2.2.2.2.1, cell_later h49 hHeld.1.2.2.2.2.2.1, cell_later h49 hHeld.1.2.2.2.2.2.2.1, cell_later h49 hHeld.1.2.2.2.2.2.2.2.1, cell_later h49 hHeld.1.2.2.2.2.2.2.2.2.1, cell_later h49 hHeld.1.2.2.2.2.2.2.2.2.2.1, cell_later h49 hHeld.1.2.2.2.2.2.2.2.2.2.2.1, cell_later h49 hHeld.1.2.2.2.2.2.2.2.2.2.2.2.1, cell_later h49 hHeld.1.2.2.2.2.2.2.2.2.2.2.2.2⟩, Ext.trans' hHeld.2 h49⟩) (fun hHeld => ?_)
  clear hK K
  try simp only [Act.put, List.setIfInBounds_toArray, List.set_cons_zero, List.set_cons_succ]
  refine held_c 50 fun K hK => ?_
  go_simp
  (go_at_call 12; refine (HS4.out _).mono ?_; rintro e wx50 ⟨rfl, h50⟩)
  refine hK.out _ _ (⟨⟨cell_later h50 hHeld.1.1, cell_later h50 hHeld.1.2.1, cell_later h50 hHeld.1.2.2.1, cell_later h50 hHeld.1.2.2.2.1, cell_later h50 hHeld.1.2.2.2.2.1, cell_later h50 hHeld.1.2.2.2.2.2.1, cell_later h50 hHeld.1.2.2.2.2.2.2.1, cell_later h50 hHeld.1.2.2.2.2.2.2.2.1, cell_later h50 hHeld.1.2.2.2.2.2.2.2.2.1, cell_later h50 hHeld.1.2.2.2.2.2.2.2.2.2.1, cell_later h50 hHeld.1.2.2.2.2.2.2.2.2.2.2.1, cell_later h50 hHeld.1.2.2.2.2.2.2.2.2.2.2.2.1, cell_later h50 hHeld.1.2.2.2.2.2.2.2.2.2.2.2.2⟩, Ext.trans' hHeld.2 h50⟩) (fun hHeld => ?_)
  clear hK K
  try simp only [Act.put, List.setIfInBounds_toArray, List.set_cons_zero, List.set_cons_succ]
  first | (refine held_t (i := 51) hHeld ?_; apply Exists.intro; refine ⟨fun wq hq => ?_, ?_⟩; (focus ((try dsimp only at hq); go_simp; (first | done | with_reducible rfl | fail)))) | refine held_s (i := 51) hHeld ?_ | fail
  first | (refine held_t (i := 52) hHeld ?_; apply Exists.intro; refine ⟨fun wq hq => ?_, ?_⟩; (focus ((try dsimp only at hq); go_simp; (first | done | with_reducible rfl | fail)))) | refine held_s (i := 52) hHeld ?_ | fail
  try simp only [Act.put, List.setIfInBounds_toArray, List.set_cons_zero, List.set_cons_succ]
  refine wpAnyH_done (by kernel_rfl) ?_ _
  exact HQ.out _ _ _ _ _ _ _ _ _ _ _ _ _ _ _ _ _ _ _ _ _ _ _ _ _ _ _ _ _ _ _ _ _ _ _ _ _ _ _ _ _ _ _ _ _ _ _ _ _ _ _ _ _ hHeld.2
end Go.Proofs.YtaojalicnnnkmaaGreatDoor
/- BodyKnown, walked. (gen_kk3.py) -/
namespace Go.Proofs.YtaojalicnnnkmaaGreatDoor
open Go.Shelf Go.RowKit
set_option linter.unusedVariables false

theorem kz4_of : ofE (rdT ks4) = (ka, 0) := Prod.ext rfl (by decide +kernel)
theorem kz5_of : ofE (rdT ks5) = (kb, 0) := Prod.ext rfl (by decide +kernel)
theorem kz6_of : ofE (rdT ks6) = (kc, 0) := Prod.ext rfl (by decide +kernel)
theorem str_cells {w wr : World} {b : Nat} {cs : List ByteArray} (h : Box w b (cs.map Value.string)) (hb : Below w.heap.size w wr) {j : Nat} {s : ByteArray} (hs : cs[j]? = some s) : wr.cell? ⟨b, j, none⟩ = some (.string s) :=
  cell_later hb (h.cells j _ (by rw [List.getElem?_map, hs]; rfl))
theorem int_cells {w wr : World} {b : Nat} {cs : List Int} (h : Box w b (cs.map (Value.int .i64))) (hb : Below w.heap.size w wr) {j : Nat} {k : Int} (hs : cs[j]? = some k) : wr.cell? ⟨b, j, none⟩ = some (.int .i64 k) :=
  cell_later hb (h.cells j _ (by rw [List.getElem?_map, hs]; rfl))
set_option maxHeartbeats 16000000 in
set_option maxRecDepth 100000 in
theorem known14_at {W : World} (he : Err W) : Calls Tryz.prog 3 #[] W fun e w' => e = .returned (.bool true) ∧ Below W.heap.size W w' := by
  have C := awake14_at he
  have HER := Lib.hid (fun (wq : World) (hq : Below W.heap.size W wq) => he.ext hq)
  clear he
  go_enter Tryz.func3, Tryz.ntmps3
  (go_wp2_with fail; go_fit (C); rintro e w1 ⟨rfl, b1⟩)
  obtain ⟨w2, e2, b2, z2, x2⟩ := box_new w1 #[Value.string ⟨#[116, 114, 117, 101]⟩, .string ⟨#[97, 59, 98]⟩, .string ⟨#[97, 45, 62, 98, 59, 99]⟩, .string ⟨#[97, 45, 62, 98]⟩, .string ⟨#[92, 43, 32, 97]⟩, .string ⟨#[88]⟩, .string ⟨#[116, 114, 117, 101, 44, 116, 114, 117, 101]⟩, .string ⟨#[40, 97, 44, 98, 41, 44, 99]⟩, .string ⟨#[40, 97, 59, 98, 41, 45, 62, 99, 59, 100]⟩] 9
  obtain ⟨w3, e3, b3, z3, x3⟩ := box_new w2 #[Value.int .i64 0, .int .i64 3, .int .i64 4, .int .i64 4, .int .i64 5, .int .i64 1, .int .i64 0, .int .i64 1, .int .i64 4] 3
  obtain ⟨w4, e4, b4, z4, x4⟩ := box_new w3 #[Value.int .i64 0, .int .i64 3, .int .i64 4, .int .i64 4, .int .i64 2, .int .i64 1, .int .i64 0, .int .i64 3, .int .i64 6] 3
  have HE := Lib.hid (And.intro e2 (And.intro e3 e4))
  have HB4 := Lib.hid (Ext.trans' b1 (Ext.trans' b2 (Ext.trans' b3 b4)))
  rw [z2] at x3
  rw [z3, z2] at x4
  have HX := Lib.hid (show Box w4 w1.heap.size (inSs.map Value.string) ∧ Box w4 (w1.heap.size + 1) (inKs.map (Value.int .i64)) ∧ Box w4 (w1.heap.size + 1 + 1) (inMs.map (Value.int .i64)) from ⟨(x2.ext b3).ext b4, x3.ext b4, x4⟩)
  clear C b1 b2 b3 b4 e2 e3 e4 z2 z3 z4 x2 x3 x4
  go_upto_region 6 with fail
  (try rw [HE.out.1, HE.out.2.1, HE.out.2.2])
  go_wp2_with fail
  go_loopw [4] (fun i wr => ∃ j : Nat, j ≤ 9 ∧ i = .int .i64 j ∧ Hid (Below w4.heap.size w4 wr)) (fun i _ => 9 - (intOf i).toNat)
  case atStart => exact ⟨0, by omega, rfl, Lib.hid (Below.refl _ _)⟩
  case round =>
    obtain ⟨j, hj, rfl, HB⟩ := hrel
    by_cases hjm : j < 9
    · obtain ⟨s, k, c, l, t1, t2, t3, t4, t5, t6, t7, t8, t9⟩ := in_tab hjm
      have hjm2 : (j : Int) < 9 := by omega
      have d0 := str_cells HX.out.1 HB.out t1
      have C := say_ok t4 t5 (HER.out wr (Ext.trans' HB4.out HB.out))
      have HT := Lib.hid (And.intro t2 (And.intro t3 (And.intro t6 (And.intro t7 t8))))
      clear t1 t2 t3 t4 t5 t6 t7 t8
      (go_wp2_with fail; go_fit (C); rintro e w5 ⟨v5, rfl, ht5, b5⟩)
      have HB5 := Lib.hid (Ext.trans' HB.out b5)
      have C := bOf_at (rdT s) w5 v5 ht5
      unfold OfKE at C
      rw [HT.out.2.2.1] at C
      clear ht5 b5 d0
      (go_wp2_with fail; go_fit (C); rintro e w6 ⟨v6, rfl, hg6, b6⟩)
      have HB6 := Lib.hid (Ext.trans' HB5.out b6)
      have HG6 := Lib.hid (show GoalsK w6 l v6 from hg6)
      obtain ⟨a6, c6, rfl, q1, q2, q3⟩ := HG6.out.1.len
      unfold maxLen at q2
      obtain ⟨L, hL⟩ : ∃ L, l.length = L := ⟨_, rfl⟩
      have HL := Lib.hid hL
      rw [hL] at HG6 q1 ⊢
      clear C hg6 b6 q3 hL
      go_upto_if 52 with fail
      go_cut [7] from 53 to 56 (fun s wx => s = .int .i64 k ∧ wx = w6)
      case first =>
        by_cases h0 : L = 0
        · subst h0
          have hk : k = 0 := by rw [← HT.out.2.2.2.1, List.length_eq_zero_iff.1 HL.out]; rfl
          subst hk
          go_wp2
          go_meet
          exact ⟨rfl, rfl⟩
        · have h0L : (0 : Int) < L := by omega
          obtain ⟨g, hg⟩ : ∃ g, l[0]? = some g := ⟨_, List.getElem?_eq_getElem (by rw [HL.out]; omega)⟩
          obtain ⟨b, off, kt, nt, st, at_, mt, ct, ar, mr, cr, rfl, _, f0, -, -, -, -, -, -, -, -⟩ := HG6.out.1.get hg
          have hk : g.kind = k := by
            rw [← HT.out.2.2.2.1]
            cases l with
            | nil => cases hg
            | cons y r => simp at hg; rw [hg]; rfl
          rw [hk, Nat.zero_mul, Nat.add_zero] at f0
          clear hg hk
          go_wp2
          go_meet
          exact ⟨rfl, rfl⟩
      case rest =>
        obtain ⟨rfl, rfl⟩ := hcut
        have k0 := int_cells HX.out.2.1 HB6.out HT.out.1
        have m0 := int_cells HX.out.2.2 HB6.out HT.out.2.1
        have HN := Lib.hid (fun (wq : World) (hq : Below wc.heap.size wc wq) => Count_at l (by rw [HT.out.2.2.2.2]; omega) wq _ (HG6.out.keep (keeps_bare hq)))
        rw [HT.out.2.2.2.2] at HN
        go_wp2_with fail
        refine wp_region_held_drew (S := fun w' => (w'.cell? ⟨w1.heap.size + 1, j, none⟩ = some (.int .i64 k) ∧ w'.cell? ⟨w1.heap.size + 1 + 1, j, none⟩ = some (.int .i64 c)) ∧ Below wc.heap.size wc w') (by kernel_rfl) ⟨⟨k0, m0⟩, (Below.refl _ _).drew⟩ (fun hHeld => ?_)
        first | (refine held_t (i := 0) hHeld ?_; apply Exists.intro; refine ⟨fun wq hq => ?_, ?_⟩; (focus ((try dsimp only at hq); go_simp; (first | done | with_reducible rfl | fail)))) | refine held_s (i := 0) hHeld ?_ | fail
        first | (refine held_t (i := 1) hHeld ?_; apply Exists.intro; refine ⟨fun wq hq => ?_, ?_⟩; (focus ((try dsimp only at hq); go_simp; (first | done | with_reducible rfl | fail)))) | refine held_s (i := 1) hHeld ?_ | fail
        try simp only [Act.put, List.setIfInBounds_toArray, List.set_cons_zero, List.set_cons_succ]
        first | (refine held_t (i := 2) hHeld ?_; apply Exists.intro; refine ⟨fun wq hq => ?_, ?_⟩; (focus ((try dsimp only at hq); go_simp; (first | done | with_reducible rfl | fail)))) | refine held_s (i := 2) hHeld ?_ | fail
        first | (refine held_t (i := 3) hHeld ?_; apply Exists.intro; refine ⟨fun wq hq => ?_, ?_⟩; (focus ((try dsimp only at hq); go_simp; (first | done | with_reducible rfl | fail)))) | refine held_s (i := 3) hHeld ?_ | fail
        try simp only [Act.put, List.setIfInBounds_toArray, List.set_cons_zero, List.set_cons_succ]
        first | (refine held_t (i := 4) hHeld ?_; apply Exists.intro; refine ⟨fun wq hq => ?_, ?_⟩; (focus ((try dsimp only at hq); go_simp; (first | done | with_reducible rfl | fail)))) | refine held_s (i := 4) hHeld ?_ | fail
        first | (refine held_t (i := 5) hHeld ?_; apply Exists.intro; refine ⟨fun wq hq => ?_, ?_⟩; (focus ((try dsimp only at hq); go_simp; (first | done | with_reducible rfl | fail)))) | refine held_s (i := 5) hHeld ?_ | fail
        try simp only [Act.put, List.setIfInBounds_toArray, List.set_cons_zero, List.set_cons_succ]
        first | (refine held_t (i := 6) hHeld ?_; apply Exists.intro; refine ⟨fun wq hq => ?_, ?_⟩; (focus ((try dsimp only at hq); go_simp; (first | done | with_reducible rfl | fail)))) | refine held_s (i := 6) hHeld ?_ | fail
        first | (refine held_t (i := 7) hHeld ?_; apply Exists.intro; refine ⟨fun wq hq => ?_, ?_⟩; (focus ((try dsimp only at hq); go_simp; (first | done | with_reducible rfl | fail)))) | refine held_s (i := 7) hHeld ?_ | fail
        try simp only [Act.put, List.setIfInBounds_toArray, List.set_cons_zero, List.set_cons_succ]
        first | (refine held_t (i := 8) hHeld ?_; apply Exists.intro; refine ⟨fun wq hq => ?_, ?_⟩; (focus ((try dsimp only at hq); go_simp; (first | done | with_reducible rfl | fail)))) | refine held_s (i := 8) hHeld ?_ | fail
        first | (refine held_t (i := 9) hHeld ?_; apply Exists.intro; refine ⟨fun wq hq => ?_, ?_⟩; (focus ((try dsimp only at hq); go_simp; (first | done | with_reducible rfl | fail)))) | refine held_s (i := 9) hHeld ?_ | fail
        try simp only [Act.put, List.setIfInBounds_toArray, List.set_cons_zero, List.set_cons_succ]
        first | (refine held_t (i := 10) hHeld ?_; apply Exists.intro; refine ⟨fun wq hq => ?_, ?_⟩; (focus ((try dsimp only at hq); go_simp; (first | done | with_reducible rfl | fail)))) | refine held_s (i := 10) hHeld ?_ | fail
        first | (refine held_t (i := 11) hHeld ?_; apply Exists.intro; refine ⟨fun wq hq => ?_, ?_⟩; (focus ((try dsimp only at hq); go_simp; (first | done | with_reducible rfl | fail)))) | refine held_s (i := 11) hHeld ?_ | fail
        try simp only [Act.put, List.setIfInBounds_toArray, List.set_cons_zero, List.set_cons_succ]
        first | (refine held_t (i := 13) hHeld ?_; apply Exists.intro; refine ⟨fun wq hq => ?_, ?_⟩; (focus ((try dsimp only at hq); go_simp; (first | done | with_reducible rfl | fail)))) | refine held_s (i := 13) hHeld ?_ | fail
        first | (refine held_t (i := 14) hHeld ?_; apply Exists.intro; refine ⟨fun wq hq => ?_, ?_⟩; (focus ((try dsimp only at hq); go_simp; (first | done | with_reducible rfl | fail)))) | refine held_s (i := 14) hHeld ?_ | fail
        try simp only [Act.put, List.setIfInBounds_toArray, List.set_cons_zero, List.set_cons_succ]
        first | (refine held_t (i := 15) hHeld ?_; apply Exists.intro; refine ⟨fun wq hq => ?_, ?_⟩; (focus ((try dsimp only at hq); go_simp; (first | done | with_reducible rfl | fail)))) | refine held_s (i := 15) hHeld ?_ | fail
        first | (refine held_t (i := 16) hHeld ?_; apply Exists.intro; refine ⟨fun wq hq => ?_, ?_⟩; (focus ((try dsimp only at hq); go_simp; (first | done | with_reducible rfl | fail)))) | refine held_s (i := 16) hHeld ?_ | fail
        try simp only [Act.put, List.setIfInBounds_toArray, List.set_cons_zero, List.set_cons_succ]
        refine held_c 12 fun K hK => ?_
        go_simp
        (go_at_call 10; refine (HN.out _ hHeld.2).mono ?_; rintro e wx ⟨rfl, h5⟩)
        refine hK.out _ _ (⟨⟨cell_later h5 hHeld.1.1, cell_later h5 hHeld.1.2⟩, Ext.trans' hHeld.2 h5⟩) (fun hHeld => ?_)
        clear hK K
        try simp only [Act.put, List.setIfInBounds_toArray, List.set_cons_zero, List.set_cons_succ]
        first | (refine held_t (i := 17) hHeld ?_; apply Exists.intro; refine ⟨fun wq hq => ?_, ?_⟩; (focus ((try dsimp only at hq); go_simp; (first | done | with_reducible rfl | fail)))) | refine held_s (i := 17) hHeld ?_ | fail
        first | (refine held_t (i := 18) hHeld ?_; apply Exists.intro; refine ⟨fun wq hq => ?_, ?_⟩; (focus ((try dsimp only at hq); go_simp; (first | done | with_reducible rfl | fail)))) | refine held_s (i := 18) hHeld ?_ | fail
        try simp only [Act.put, List.setIfInBounds_toArray, List.set_cons_zero, List.set_cons_succ]
        refine wpAnyH_done (by kernel_rfl) ?_ _
        have HBE := Lib.hid (Ext.trans' HB6.out hHeld.2)
        clear hHeld k0 m0
        go_wp2
        go_roundw
        case rel => exact ⟨j + 1, by omega, by go_num, HBE⟩
        case measure => simp [intOf]; omega
    · have hjn : ¬ (j : Int) < 9 := by omega
      clear hjm hj
      have HW := Lib.hid (Ext.trans' HB4.out HB.out)
      clear HX HE HB4 HB
      obtain ⟨w5, e5, b5, z5, x5⟩ := box_new wr #[Value.string ⟨#[88, 32, 58, 45, 32, 97]⟩, .string ⟨#[51, 32, 58, 45, 32, 97]⟩, .string ⟨#[40, 97, 44, 98, 41, 32, 58, 45, 32, 99]⟩, .string ⟨#[33, 32, 58, 45, 32, 99]⟩, .string ⟨#[97, 32, 58, 45, 32, 51]⟩, .string ⟨#[116, 114, 117, 101]⟩, .string ⟨#[102, 97, 105, 108, 32, 58, 45, 32, 97]⟩, .string ⟨#[92, 43, 32, 97, 32, 58, 45, 32, 98]⟩, .string ⟨#[40, 97, 32, 58, 45, 32, 98, 41, 32, 58, 45, 32, 99]⟩] 9
      obtain ⟨w6, e6, b6, z6, x6⟩ := box_new w5 #[Value.int .i64 6, .int .i64 5, .int .i64 8, .int .i64 8, .int .i64 5, .int .i64 8, .int .i64 8, .int .i64 8, .int .i64 8] 26
      have HE := Lib.hid (And.intro e5 e6)
      have HB6 := Lib.hid (Ext.trans' HW.out (Ext.trans' b5 b6))
      rw [z5] at x6
      have HX := Lib.hid (show Box w6 wr.heap.size (hdSs.map Value.string) ∧ Box w6 (wr.heap.size + 1) (hdEs.map (Value.int .i64)) from ⟨x5.ext b6, x6⟩)
      clear b5 b6 e5 e6 z5 z6 x5 x6 HW
      go_upto_region 17 with fail
      (try rw [HE.out.1, HE.out.2])
      go_wp2_with fail
      go_loopw [10] (fun i wx => ∃ j : Nat, j ≤ 9 ∧ i = .int .i64 j ∧ Hid (Below w6.heap.size w6 wx)) (fun i _ => 9 - (intOf i).toNat)
      case atStart => exact ⟨0, by omega, rfl, Lib.hid (Below.refl _ _)⟩
      case round =>
        obtain ⟨q, hq, rfl, HB⟩ := hrel
        by_cases hqm : q < 9
        · obtain ⟨s, k, t1, t2, t3, t4, t5⟩ := hd_tab hqm
          have hqm2 : (q : Int) < 9 := by omega
          have d0 := str_cells HX.out.1 HB.out t1
          have C := say_ok t3 t4 (HER.out _ (Ext.trans' HB6.out HB.out))
          have HT := Lib.hid (And.intro t2 t5)
          clear t1 t2 t3 t4 t5
          (go_wp2_with fail; go_fit (C); rintro e w7 ⟨v7, rfl, ht7, b7⟩)
          have HB7 := Lib.hid (Ext.trans' HB.out b7)
          have C := bClause_at (rdT s) w7 v7 ht7
          rw [HT.out.2] at C
          clear ht7 b7 d0
          (go_wp2_with fail; go_fit (C); rintro e w8 ⟨h8, r8, rfl, th, tr, b8⟩)
          obtain ⟨k1, n1, s1, a1, m1, c1, rfl, -, -, -, -⟩ := four_of th
          obtain ⟨k2, n2, s2, a2, m2, c2, rfl, -, -, -, -⟩ := four_of tr
          obtain ⟨w9, e9, b9, z9, x9⟩ := box_new w8 #[.int .i64 k1, .int .i64 n1, .string s1, .slice a1 m1 c1] 31
          obtain ⟨w10, e10, b10, z10, x10⟩ := box_new w9 #[.int .i64 k2, .int .i64 n2, .string s2, .slice a2 m2 c2] 31
          have HE10 := Lib.hid (And.intro e9 e10)
          have HB10 := Lib.hid (Ext.trans' HB7.out (Ext.trans' b8 (Ext.trans' b9 b10)))
          clear C th tr b8 e9 e10 b9 b10 z9 z10 x9 x10
          go_upto_region 21 with fail
          (try rw [HE10.out.1, HE10.out.2])
          have k0 := int_cells HX.out.2 HB10.out HT.out.1
          go_wp2
          go_roundw
          case rel => exact ⟨q + 1, by omega, by go_num, HB10⟩
          case measure => simp [intOf]; omega
        · have hqn : ¬ (q : Int) < 9 := by omega
          clear hqm hq
          have HW := Lib.hid (Ext.trans' HB6.out HB.out)
          clear HX HE HB6 HB
          have C := say_ok (s := ks1) (by decide) ks1_ok (HER.out _ HW.out)
          unfold ks1 at C
          (go_wp2_with fail; go_fit (C); rintro e wa1 ⟨va1, rfl, ta1, ba1⟩)
          have C := bClause_at (rdT ks1) wa1 va1 ta1
          rw [k1_cl] at C
          have HBa1 := Lib.hid (Ext.trans' HW.out ba1)
          clear ta1 ba1
          (go_wp2_with fail; go_fit (C); rintro e wb1 ⟨hv1, rv1, rfl, th1, tr1, bb1⟩)
          obtain ⟨k14, n14, s14, a14, m14, c14, rfl, -, -, -, -⟩ := four_of th1
          obtain ⟨k15, n15, s15, a15, m15, c15, rfl, -, -, hs15, -⟩ := four_of tr1
          obtain ⟨wc1, ec1, bc1, zc1, xc1⟩ := box_new wb1 #[.int .i64 k14, .int .i64 n14, .string s14, .slice a14 m14 c14] 31
          obtain ⟨we1, ed1, bd1, zd1, xd1⟩ := box_new wc1 #[.int .i64 k15, .int .i64 n15, .string s15, .slice a15 m15 c15] 31
          have HE1 := Lib.hid (And.intro ec1 ed1)
          have HW := Lib.hid (Ext.trans' HBa1.out (Ext.trans' bb1 (Ext.trans' bc1 bd1)))
          rw [zc1] at xd1
          have HX1 := Lib.hid (And.intro (xc1.ext bd1) xd1)
          have HT1 := Lib.hid (And.intro (TmV.ext (Ext.trans' bc1 bd1) _ _ th1) (TmV.ext (Ext.trans' bc1 bd1) _ _ tr1))
          have HS1 := Lib.hid hs15
          clear C th1 tr1 bb1 ec1 ed1 bc1 bd1 zc1 zd1 xc1 xd1 hs15
          go_upto_region 24 with fail
          (try rw [HE1.out.1, HE1.out.2])
          have C := say_ok (s := ks2) (by decide) ks2_ok (HER.out we1 HW.out)
          unfold ks2 at C
          (go_wp2_with fail; go_fit (C); rintro e wa2 ⟨va2, rfl, ta2, ba2⟩)
          have C := bClause_at (rdT ks2) wa2 va2 ta2
          rw [k2_cl] at C
          have HBl2 := Lib.hid ba2
          have HBa2 := Lib.hid (Ext.trans' HW.out ba2)
          clear ta2 ba2
          (go_wp2_with fail; go_fit (C); rintro e wb2 ⟨hv2, rv2, rfl, th2, tr2, bb2⟩)
          obtain ⟨k17, n17, s17, a17, m17, c17, rfl, -, -, -, -⟩ := four_of th2
          obtain ⟨k18, n18, s18, a18, m18, c18, rfl, -, -, hs18, -⟩ := four_of tr2
          obtain ⟨wc2, ec2, bc2, zc2, xc2⟩ := box_new wb2 #[.int .i64 k17, .int .i64 n17, .string s17, .slice a17 m17 c17] 31
          obtain ⟨we2, ed2, bd2, zd2, xd2⟩ := box_new wc2 #[.int .i64 k18, .int .i64 n18, .string s18, .slice a18 m18 c18] 31
          have HE2 := Lib.hid (And.intro ec2 ed2)
          have HBW2 := Lib.hid (Ext.trans' HBl2.out (Ext.trans' bb2 (Ext.trans' bc2 bd2)))
          have HW := Lib.hid (Ext.trans' HBa2.out (Ext.trans' bb2 (Ext.trans' bc2 bd2)))
          rw [zc2] at xd2
          have HX2 := Lib.hid (And.intro (xc2.ext bd2) xd2)
          have HT2 := Lib.hid (And.intro (TmV.ext (Ext.trans' bc2 bd2) _ _ th2) (TmV.ext (Ext.trans' bc2 bd2) _ _ tr2))
          have HS2 := Lib.hid hs18
          clear C th2 tr2 bb2 ec2 ed2 bc2 bd2 zc2 zd2 xc2 xd2 hs18
          go_upto_region 25 with fail
          (try rw [HE2.out.1, HE2.out.2])
          have HB12 := Lib.hid HBW2.out
          have C := say_ok (s := ks3) (by decide) ks3_ok (HER.out we2 HW.out)
          unfold ks3 at C
          (go_wp2_with fail; go_fit (C); rintro e wa3 ⟨va3, rfl, ta3, ba3⟩)
          have C := bOf_at (rdT ks3) wa3 va3 ta3
          unfold OfKE at C
          rw [k3_of] at C
          have HBa3 := Lib.hid ba3
          clear ta3 ba3
          (go_wp2_with fail; go_fit (C); rintro e we3 ⟨rv3, rfl, hg3, bb3⟩)
          have hbe3 := Ext.trans' HBa3.out bb3
          have HW := Lib.hid (Ext.trans' HW.out hbe3)
          have HZ3 := Lib.hid hbe3
          clear C hg3 bb3 hbe3
          have C := bOf_at nineT we3 (.agg #[.int .i64 9, .int .i64 0, .string ⟨#[]⟩, .slice none 0 0]) (leaf_tm _ (i64_of 9 (by omega) (by omega)) i64_0 (by unfold BIG; decide))
          unfold OfKE at C
          rw [k9_of] at C
          (go_wp2_with fail; go_fit (C); rintro e we4 ⟨rv4, rfl, _, bb4⟩)
          have HW := Lib.hid (Ext.trans' HW.out bb4)
          have HZ4 := Lib.hid bb4
          clear C bb4
          have C := say_ok (s := ks4) (by decide) ks4_ok (HER.out we4 HW.out)
          unfold ks4 at C
          (go_wp2_with fail; go_fit (C); rintro e wa5 ⟨va5, rfl, ta5, ba5⟩)
          have C := bOf_at (rdT ks4) wa5 va5 ta5
          unfold OfKE at C
          rw [kz4_of] at C
          have HBa5 := Lib.hid ba5
          clear ta5 ba5
          (go_wp2_with fail; go_fit (C); rintro e we5 ⟨rv5, rfl, hg5, bb5⟩)
          have hbe5 := Ext.trans' HBa5.out bb5
          have HW := Lib.hid (Ext.trans' HW.out hbe5)
          have HZ5 := Lib.hid hbe5
          have HG5 := Lib.hid (show GoalsK we5 ka rv5 from hg5)
          clear C hg5 bb5 hbe5
          have C := say_ok (s := ks5) (by decide) ks5_ok (HER.out we5 HW.out)
          unfold ks5 at C
          (go_wp2_with fail; go_fit (C); rintro e wa6 ⟨va6, rfl, ta6, ba6⟩)
          have C := bOf_at (rdT ks5) wa6 va6 ta6
          unfold OfKE at C
          rw [kz5_of] at C
          have HBa6 := Lib.hid ba6
          clear ta6 ba6
          (go_wp2_with fail; go_fit (C); rintro e we6 ⟨rv6, rfl, hg6, bb6⟩)
          have hbe6 := Ext.trans' HBa6.out bb6
          have HW := Lib.hid (Ext.trans' HW.out hbe6)
          have HZ6 := Lib.hid hbe6
          have HG6 := Lib.hid (show GoalsK we6 kb rv6 from hg6)
          clear C hg6 bb6 hbe6
          have C := say_ok (s := ks6) (by decide) ks6_ok (HER.out we6 HW.out)
          unfold ks6 at C
          (go_wp2_with fail; go_fit (C); rintro e wa7 ⟨va7, rfl, ta7, ba7⟩)
          have C := bOf_at (rdT ks6) wa7 va7 ta7
          unfold OfKE at C
          rw [kz6_of] at C
          have HBa7 := Lib.hid ba7
          clear ta7 ba7
          (go_wp2_with fail; go_fit (C); rintro e we7 ⟨rv7, rfl, hg7, bb7⟩)
          have hbe7 := Ext.trans' HBa7.out bb7
          have HW := Lib.hid (Ext.trans' HW.out hbe7)
          have HZ7 := Lib.hid hbe7
          have HG7 := Lib.hid (show GoalsK we7 kc rv7 from hg7)
          clear C hg7 bb7 hbe7
          have h27 := Ext.trans' HZ3.out (Ext.trans' HZ4.out (Ext.trans' HZ5.out (Ext.trans' HZ6.out HZ7.out)))
          have h17 := Ext.trans' (HB12.out) h27
          obtain ⟨p0, p1, p2, p3, _⟩ := (HX1.out.1.ext h17).four
          obtain ⟨-, -, q2, -, _⟩ := (HX1.out.2.ext h17).four
          obtain ⟨r0, r1, r2, r3, _⟩ := (HX2.out.1.ext h27).four
          obtain ⟨u0, u1, u2, u3, _⟩ := (HX2.out.2.ext h27).four
          have h15 : (s15.toList == [44]) = true := by rw [← HS1.out]; show (kr.s.toList == [44]) = true; rw [k1_name, Lib.toList_data]; rfl
          go_upto_region 30 with fail
          refine kl_region (we := we7) (TmV.ext h17 _ _ HT1.out.1) (TmV.ext h27 _ _ HT2.out.1) (TmV.ext h27 _ _ HT2.out.2) (HG5.out.keep (keeps_bare (Ext.trans' HZ6.out HZ7.out))) (HG6.out.keep (keeps_bare HZ7.out)) HG7.out (fun wq hq => HER.out wq (Ext.trans' HW.out hq)) h15 ⟨p0, p1, p2, p3, q2, r0, r1, r2, r3, u0, u1, u2, u3⟩ ?_
          intros
          rename_i wE hE
          have HEND := Lib.hid (Ext.trans' HW.out hE)
          go_wp2
          go_ret
          exact ⟨rfl, HEND.out⟩
end Go.Proofs.YtaojalicnnnkmaaGreatDoor
/- BodyKnown: what chapter 14 says of each kind of goal and of heads that may not be. The card ties the package variables of the standard library that its row lists. -/
namespace Go.Proofs.YtaojalicnnnkmaaGreatDoor
open Go.Shelf Go.RowKit
set_option linter.unusedVariables false

theorem known14_law {w : World} (he : Err w) : Calls Tryz.prog 3 #[] w fun e w' => e = .returned (.bool true) ∧ Below w.heap.size w w' := known14_at he
theorem ctxBK {w : World} (h : laidMetH Tryz.prog Rows.bodyKnownRow.laid w) : Err w := err_of (text := [118, 97, 108, 117, 101, 32, 111, 117, 116, 32, 111, 102, 32, 114, 97, 110, 103, 101]) (by kernel_rfl) (by kernel_rfl) rfl h
namespace bodyKnown
open Go.ChangeShapes Go.WideShapes Go.ChangeAt Go.RowKit
theorem own : ownKnob Tryz.prog.godebug = none := by kernel_rfl
set_option linter.unusedVariables false
set_option maxRecDepth 100000 in
theorem lifted (os : Os) (started : os.Started) (H : Type) (enc : TypeId × Value → H) :
    ReturnsInHanded {} Tryz.checked os 3 .any (fun w args => (Rows.bodyKnownSpec.pre enc Tryz.prog Tryz.f3 [] false w args ∧ laidMetH Tryz.prog Rows.bodyKnownRow.laid w) ∧ sizedMet enc Tryz.prog Tryz.f3 (OpenSpec.ofChange Rows.bodyKnownSpec) false w args)
      (Rows.bodyKnownSpec.post enc Tryz.prog Tryz.f3 false true false false) := by
  refine returnsInHanded_of_change_and (C := Tryz.checked) (X := fun w _ => laidMetH Tryz.prog Rows.bodyKnownRow.laid w) (fun _ _ _ hh h => h.of_heap hh) own started (by kernel_rfl) Tryz.func3
    (ChangeSpec.witness_shaped (enc := enc) (C := Tryz.checked) (os := os) (X := fun w _ => laidMetH Tryz.prog Rows.bodyKnownRow.laid w) false (World.laidAll Tryz.prog os Rows.bodyKnownRow.laid) #[] 8 (World.laidAll_os _ _ _)
      (World.shaped_of_ZipB (by kernel_rfl) (by kernel_rfl)) (by kernel_rfl) (by kernel_rfl) (by kernel_rfl)
      (by rw [MakeChecks.laidMetH_plain _ _ _ (by kernel_rfl)]; exact laidMet_laidAll _ (by kernel_rfl) (by kernel_rfl))) ?_
  intro W base args ds gs before hval0 hW hcnd hsz0 hL _
  have hval : ∀ (j : Nat) t v, Tryz.f3.params[j]? = some t → args[j]? = some v → Value.okWide Tryz.prog W .any base t v := hval0
  have hW' := hW
  obtain ⟨p, q, hA0, hV, rfl, hfz, hnd⟩ := hW
  have hA : DataW.TrodAll enc Tryz.prog W 0 (fun _ => true) true Tryz.f3.params.toList args.toList ds p := hA0
  have hsz : (DataW.weightsEach Tryz.prog (Tryz.f3.params.toList ++ []) (ds ++ gs)).all (· ≤ reachBytes) = true := hsz0
  rw [Tryz.params3] at hA hval hsz
  obtain ⟨rfl, rfl, rfl⟩ := trodAll_none hA
  obtain ⟨rfl, rfl⟩ := trodVars_none hV
  clear hA0 hval0 hsz0


  refine (known14_law (ctxBK hL)).mono fun e W' ⟨he, bel⟩ => ?_
  subst he
  exact ⟨_, rfl, _, _, _, [], _, [], hW', trodAll_mk1 (shut_bool Tryz.underlying4 _), rfl, rfl, bel.frame _, fun h => by cases h⟩
theorem proved : Rows.BodyKnownSaid :=
  OpenClaim.holds_of_wide 3 Tryz.f3 rfl rfl rfl rfl rfl rfl rfl ⟨rfl, rfl, rfl, rfl, rfl⟩ rfl rfl rfl rfl rfl (by kernel_rfl) Tryz.func3 (by kernel_rfl)
    (of_decide_eq_true (by kernel_rfl)) (by unfold Func.isWrapper; first | (rw [if_pos (by decide +kernel)]; kernel_rfl) | (rw [if_neg (by decide +kernel)]; exact ⟨rfl, rfl⟩))
    (fun os started H enc _ => lifted os started H enc)
theorem carded : Rows.BodyKnownCardSaid :=
  Claim7.holds_tied_plain_at .later [] [.data, .data, .data, .sentinel, .sentinel] true (true, "33570ed6f5f17567edf92922097cefebf8e6d6f46405d756c182f11447c17dca") true
    proved (fun _ h => by cases h) (by kernel_rfl) (fun _ h => by cases h) bodyKnown_row_tie rfl ⟨rfl, rfl⟩ (by kernel_rfl) rfl
    (fun f fn hf hfn => by
      obtain rfl : f = 3 := Option.some.inj ((show Tryz.prog.funcNamed "sizar/sizarlaw14.BodyKnown" = some 3 by kernel_rfl).symm.trans hf) |>.symm
      obtain rfl : fn = Tryz.f3 := (Option.some.inj (Tryz.func3.symm.trans hfn)).symm
      exact ⟨by kernel_rfl, fun j t ht => by
        rw [Tryz.params3] at ht; simp at ht⟩)
    (by kernel_rfl)
#print axioms carded
end bodyKnown

end Go.Proofs.YtaojalicnnnkmaaGreatDoor
