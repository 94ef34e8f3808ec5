import Derived.Test.YtbbbgijlbcmpbaaHjuam
import Derived.Test.YtbbbgijlbcmpbaaHjuan
import Derived.Test.YtbbbgijlbcmpbaaRows
set_option linter.unusedVariables false
set_option linter.unusedSimpArgs false
/- UnifyKnown's last region, over a frame of letters. (gen_unifyknown.py) -/
namespace Go.Proofs.Ytbbbgijlbcmpbaa
open Go.RowKit
set_option linter.unusedVariables false

theorem seven_rd (w : World) : TmV w (.mk 7 0 ⟨#[]⟩ []) (.agg #[.int .i64 7, .int .i64 0, .string ⟨#[]⟩, .slice none 0 0]) := leaf_tm w (by unfold I64; omega) i64_0 big_0
theorem held_list2 {P : Program} {md : Region.Mode} {ops : Array Oper} {Q : Exit → Act → World → Prop} {S : World → Prop} {fuel : Nat} {l : Array Bool} {a : Act} {w : World} (l' : Array Bool) (n' : Nat) (h : l = l') (hn : fuel = n') (g : wpAnyH P md ops Q S n' l' a w) : wpAnyH P md ops Q S fuel l a w := by subst h; subst hn; exact g
def findRegU (n : Nat) : Code → Option Code
  | .region id ops d => if id = n then some (.region id ops d) else none
  | .seq a b => match findRegU n a with
    | some c => some c
    | none => findRegU n b
  | .block _ c => findRegU n c
  | .scope c => findRegU n c
  | .loop c => findRegU n c
  | .cond _ a b => match findRegU n a with
    | some c => some c
    | none => findRegU n b
  | _ => none
noncomputable def lastRegU : Code := (Try.f6.body.bind (findRegU 18)).getD .skip
noncomputable def opsU : Array Oper := match lastRegU with
  | .region _ ops _ => ops
  | _ => #[]
set_option maxHeartbeats 40000000 in
set_option maxRecDepth 100000 in
theorem tailU2 {K0 : Act → World → Prop} {R0 : Ending → World → Prop} {we : World} {g9 m9 c9 : Nat} {k9 n9 : Int} {s9 : ByteArray} {a9 : Option Addr}
    {wm : World} {y0 y1 y2 y4 y10 y11 y17 y18 y22 y23 y24 y25 y26 y27 y28 y29 y30 y31 y32 y33 y34 y35 y36 y37 y38 y39 y40 y41 y42 y43 y44 y45 y46 y47 y48 y49 y50 y51 y52 y53 y54 y55 y56 y57 y58 y59 y60 y61 y62 y63 y64 y65 y66 y67 y68 y69 y70 y71 y72 y73 y74 y75 y76 y77 y78 y79 y80 y81 y82 y83 y84 y85 y86 y87 y88 y89 y90 y91 y92 y93 y94 y95 y96 y97 y98 y99 y100 y101 y141 y142 y143 y144 y145 y146 y147 y148 y149 y150 y151 y152 y153 y154 y155 y156 y157 y158 y159 y160 y161 y162 y163 y164 y165 y166 y167 y168 y169 y170 y171 y172 y173 y174 y175 y176 y177 y178 x102 x103 x104 x105 x106 x107 x108 x109 x110 x111 x112 x113 x114 x115 x116 x117 x118 x119 x120 x121 x122 x123 x124 x125 x126 x127 x128 x129 x130 x131 x132 x133 x134 x135 x136 x137 x138 x139 : Value}
    (hG : TmV we (varV 1) (.agg #[.int .i64 k9, .int .i64 n9, .string s9, .slice a9 m9 c9])) (hB : ∀ wq, Below we.heap.size we wq → (wq.cell? ⟨g9, 0, none⟩ = some (.int .i64 k9) ∧ wq.cell? ⟨g9, 1, none⟩ = some (.int .i64 n9) ∧ wq.cell? ⟨g9, 2, none⟩ = some (.string s9) ∧ wq.cell? ⟨g9, 3, none⟩ = some (.slice a9 m9 c9)))
    (hQ : ∀ (x102 x103 x104 x105 x106 x107 x108 x109 x110 x111 x112 x113 x114 x115 x116 x117 x118 x119 x120 x121 x122 x123 x124 x125 x126 x127 x128 x129 x130 x131 x132 x133 x134 x135 x136 x137 x138 x139 x140 x141 x142 x143 x144 x145 x146 x147 x148 x149 x150 x151 x152 x153 x154 x155 x156 x157 x158 x159 x160 x161 x162 x163 x164 x165 x166 x167 x168 x169 x170 x171 x172 x173 x174 x175 x176 x177 x178 : Value) (w' : World), Below we.heap.size we w' → K0 ⟨#[.bool true, y1, y2, .bool false, y4, .int .i64 0, .bool true, .int .i64 1, .int .i64 0, .pointer (some ⟨g9, 0, none⟩), y10, y11, .int .i64 1, .bool false, .int .i64 4, .int .i64 0, .int .i64 1, y17, y18, .bool false, .int .i64 0, .int .i64 12, y22, y23, y24, y25, y26, y27, y28, y29, y30, y31, y32, y33, y34, y35, y36, y37, y38, y39, y40, y41, y42, y43, y44, y45, y46, y47, y48, y49, y50, y51, y52, y53, y54, y55, y56, y57, y58, y59, y60, y61, y62, y63, y64, y65, y66, y67, y68, y69, y70, y71, y72, y73, y74, y75, y76, y77, y78, y79, y80, y81, y82, y83, y84, y85, y86, y87, y88, y89, y90, y91, y92, y93, y94, y95, y96, y97, y98, y99, y100, y101, x102, x103, x104, x105, x106, x107, x108, x109, x110, x111, x112, x113, x114, x115, x116, x117, x118, x119, x120, x121, x122, x123, x124, x125, x126, x127, x128, x129, x130, x131, x132, x133, x134, x135, x136, x137, x138, x139, x140, x141, x142, x143, x144, x145, x146, x147, x148, x149, x150, x151, x152, x153, x154, x155, x156, x157, x158, x159, x160, x161, x162, x163, x164, x165, x166, x167, x168, x169, x170, x171, x172, x173, x174, x175, x176, x177, x178], []⟩ w') (hm : Below we.heap.size we wm) :
    wpAnyH Try.prog Region.Mode.any opsU (Exit.then K0 (bodyPost Try.prog Try.f6 R0)) (fun wq => ((wq.cell? ⟨g9, 0, none⟩ = some (.int .i64 k9) ∧ wq.cell? ⟨g9, 1, none⟩ = some (.int .i64 n9) ∧ wq.cell? ⟨g9, 2, none⟩ = some (.string s9) ∧ wq.cell? ⟨g9, 3, none⟩ = some (.slice a9 m9 c9)) ∧ Below we.heap.size we wq)) 39 #[true, true, true, true, true, true, true, true, true, true, true, true, true, true, true, true, true, true, true, true, true, true, true, true, true, true, true, true, true, true, true, true, true, true, true, true, true, true, true, false, false, false, false, false, false, false, false, false, false, false, false, false, false, false, false, false, false, false, false, false, false, false, false, false, false, false, false, false, false, false, false, false, false, false, false, false, false, false] ⟨#[y0, y1, y2, .bool false, y4, .int .i64 0, .bool true, .int .i64 1, .int .i64 0, .pointer (some ⟨g9, 0, none⟩), y10, y11, .int .i64 1, .bool false, .int .i64 4, .int .i64 0, .int .i64 1, y17, y18, .bool false, .int .i64 0, .int .i64 12, y22, y23, y24, y25, y26, y27, y28, y29, y30, y31, y32, y33, y34, y35, y36, y37, y38, y39, y40, y41, y42, y43, y44, y45, y46, y47, y48, y49, y50, y51, y52, y53, y54, y55, y56, y57, y58, y59, y60, y61, y62, y63, y64, y65, y66, y67, y68, y69, y70, y71, y72, y73, y74, y75, y76, y77, y78, y79, y80, y81, y82, y83, y84, y85, y86, y87, y88, y89, y90, y91, y92, y93, y94, y95, y96, y97, y98, y99, y100, y101, x102, x103, x104, x105, x106, x107, x108, x109, x110, x111, x112, x113, x114, x115, x116, x117, x118, x119, x120, x121, x122, x123, x124, x125, x126, x127, x128, x129, x130, x131, x132, x133, x134, x135, x136, x137, x138, x139, .bool true, y141, y142, y143, y144, y145, y146, y147, y148, y149, y150, y151, y152, y153, y154, y155, y156, y157, y158, y159, y160, y161, y162, y163, y164, y165, y166, y167, y168, y169, y170, y171, y172, y173, y174, y175, y176, y177, y178], []⟩ wm := by
  have HTG := Lib.hid hG
  have HB := Lib.hid hB
  have HQ := Lib.hid hQ
  have HC := Lib.hid (fun (wq : World) (hb : Below we.heap.size we wq) => (show ((wq.cell? ⟨g9, 0, none⟩ = some (.int .i64 k9) ∧ wq.cell? ⟨g9, 1, none⟩ = some (.int .i64 n9) ∧ wq.cell? ⟨g9, 2, none⟩ = some (.string s9) ∧ wq.cell? ⟨g9, 3, none⟩ = some (.slice a9 m9 c9)) ∧ Below we.heap.size we wq) from ⟨HB.out wq hb, hb⟩))
  clear hG hB hQ
  have hHeld := HC.out _ hm
  conv => arg 3; whnf
  simp only [List.append_eq, List.cons_append, List.nil_append]
  first | (refine held_t (i := 39) hHeld ?_; apply Exists.intro; refine ⟨fun wq hq => ?_, ?_⟩; (focus ((try dsimp only at hq); go_simp; (first | done | with_reducible rfl | fail)))) | refine held_s (i := 39) hHeld ?_ | fail
  first | (refine held_t (i := 40) hHeld ?_; apply Exists.intro; refine ⟨fun wq hq => ?_, ?_⟩; (focus ((try dsimp only at hq); go_simp; (first | done | with_reducible rfl | fail)))) | refine held_s (i := 40) hHeld ?_ | fail
  try simp only [Act.put, List.setIfInBounds_toArray, List.set_cons_zero, List.set_cons_succ]
  first | (refine held_t (i := 41) hHeld ?_; apply Exists.intro; refine ⟨fun wq hq => ?_, ?_⟩; (focus ((try dsimp only at hq); go_simp; (first | done | with_reducible rfl | fail)))) | refine held_s (i := 41) hHeld ?_ | fail
  first | (refine held_t (i := 42) hHeld ?_; apply Exists.intro; refine ⟨fun wq hq => ?_, ?_⟩; (focus ((try dsimp only at hq); go_simp; (first | done | with_reducible rfl | fail)))) | refine held_s (i := 42) hHeld ?_ | fail
  try simp only [Act.put, List.setIfInBounds_toArray, List.set_cons_zero, List.set_cons_succ]
  first | (refine held_t (i := 43) hHeld ?_; apply Exists.intro; refine ⟨fun wq hq => ?_, ?_⟩; (focus ((try dsimp only at hq); go_simp; (first | done | with_reducible rfl | fail)))) | refine held_s (i := 43) hHeld ?_ | fail
  first | (refine held_t (i := 44) hHeld ?_; apply Exists.intro; refine ⟨fun wq hq => ?_, ?_⟩; (focus ((try dsimp only at hq); go_simp; (first | done | with_reducible rfl | fail)))) | refine held_s (i := 44) hHeld ?_ | fail
  try simp only [Act.put, List.setIfInBounds_toArray, List.set_cons_zero, List.set_cons_succ]
  first | (refine held_t (i := 45) hHeld ?_; apply Exists.intro; refine ⟨fun wq hq => ?_, ?_⟩; (focus ((try dsimp only at hq); go_simp; (first | done | with_reducible rfl | fail)))) | refine held_s (i := 45) hHeld ?_ | fail
  first | (refine held_t (i := 46) hHeld ?_; apply Exists.intro; refine ⟨fun wq hq => ?_, ?_⟩; (focus ((try dsimp only at hq); go_simp; (first | done | with_reducible rfl | fail)))) | refine held_s (i := 46) hHeld ?_ | fail
  try simp only [Act.put, List.setIfInBounds_toArray, List.set_cons_zero, List.set_cons_succ]
  first | (refine held_t (i := 47) hHeld ?_; apply Exists.intro; refine ⟨fun wq hq => ?_, ?_⟩; (focus ((try dsimp only at hq); go_simp; (first | done | with_reducible rfl | fail)))) | refine held_s (i := 47) hHeld ?_ | fail
  first | (refine held_t (i := 48) hHeld ?_; apply Exists.intro; refine ⟨fun wq hq => ?_, ?_⟩; (focus ((try dsimp only at hq); go_simp; (first | done | with_reducible rfl | fail)))) | refine held_s (i := 48) hHeld ?_ | fail
  try simp only [Act.put, List.setIfInBounds_toArray, List.set_cons_zero, List.set_cons_succ]
  first | (refine held_t (i := 49) hHeld ?_; apply Exists.intro; refine ⟨fun wq hq => ?_, ?_⟩; (focus ((try dsimp only at hq); go_simp; (first | done | with_reducible rfl | fail)))) | refine held_s (i := 49) hHeld ?_ | fail
  first | (refine held_t (i := 50) hHeld ?_; apply Exists.intro; refine ⟨fun wq hq => ?_, ?_⟩; (focus ((try dsimp only at hq); go_simp; (first | done | with_reducible rfl | fail)))) | refine held_s (i := 50) hHeld ?_ | fail
  try simp only [Act.put, List.setIfInBounds_toArray, List.set_cons_zero, List.set_cons_succ]
  first | (refine held_t (i := 51) hHeld ?_; apply Exists.intro; refine ⟨fun wq hq => ?_, ?_⟩; (focus ((try dsimp only at hq); go_simp; (first | done | with_reducible rfl | fail)))) | refine held_s (i := 51) hHeld ?_ | fail
  first | (refine held_t (i := 52) hHeld ?_; apply Exists.intro; refine ⟨fun wq hq => ?_, ?_⟩; (focus ((try dsimp only at hq); go_simp; (first | done | with_reducible rfl | fail)))) | refine held_s (i := 52) hHeld ?_ | fail
  try simp only [Act.put, List.setIfInBounds_toArray, List.set_cons_zero, List.set_cons_succ]
  first | (refine held_t (i := 53) hHeld ?_; apply Exists.intro; refine ⟨fun wq hq => ?_, ?_⟩; (focus ((try dsimp only at hq); go_simp; (first | done | with_reducible rfl | fail)))) | refine held_s (i := 53) hHeld ?_ | fail
  first | (refine held_t (i := 54) hHeld ?_; apply Exists.intro; refine ⟨fun wq hq => ?_, ?_⟩; (focus ((try dsimp only at hq); go_simp; (first | done | with_reducible rfl | fail)))) | refine held_s (i := 54) hHeld ?_ | fail
  try simp only [Act.put, List.setIfInBounds_toArray, List.set_cons_zero, List.set_cons_succ]
  refine held_c 55 fun K hK => ?_
  go_simp
  (go_at_call 19; refine (var_at _ 0).mono ?_; rintro e u3 ⟨rfl, h6⟩)
  refine hK.out _ _ (HC.out _ (Ext.trans' hHeld.2 h6)) (fun hHeld => ?_)
  clear hK K
  try simp only [Act.put, List.setIfInBounds_toArray, List.set_cons_zero, List.set_cons_succ]
  have HU := Lib.hid (hHeld.2.trans (Below.refl _ _))
  have C := comp_one (w0 := we) HU.out ⟨#[102]⟩ ⟨#[]⟩ (big_1 _) (k := 0) (n := 0) i64_0 i64_0 big_0
  refine held_c 56 fun K hK => ?_
  go_simp
  skip
  refine hK.out _ _ (HC.out _ (Ext.trans' hHeld.2 (bel1' _ _))) (fun hHeld => ?_)
  clear hK K
  try simp only [Act.put, List.setIfInBounds_toArray, List.set_cons_zero, List.set_cons_succ]
  refine held_c 57 fun K hK => ?_
  go_simp
  (go_at_call 20; refine C.mono ?_; rintro e u4 ⟨a_, c_, rfl, ht_, h6⟩; have HF1 := Lib.hid (And.intro (show TmV u4 (oneT fS (varV 0)) _ from ht_.bare) h6); clear ht_)
  refine hK.out _ _ (HC.out _ h6) (fun hHeld => ?_)
  clear hK K
  try simp only [Act.put, List.setIfInBounds_toArray, List.set_cons_zero, List.set_cons_succ]
  clear C HU
  refine held_c 58 fun K hK => ?_
  go_simp
  (go_at_call 19; refine (var_at _ 0).mono ?_; rintro e u5 ⟨rfl, h6⟩; have HU := Lib.hid h6)
  refine hK.out _ _ (HC.out _ (Ext.trans' HF1.out.2 HU.out)) (fun hHeld => ?_)
  clear hK K
  try simp only [Act.put, List.setIfInBounds_toArray, List.set_cons_zero, List.set_cons_succ]
  clear h6
  have C := comp_one (w0 := u4) HU.out ⟨#[103]⟩ ⟨#[]⟩ (big_1 _) (k := 0) (n := 0) i64_0 i64_0 big_0
  refine held_c 59 fun K hK => ?_
  go_simp
  skip
  refine hK.out _ _ (HC.out _ (Ext.trans' hHeld.2 (bel1' _ _))) (fun hHeld => ?_)
  clear hK K
  try simp only [Act.put, List.setIfInBounds_toArray, List.set_cons_zero, List.set_cons_succ]
  refine held_c 60 fun K hK => ?_
  go_simp
  (go_at_call 20; refine C.mono ?_; rintro e u6 ⟨a_, c_, rfl, ht_, h6⟩; have HG1 := Lib.hid (And.intro (show TmV u6 (.mk 2 0 ⟨#[103]⟩ [varV 0]) _ from ht_.bare) h6); clear ht_)
  refine hK.out _ _ (HC.out _ (Ext.trans' HF1.out.2 HG1.out.2)) (fun hHeld => ?_)
  clear hK K
  try simp only [Act.put, List.setIfInBounds_toArray, List.set_cons_zero, List.set_cons_succ]
  clear C HU h6
  have C := comp_lone (w := u6) ⟨#[102]⟩ (big_1 _) HG1.out.1
  refine held_c 61 fun K hK => ?_
  go_simp
  skip
  refine hK.out _ _ (HC.out _ (Ext.trans' hHeld.2 (bel1' _ _))) (fun hHeld => ?_)
  clear hK K
  try simp only [Act.put, List.setIfInBounds_toArray, List.set_cons_zero, List.set_cons_succ]
  refine held_c 62 fun K hK => ?_
  go_simp
  (go_at_call 20; refine C.mono ?_; rintro e u7 ⟨a_, c_, rfl, ht_, h6⟩; have HG2 := Lib.hid (And.intro (show TmV u7 gfT _ from ht_) (Ext.trans' HG1.out.2 h6)); clear ht_)
  refine hK.out _ _ (HC.out _ (Ext.trans' HF1.out.2 HG2.out.2)) (fun hHeld => ?_)
  clear hK K
  try simp only [Act.put, List.setIfInBounds_toArray, List.set_cons_zero, List.set_cons_succ]
  clear C h6
  refine held_c 63 fun K hK => ?_
  go_simp
  (go_at_call 44; refine (Could_at (oneT fS (varV 0)) gfT _ _ _ (TmV.ext HG2.out.2 _ _ HF1.out.1) HG2.out.1).mono ?_; rintro e u8 ⟨rfl, h6⟩; rw [uk8])
  refine hK.out _ _ (HC.out _ (Ext.trans' hHeld.2 h6)) (fun hHeld => ?_)
  clear hK K
  try simp only [Act.put, List.setIfInBounds_toArray, List.set_cons_zero, List.set_cons_succ]
  first | (refine held_t (i := 64) hHeld ?_; apply Exists.intro; refine ⟨fun wq hq => ?_, ?_⟩; (focus ((try dsimp only at hq); go_simp; (first | done | with_reducible rfl | fail)))) | refine held_s (i := 64) hHeld ?_ | fail
  first | (refine held_t (i := 65) hHeld ?_; apply Exists.intro; refine ⟨fun wq hq => ?_, ?_⟩; (focus ((try dsimp only at hq); go_simp; (first | done | with_reducible rfl | fail)))) | refine held_s (i := 65) hHeld ?_ | fail
  try simp only [Act.put, List.setIfInBounds_toArray, List.set_cons_zero, List.set_cons_succ]
  refine held_c 66 fun K hK => ?_
  go_simp
  (go_at_call 45; refine (atom_at _ ⟨#[97]⟩).mono ?_; rintro e u9 ⟨rfl, h6⟩)
  refine hK.out _ _ (HC.out _ (Ext.trans' hHeld.2 h6)) (fun hHeld => ?_)
  clear hK K
  try simp only [Act.put, List.setIfInBounds_toArray, List.set_cons_zero, List.set_cons_succ]
  refine held_c 67 fun K hK => ?_
  go_simp
  (go_at_call 45; refine (atom_at _ ⟨#[98]⟩).mono ?_; rintro e u10 ⟨rfl, h6⟩)
  refine hK.out _ _ (HC.out _ (Ext.trans' hHeld.2 h6)) (fun hHeld => ?_)
  clear hK K
  try simp only [Act.put, List.setIfInBounds_toArray, List.set_cons_zero, List.set_cons_succ]
  refine held_c 68 fun K hK => ?_
  go_simp
  (go_at_call 44; refine (Could_at (atomT ⟨#[97]⟩) (atomT ⟨#[98]⟩) _ _ _ (atom_tm _) (atomb_tm _)).mono ?_; rintro e u11 ⟨rfl, h6⟩; rw [uk9])
  refine hK.out _ _ (HC.out _ (Ext.trans' hHeld.2 h6)) (fun hHeld => ?_)
  clear hK K
  try simp only [Act.put, List.setIfInBounds_toArray, List.set_cons_zero, List.set_cons_succ]
  first | (refine held_t (i := 69) hHeld ?_; apply Exists.intro; refine ⟨fun wq hq => ?_, ?_⟩; (focus ((try dsimp only at hq); go_simp; (first | done | with_reducible rfl | fail)))) | refine held_s (i := 69) hHeld ?_ | fail
  first | (refine held_t (i := 70) hHeld ?_; apply Exists.intro; refine ⟨fun wq hq => ?_, ?_⟩; (focus ((try dsimp only at hq); go_simp; (first | done | with_reducible rfl | fail)))) | refine held_s (i := 70) hHeld ?_ | fail
  try simp only [Act.put, List.setIfInBounds_toArray, List.set_cons_zero, List.set_cons_succ]
  first | (refine held_t (i := 71) hHeld ?_; apply Exists.intro; refine ⟨fun wq hq => ?_, ?_⟩; (focus ((try dsimp only at hq); go_simp; (first | done | with_reducible rfl | fail)))) | refine held_s (i := 71) hHeld ?_ | fail
  first | (refine held_t (i := 72) hHeld ?_; apply Exists.intro; refine ⟨fun wq hq => ?_, ?_⟩; (focus ((try dsimp only at hq); go_simp; (first | done | with_reducible rfl | fail)))) | refine held_s (i := 72) hHeld ?_ | fail
  try simp only [Act.put, List.setIfInBounds_toArray, List.set_cons_zero, List.set_cons_succ]
  refine held_c 73 fun K hK => ?_
  go_simp
  (go_at_call 45; refine (atom_at _ ⟨#[98]⟩).mono ?_; rintro e u12 ⟨rfl, h6⟩)
  refine hK.out _ _ (HC.out _ (Ext.trans' hHeld.2 h6)) (fun hHeld => ?_)
  clear hK K
  try simp only [Act.put, List.setIfInBounds_toArray, List.set_cons_zero, List.set_cons_succ]
  refine held_c 74 fun K hK => ?_
  go_simp
  (go_at_call 44; refine (Could_at (.mk 7 0 ⟨#[]⟩ []) (atomT ⟨#[98]⟩) _ _ _ (seven_rd _) (atomb_tm _)).mono ?_; rintro e u13 ⟨rfl, h6⟩; rw [uk10])
  refine hK.out _ _ (HC.out _ (Ext.trans' hHeld.2 h6)) (fun hHeld => ?_)
  clear hK K
  try simp only [Act.put, List.setIfInBounds_toArray, List.set_cons_zero, List.set_cons_succ]
  first | (refine held_t (i := 75) hHeld ?_; apply Exists.intro; refine ⟨fun wq hq => ?_, ?_⟩; (focus ((try dsimp only at hq); go_simp; (first | done | with_reducible rfl | fail)))) | refine held_s (i := 75) hHeld ?_ | fail
  first | (refine held_t (i := 76) hHeld ?_; apply Exists.intro; refine ⟨fun wq hq => ?_, ?_⟩; (focus ((try dsimp only at hq); go_simp; (first | done | with_reducible rfl | fail)))) | refine held_s (i := 76) hHeld ?_ | fail
  try simp only [Act.put, List.setIfInBounds_toArray, List.set_cons_zero, List.set_cons_succ]
  first | (refine held_t (i := 77) hHeld ?_; apply Exists.intro; refine ⟨fun wq hq => ?_, ?_⟩; (focus ((try dsimp only at hq); go_simp; (first | done | with_reducible rfl | fail)))) | refine held_s (i := 77) hHeld ?_ | fail
  try simp only [Act.put, List.setIfInBounds_toArray, List.set_cons_zero, List.set_cons_succ]
  refine wpAnyH_done (by kernel_rfl) ?_ _
  exact HQ.out _ _ _ _ _ _ _ _ _ _ _ _ _ _ _ _ _ _ _ _ _ _ _ _ _ _ _ _ _ _ _ _ _ _ _ _ _ _ _ _ _ _ _ _ _ _ _ _ _ _ _ _ _ _ _ _ _ _ _ _ _ _ _ _ _ _ _ _ _ _ _ _ _ _ _ _ _ _ hHeld.2
set_option maxHeartbeats 40000000 in
set_option maxRecDepth 100000 in
theorem last_regionU {K0 : Act → World → Prop} {R0 : Ending → World → Prop} {we : World} {g9 m9 c9 : Nat} {k9 n9 : Int} {s9 : ByteArray} {a9 : Option Addr}
    {y0 y1 y2 y4 y10 y11 y17 y18 y22 y23 y24 y25 y26 y27 y28 y29 y30 y31 y32 y33 y34 y35 y36 y37 y38 y39 y40 y41 y42 y43 y44 y45 y46 y47 y48 y49 y50 y51 y52 y53 y54 y55 y56 y57 y58 y59 y60 y61 y62 y63 y64 y65 y66 y67 y68 y69 y70 y71 y72 y73 y74 y75 y76 y77 y78 y79 y80 y81 y82 y83 y84 y85 y86 y87 y88 y89 y90 y91 y92 y93 y94 y95 y96 y97 y98 y99 y100 y101 y102 y103 y104 y105 y106 y107 y108 y109 y110 y111 y112 y113 y114 y115 y116 y117 y118 y119 y120 y121 y122 y123 y124 y125 y126 y127 y128 y129 y130 y131 y132 y133 y134 y135 y136 y137 y138 y139 y140 y141 y142 y143 y144 y145 y146 y147 y148 y149 y150 y151 y152 y153 y154 y155 y156 y157 y158 y159 y160 y161 y162 y163 y164 y165 y166 y167 y168 y169 y170 y171 y172 y173 y174 y175 y176 y177 y178 : Value}
    (hG : TmV we (varV 1) (.agg #[.int .i64 k9, .int .i64 n9, .string s9, .slice a9 m9 c9])) (hB : ∀ wq, Below we.heap.size we wq → (wq.cell? ⟨g9, 0, none⟩ = some (.int .i64 k9) ∧ wq.cell? ⟨g9, 1, none⟩ = some (.int .i64 n9) ∧ wq.cell? ⟨g9, 2, none⟩ = some (.string s9) ∧ wq.cell? ⟨g9, 3, none⟩ = some (.slice a9 m9 c9)))
    (hQ : ∀ (x102 x103 x104 x105 x106 x107 x108 x109 x110 x111 x112 x113 x114 x115 x116 x117 x118 x119 x120 x121 x122 x123 x124 x125 x126 x127 x128 x129 x130 x131 x132 x133 x134 x135 x136 x137 x138 x139 x140 x141 x142 x143 x144 x145 x146 x147 x148 x149 x150 x151 x152 x153 x154 x155 x156 x157 x158 x159 x160 x161 x162 x163 x164 x165 x166 x167 x168 x169 x170 x171 x172 x173 x174 x175 x176 x177 x178 : Value) (w' : World), Below we.heap.size we w' → K0 ⟨#[.bool true, y1, y2, .bool false, y4, .int .i64 0, .bool true, .int .i64 1, .int .i64 0, .pointer (some ⟨g9, 0, none⟩), y10, y11, .int .i64 1, .bool false, .int .i64 4, .int .i64 0, .int .i64 1, y17, y18, .bool false, .int .i64 0, .int .i64 12, y22, y23, y24, y25, y26, y27, y28, y29, y30, y31, y32, y33, y34, y35, y36, y37, y38, y39, y40, y41, y42, y43, y44, y45, y46, y47, y48, y49, y50, y51, y52, y53, y54, y55, y56, y57, y58, y59, y60, y61, y62, y63, y64, y65, y66, y67, y68, y69, y70, y71, y72, y73, y74, y75, y76, y77, y78, y79, y80, y81, y82, y83, y84, y85, y86, y87, y88, y89, y90, y91, y92, y93, y94, y95, y96, y97, y98, y99, y100, y101, x102, x103, x104, x105, x106, x107, x108, x109, x110, x111, x112, x113, x114, x115, x116, x117, x118, x119, x120, x121, x122, x123, x124, x125, x126, x127, x128, x129, x130, x131, x132, x133, x134, x135, x136, x137, x138, x139, x140, x141, x142, x143, x144, x145, x146, x147, x148, x149, x150, x151, x152, x153, x154, x155, x156, x157, x158, x159, x160, x161, x162, x163, x164, x165, x166, x167, x168, x169, x170, x171, x172, x173, x174, x175, x176, x177, x178], []⟩ w') :
    Code.wp Try.prog lastRegU (Exit.then K0 (bodyPost Try.prog Try.f6 R0)) ⟨#[y0, y1, y2, .bool false, y4, .int .i64 0, .bool true, .int .i64 1, .int .i64 0, .pointer (some ⟨g9, 0, none⟩), y10, y11, .int .i64 1, .bool false, .int .i64 4, .int .i64 0, .int .i64 1, y17, y18, .bool false, .int .i64 0, .int .i64 12, y22, y23, y24, y25, y26, y27, y28, y29, y30, y31, y32, y33, y34, y35, y36, y37, y38, y39, y40, y41, y42, y43, y44, y45, y46, y47, y48, y49, y50, y51, y52, y53, y54, y55, y56, y57, y58, y59, y60, y61, y62, y63, y64, y65, y66, y67, y68, y69, y70, y71, y72, y73, y74, y75, y76, y77, y78, y79, y80, y81, y82, y83, y84, y85, y86, y87, y88, y89, y90, y91, y92, y93, y94, y95, y96, y97, y98, y99, y100, y101, y102, y103, y104, y105, y106, y107, y108, y109, y110, y111, y112, y113, y114, y115, y116, y117, y118, y119, y120, y121, y122, y123, y124, y125, y126, y127, y128, y129, y130, y131, y132, y133, y134, y135, y136, y137, y138, y139, y140, y141, y142, y143, y144, y145, y146, y147, y148, y149, y150, y151, y152, y153, y154, y155, y156, y157, y158, y159, y160, y161, y162, y163, y164, y165, y166, y167, y168, y169, y170, y171, y172, y173, y174, y175, y176, y177, y178], []⟩ we := by
  have HTG := Lib.hid hG
  have HB := Lib.hid hB
  have HQ := Lib.hid hQ
  have HC := Lib.hid (fun (wq : World) (hb : Below we.heap.size we wq) => (show ((wq.cell? ⟨g9, 0, none⟩ = some (.int .i64 k9) ∧ wq.cell? ⟨g9, 1, none⟩ = some (.int .i64 n9) ∧ wq.cell? ⟨g9, 2, none⟩ = some (.string s9) ∧ wq.cell? ⟨g9, 3, none⟩ = some (.slice a9 m9 c9)) ∧ Below we.heap.size we wq) from ⟨HB.out wq hb, hb⟩))
  clear hG hB hQ
  conv => arg 2; whnf
  simp only [List.append_eq, List.cons_append, List.nil_append]
  refine wp_region_held_drew (S := fun wq => ((wq.cell? ⟨g9, 0, none⟩ = some (.int .i64 k9) ∧ wq.cell? ⟨g9, 1, none⟩ = some (.int .i64 n9) ∧ wq.cell? ⟨g9, 2, none⟩ = some (.string s9) ∧ wq.cell? ⟨g9, 3, none⟩ = some (.slice a9 m9 c9)) ∧ Below we.heap.size we wq)) (by kernel_rfl) (HC.out _ (Below.refl _ _).drew) (fun hHeld => ?_)
  first | (refine held_t (i := 0) hHeld ?_; apply Exists.intro; refine ⟨fun wq hq => ?_, ?_⟩; (focus ((try dsimp only at hq); go_simp; (first | done | with_reducible rfl | fail)))) | refine held_s (i := 0) hHeld ?_ | fail
  first | (refine held_t (i := 1) hHeld ?_; apply Exists.intro; refine ⟨fun wq hq => ?_, ?_⟩; (focus ((try dsimp only at hq); go_simp; (first | done | with_reducible rfl | fail)))) | refine held_s (i := 1) hHeld ?_ | fail
  try simp only [Act.put, List.setIfInBounds_toArray, List.set_cons_zero, List.set_cons_succ]
  first | (refine held_t (i := 2) hHeld ?_; apply Exists.intro; refine ⟨fun wq hq => ?_, ?_⟩; (focus ((try dsimp only at hq); go_simp; (first | done | with_reducible rfl | fail)))) | refine held_s (i := 2) hHeld ?_ | fail
  first | (refine held_t (i := 3) hHeld ?_; apply Exists.intro; refine ⟨fun wq hq => ?_, ?_⟩; (focus ((try dsimp only at hq); go_simp; (first | done | with_reducible rfl | fail)))) | refine held_s (i := 3) hHeld ?_ | fail
  try simp only [Act.put, List.setIfInBounds_toArray, List.set_cons_zero, List.set_cons_succ]
  first | (refine held_t (i := 4) hHeld ?_; apply Exists.intro; refine ⟨fun wq hq => ?_, ?_⟩; (focus ((try dsimp only at hq); go_simp; (first | done | with_reducible rfl | fail)))) | refine held_s (i := 4) hHeld ?_ | fail
  first | (refine held_t (i := 5) hHeld ?_; apply Exists.intro; refine ⟨fun wq hq => ?_, ?_⟩; (focus ((try dsimp only at hq); go_simp; (first | done | with_reducible rfl | fail)))) | refine held_s (i := 5) hHeld ?_ | fail
  try simp only [Act.put, List.setIfInBounds_toArray, List.set_cons_zero, List.set_cons_succ]
  first | (refine held_t (i := 6) hHeld ?_; apply Exists.intro; refine ⟨fun wq hq => ?_, ?_⟩; (focus ((try dsimp only at hq); go_simp; (first | done | with_reducible rfl | fail)))) | refine held_s (i := 6) hHeld ?_ | fail
  first | (refine held_t (i := 7) hHeld ?_; apply Exists.intro; refine ⟨fun wq hq => ?_, ?_⟩; (focus ((try dsimp only at hq); go_simp; (first | done | with_reducible rfl | fail)))) | refine held_s (i := 7) hHeld ?_ | fail
  try simp only [Act.put, List.setIfInBounds_toArray, List.set_cons_zero, List.set_cons_succ]
  first | (refine held_t (i := 8) hHeld ?_; apply Exists.intro; refine ⟨fun wq hq => ?_, ?_⟩; (focus ((try dsimp only at hq); go_simp; (first | done | with_reducible rfl | fail)))) | refine held_s (i := 8) hHeld ?_ | fail
  first | (refine held_t (i := 9) hHeld ?_; apply Exists.intro; refine ⟨fun wq hq => ?_, ?_⟩; (focus ((try dsimp only at hq); go_simp; (first | done | with_reducible rfl | fail)))) | refine held_s (i := 9) hHeld ?_ | fail
  try simp only [Act.put, List.setIfInBounds_toArray, List.set_cons_zero, List.set_cons_succ]
  first | (refine held_t (i := 10) hHeld ?_; apply Exists.intro; refine ⟨fun wq hq => ?_, ?_⟩; (focus ((try dsimp only at hq); go_simp; (first | done | with_reducible rfl | fail)))) | refine held_s (i := 10) hHeld ?_ | fail
  first | (refine held_t (i := 11) hHeld ?_; apply Exists.intro; refine ⟨fun wq hq => ?_, ?_⟩; (focus ((try dsimp only at hq); go_simp; (first | done | with_reducible rfl | fail)))) | refine held_s (i := 11) hHeld ?_ | fail
  try simp only [Act.put, List.setIfInBounds_toArray, List.set_cons_zero, List.set_cons_succ]
  first | (refine held_t (i := 12) hHeld ?_; apply Exists.intro; refine ⟨fun wq hq => ?_, ?_⟩; (focus ((try dsimp only at hq); go_simp; (first | done | with_reducible rfl | fail)))) | refine held_s (i := 12) hHeld ?_ | fail
  first | (refine held_t (i := 13) hHeld ?_; apply Exists.intro; refine ⟨fun wq hq => ?_, ?_⟩; (focus ((try dsimp only at hq); go_simp; (first | done | with_reducible rfl | fail)))) | refine held_s (i := 13) hHeld ?_ | fail
  try simp only [Act.put, List.setIfInBounds_toArray, List.set_cons_zero, List.set_cons_succ]
  first | (refine held_t (i := 14) hHeld ?_; apply Exists.intro; refine ⟨fun wq hq => ?_, ?_⟩; (focus ((try dsimp only at hq); go_simp; (first | done | with_reducible rfl | fail)))) | refine held_s (i := 14) hHeld ?_ | fail
  first | (refine held_t (i := 15) hHeld ?_; apply Exists.intro; refine ⟨fun wq hq => ?_, ?_⟩; (focus ((try dsimp only at hq); go_simp; (first | done | with_reducible rfl | fail)))) | refine held_s (i := 15) hHeld ?_ | fail
  try simp only [Act.put, List.setIfInBounds_toArray, List.set_cons_zero, List.set_cons_succ]
  first | (refine held_t (i := 16) hHeld ?_; apply Exists.intro; refine ⟨fun wq hq => ?_, ?_⟩; (focus ((try dsimp only at hq); go_simp; (first | done | with_reducible rfl | fail)))) | refine held_s (i := 16) hHeld ?_ | fail
  first | (refine held_t (i := 17) hHeld ?_; apply Exists.intro; refine ⟨fun wq hq => ?_, ?_⟩; (focus ((try dsimp only at hq); go_simp; (first | done | with_reducible rfl | fail)))) | refine held_s (i := 17) hHeld ?_ | fail
  try simp only [Act.put, List.setIfInBounds_toArray, List.set_cons_zero, List.set_cons_succ]
  first | (refine held_t (i := 18) hHeld ?_; apply Exists.intro; refine ⟨fun wq hq => ?_, ?_⟩; (focus ((try dsimp only at hq); go_simp; (first | done | with_reducible rfl | fail)))) | refine held_s (i := 18) hHeld ?_ | fail
  try simp only [Act.put, List.setIfInBounds_toArray, List.set_cons_zero, List.set_cons_succ]
  refine held_c 19 fun K hK => ?_
  go_simp
  (go_at_call 19; refine (var_at _ 1).mono ?_; rintro e u1 ⟨rfl, h6⟩)
  refine hK.out _ _ (HC.out _ (Ext.trans' hHeld.2 h6)) (fun hHeld => ?_)
  clear hK K
  try simp only [Act.put, List.setIfInBounds_toArray, List.set_cons_zero, List.set_cons_succ]
  refine held_c 20 fun K hK => ?_
  go_simp
  (go_at_call 25; refine (Same_at (TmV.ext hHeld.2 _ _ HTG.out) (var_rd _ 1 i64_1)).mono ?_; rintro e u2 ⟨rfl, h6⟩; rw [uk11])
  refine hK.out _ _ (HC.out _ (Ext.trans' hHeld.2 h6)) (fun hHeld => ?_)
  clear hK K
  try simp only [Act.put, List.setIfInBounds_toArray, List.set_cons_zero, List.set_cons_succ]
  first | (refine held_t (i := 21) hHeld ?_; apply Exists.intro; refine ⟨fun wq hq => ?_, ?_⟩; (focus ((try dsimp only at hq); go_simp; (first | done | with_reducible rfl | fail)))) | refine held_s (i := 21) hHeld ?_ | fail
  first | (refine held_t (i := 22) hHeld ?_; apply Exists.intro; refine ⟨fun wq hq => ?_, ?_⟩; (focus ((try dsimp only at hq); go_simp; (first | done | with_reducible rfl | fail)))) | refine held_s (i := 22) hHeld ?_ | fail
  try simp only [Act.put, List.setIfInBounds_toArray, List.set_cons_zero, List.set_cons_succ]
  first | (refine held_t (i := 23) hHeld ?_; apply Exists.intro; refine ⟨fun wq hq => ?_, ?_⟩; (focus ((try dsimp only at hq); go_simp; (first | done | with_reducible rfl | fail)))) | refine held_s (i := 23) hHeld ?_ | fail
  first | (refine held_t (i := 24) hHeld ?_; apply Exists.intro; refine ⟨fun wq hq => ?_, ?_⟩; (focus ((try dsimp only at hq); go_simp; (first | done | with_reducible rfl | fail)))) | refine held_s (i := 24) hHeld ?_ | fail
  try simp only [Act.put, List.setIfInBounds_toArray, List.set_cons_zero, List.set_cons_succ]
  first | (refine held_t (i := 25) hHeld ?_; apply Exists.intro; refine ⟨fun wq hq => ?_, ?_⟩; (focus ((try dsimp only at hq); go_simp; (first | done | with_reducible rfl | fail)))) | refine held_s (i := 25) hHeld ?_ | fail
  first | (refine held_t (i := 26) hHeld ?_; apply Exists.intro; refine ⟨fun wq hq => ?_, ?_⟩; (focus ((try dsimp only at hq); go_simp; (first | done | with_reducible rfl | fail)))) | refine held_s (i := 26) hHeld ?_ | fail
  try simp only [Act.put, List.setIfInBounds_toArray, List.set_cons_zero, List.set_cons_succ]
  first | (refine held_t (i := 27) hHeld ?_; apply Exists.intro; refine ⟨fun wq hq => ?_, ?_⟩; (focus ((try dsimp only at hq); go_simp; (first | done | with_reducible rfl | fail)))) | refine held_s (i := 27) hHeld ?_ | fail
  first | (refine held_t (i := 28) hHeld ?_; apply Exists.intro; refine ⟨fun wq hq => ?_, ?_⟩; (focus ((try dsimp only at hq); go_simp; (first | done | with_reducible rfl | fail)))) | refine held_s (i := 28) hHeld ?_ | fail
  try simp only [Act.put, List.setIfInBounds_toArray, List.set_cons_zero, List.set_cons_succ]
  first | (refine held_t (i := 29) hHeld ?_; apply Exists.intro; refine ⟨fun wq hq => ?_, ?_⟩; (focus ((try dsimp only at hq); go_simp; (first | done | with_reducible rfl | fail)))) | refine held_s (i := 29) hHeld ?_ | fail
  first | (refine held_t (i := 30) hHeld ?_; apply Exists.intro; refine ⟨fun wq hq => ?_, ?_⟩; (focus ((try dsimp only at hq); go_simp; (first | done | with_reducible rfl | fail)))) | refine held_s (i := 30) hHeld ?_ | fail
  try simp only [Act.put, List.setIfInBounds_toArray, List.set_cons_zero, List.set_cons_succ]
  first | (refine held_t (i := 31) hHeld ?_; apply Exists.intro; refine ⟨fun wq hq => ?_, ?_⟩; (focus ((try dsimp only at hq); go_simp; (first | done | with_reducible rfl | fail)))) | refine held_s (i := 31) hHeld ?_ | fail
  first | (refine held_t (i := 32) hHeld ?_; apply Exists.intro; refine ⟨fun wq hq => ?_, ?_⟩; (focus ((try dsimp only at hq); go_simp; (first | done | with_reducible rfl | fail)))) | refine held_s (i := 32) hHeld ?_ | fail
  try simp only [Act.put, List.setIfInBounds_toArray, List.set_cons_zero, List.set_cons_succ]
  first | (refine held_t (i := 33) hHeld ?_; apply Exists.intro; refine ⟨fun wq hq => ?_, ?_⟩; (focus ((try dsimp only at hq); go_simp; (first | done | with_reducible rfl | fail)))) | refine held_s (i := 33) hHeld ?_ | fail
  first | (refine held_t (i := 34) hHeld ?_; apply Exists.intro; refine ⟨fun wq hq => ?_, ?_⟩; (focus ((try dsimp only at hq); go_simp; (first | done | with_reducible rfl | fail)))) | refine held_s (i := 34) hHeld ?_ | fail
  try simp only [Act.put, List.setIfInBounds_toArray, List.set_cons_zero, List.set_cons_succ]
  first | (refine held_t (i := 35) hHeld ?_; apply Exists.intro; refine ⟨fun wq hq => ?_, ?_⟩; (focus ((try dsimp only at hq); go_simp; (first | done | with_reducible rfl | fail)))) | refine held_s (i := 35) hHeld ?_ | fail
  first | (refine held_t (i := 36) hHeld ?_; apply Exists.intro; refine ⟨fun wq hq => ?_, ?_⟩; (focus ((try dsimp only at hq); go_simp; (first | done | with_reducible rfl | fail)))) | refine held_s (i := 36) hHeld ?_ | fail
  try simp only [Act.put, List.setIfInBounds_toArray, List.set_cons_zero, List.set_cons_succ]
  first | (refine held_t (i := 37) hHeld ?_; apply Exists.intro; refine ⟨fun wq hq => ?_, ?_⟩; (focus ((try dsimp only at hq); go_simp; (first | done | with_reducible rfl | fail)))) | refine held_s (i := 37) hHeld ?_ | fail
  first | (refine held_t (i := 38) hHeld ?_; apply Exists.intro; refine ⟨fun wq hq => ?_, ?_⟩; (focus ((try dsimp only at hq); go_simp; (first | done | with_reducible rfl | fail)))) | refine held_s (i := 38) hHeld ?_ | fail
  try simp only [Act.put, List.setIfInBounds_toArray, List.set_cons_zero, List.set_cons_succ]
  refine held_list2 #[true, true, true, true, true, true, true, true, true, true, true, true, true, true, true, true, true, true, true, true, true, true, true, true, true, true, true, true, true, true, true, true, true, true, true, true, true, true, true, false, false, false, false, false, false, false, false, false, false, false, false, false, false, false, false, false, false, false, false, false, false, false, false, false, false, false, false, false, false, false, false, false, false, false, false, false, false, false] 39 (by kernel_rfl) (by kernel_rfl) ?_
  exact tailU2 HTG.out HB.out HQ.out hHeld.2
end Go.Proofs.Ytbbbgijlbcmpbaa
/- Stage 12's laws: UnifyKnown. (gen_unifyknown.py) -/
namespace Go.Proofs.Ytbbbgijlbcmpbaa
open Go.RowKit
set_option linter.unusedVariables false

theorem i64u (n : Int) (h : -1000 ≤ n ∧ n ≤ 1000) : I64 n := by unfold I64; omega
/-- Comp of two leaves, made since w0; what was made since w0 ahead of it is kept. -/
theorem comp_two_by {w0 w : World} {x : Tm} {v : Value} (hb : Below w0.heap.size w0 w) (hx : TmV (hide (under w0.heap.size) w) x v) (t s s' : ByteArray) (ht : t.size ≤ BIG) {k n k' n' : Int} (hk : I64 k) (hn : I64 n) (hs : s.size ≤ BIG) (hk' : I64 k') (hn' : I64 n') (hs' : s'.size ≤ BIG) :
    Calls Try.prog 20 #[.string t, .slice (some ⟨w.heap.size, 0, none⟩) 2 2] (w.alloc (.cells #[.int .i64 k, .int .i64 n, .string s, .slice none 0 0, .int .i64 k', .int .i64 n', .string s', .slice none 0 0] 31))
      fun e w' => ∃ a c, e = .returned (.agg #[.int .i64 2, .int .i64 0, .string t, .slice a 2 c]) ∧ TmV (hide (under w0.heap.size) w') x v ∧ TmV (hide (under w0.heap.size) w') (.mk 2 0 t [.mk k n s [], .mk k' n' s' []]) (.agg #[.int .i64 2, .int .i64 0, .string t, .slice a 2 c]) ∧ Below w0.heap.size w0 w' := by
  have h1 := two_hide (D := under w0.heap.size) w 31 hk hn hs hk' hn' hs' (old_under hb.size)
  refine (comp_hide t ht (old_under (by have := hb.size; have := (bel1' w (.cells #[.int .i64 k, .int .i64 n, .string s, .slice none 0 0, .int .i64 k', .int .i64 n', .string s', .slice none 0 0] 31)).size; omega)) h1).mono ?_
  rintro e w' ⟨a, c, rfl, hT, hB⟩
  have hb' := Ext.trans' (bel1' w (.cells #[.int .i64 k, .int .i64 n, .string s, .slice none 0 0, .int .i64 k', .int .i64 n', .string s', .slice none 0 0] 31)) hB
  exact ⟨a, c, rfl, TmV.later hb' hx, hT, Ext.trans' hb hb'⟩
set_option maxHeartbeats 16000000 in
set_option maxRecDepth 100000 in
theorem uknown_walk (W : World) : Calls Try.prog 6 #[] W fun e w' => IsBool W true e w' := by
  go_enter Try.func6, Try.ntmps6
  (go_wp2_with fail; go_fit (uawake_at _); rintro e w1 ⟨rfl, b1⟩)
  have B1 := Lib.hid b1
  clear b1
  (go_wp2_with fail; go_fit (both12_at (V := w1) (Stays.refl w1) 40 (by omega)); rintro e w2 ⟨p, q, rfl, h2⟩)
  obtain ⟨bt, rfl⟩ : ∃ bt, p = .pointer (some ⟨bt, 0, none⟩) := by obtain ⟨_, _, h, _⟩ := h2; obtain ⟨bt, _, _, _, rfl, _⟩ := h.open; exact ⟨bt, rfl⟩
  obtain ⟨bq, rfl⟩ : ∃ bq, q = .pointer (some ⟨bq, 0, none⟩) := by obtain ⟨_, _, _, h, _⟩ := h2; obtain ⟨bt, _, _, _, _, _, _, rfl, _⟩ := h.open; exact ⟨bt, rfl⟩
  have HK := Lib.hid (KB_new h2 B1.out)
  clear h2
  have HB := Lib.hid (Below.refl w2.heap.size w2)
  (go_wp2_with fail; go_fit (var_at _ 0); rintro e w11 ⟨rfl, b⟩)
  replace HB := Lib.hid (Ext.trans' HB.out b)
  clear b
  (go_wp2_with fail; go_fit (var_at _ 0); rintro e w12 ⟨rfl, b⟩)
  replace HB := Lib.hid (Ext.trans' HB.out b)
  clear b
  have C := comp_one HB.out ⟨#[102]⟩ ⟨#[]⟩ (big_1 _) (k := 0) (n := 0) (i64u _ (by omega)) (i64u _ (by omega)) big_0
  (go_wp2_with fail; go_fit (C); rintro e w13 ⟨a, c, rfl, ht, b⟩)
  replace HB := Lib.hid b
  have HT := Lib.hid ht
  clear b ht C
  have C := KB_both HK.out HB.out (var_rd _ 0 (i64u _ (by omega))) HT.out uk1
  (go_wp2_with fail; go_fit (C); rintro e w14 ⟨rfl, hk⟩)
  replace HK := Lib.hid (show KB W _ _ 40 [] _ _ from hk)
  clear hk C HB
  clear HT
  have HB := Lib.hid (Below.refl w14.heap.size w14)
  (go_wp2_with fail; go_fit (var_at _ 3); rintro e w15 ⟨rfl, b⟩)
  replace HB := Lib.hid (Ext.trans' HB.out b)
  clear b
  (go_wp2_with fail; go_fit (var_at _ 1); rintro e w16 ⟨rfl, b⟩)
  replace HB := Lib.hid (Ext.trans' HB.out b)
  clear b
  have C := KB_both HK.out HB.out (var_rd _ 3 (i64u _ (by omega))) (var_rd _ 1 (i64u _ (by omega))) uk2
  (go_wp2_with fail; go_fit (C); rintro e w17 ⟨rfl, hk⟩)
  replace HK := Lib.hid (show KB W _ _ 40 uS0 _ _ from hk)
  clear hk C HB
  have HB := Lib.hid (Below.refl w17.heap.size w17)
  (go_wp2_with fail; go_fit (var_at _ 3); rintro e w18 ⟨rfl, b⟩)
  replace HB := Lib.hid (Ext.trans' HB.out b)
  clear b
  have C := KB_walk HK.out HB.out (n := 3) (by omega) uk12
  (go_wp2_with fail; go_fit (C); rintro e w19 ⟨v9, rfl, hk, b⟩)
  obtain ⟨k9, n9, s9, a9, m9, c9, rfl, f1, f2, f3, f4⟩ := four_of (hk.tm (x := .mk 0 1 ⟨#[]⟩ []) List.mem_cons_self)
  obtain ⟨wb, eb, bb, zb, xb⟩ := box_new w19 #[.int .i64 k9, .int .i64 n9, .string s9, .slice a9 m9 c9] 31
  have HW := Lib.hid (hk.four (Nat.le_refl _) bb xb)
  obtain ⟨g9, hg9⟩ : ∃ g, w19.heap.size = g := ⟨_, rfl⟩
  rw [hg9] at HW
  have HE := Lib.hid (And.intro eb hg9)
  clear HK hk C HB b bb zb xb eb hg9 f1 f2 f3 f4
  go_upto_region 7 with fail
  (try rw [HE.out.1])
  (try rw [HE.out.2])
  have HK := HW
  clear HW HE
  have HB := Lib.hid (Below.refl wb.heap.size wb)
  (go_wp2_with fail; go_fit (var_at _ 40); rintro e w20 ⟨rfl, b⟩)
  replace HB := Lib.hid (Ext.trans' HB.out b)
  clear b
  (go_wp2_with fail; go_fit (int_at _ 1); rintro e w21 ⟨rfl, b⟩)
  replace HB := Lib.hid (Ext.trans' HB.out b)
  clear b
  have C := KB_both HK.out HB.out (var_rd _ 40 (i64u _ (by omega))) (int_rd _ 1 (i64u _ (by omega))) uk3
  (go_wp2_with fail; go_fit (C); rintro e w22 ⟨rfl, hk⟩)
  replace HK := Lib.hid (show KB W _ _ 40 uS0 _ _ from hk)
  clear hk C HB
  have HB := Lib.hid (Below.refl w22.heap.size w22)
  (go_wp2_with fail; go_fit (var_at _ 2); rintro e w23 ⟨rfl, b⟩)
  replace HB := Lib.hid (Ext.trans' HB.out b)
  clear b
  (go_wp2_with fail; go_fit (int_at _ 1); rintro e w24 ⟨rfl, b⟩)
  replace HB := Lib.hid (Ext.trans' HB.out b)
  clear b
  have C := comp_two HB.out ⟨#[102]⟩ ⟨#[]⟩ ⟨#[]⟩ (big_1 _) (k := 0) (n := 2) (k' := 1) (n' := 1) (i64u _ (by omega)) (i64u _ (by omega)) big_0 (i64u _ (by omega)) (i64u _ (by omega)) big_0
  (go_wp2_with fail; go_fit (C); rintro e w25 ⟨aHT1, cHT1, rfl, ht, b⟩)
  replace HB := Lib.hid b
  have HT1 := Lib.hid ht
  clear b ht C
  (go_wp2_with fail; go_fit (int_at _ 2); rintro e w26 ⟨rfl, b⟩)
  replace HT1 := Lib.hid (TmV.later b HT1.out)
  replace HB := Lib.hid (Ext.trans' HB.out b)
  clear b
  (go_wp2_with fail; go_fit (int_at _ 3); rintro e w27 ⟨rfl, b⟩)
  replace HT1 := Lib.hid (TmV.later b HT1.out)
  replace HB := Lib.hid (Ext.trans' HB.out b)
  clear b
  have HCW := Lib.hid (comp_two_by HB.out HT1.out ⟨#[102]⟩ ⟨#[]⟩ ⟨#[]⟩ (big_1 _) (k := 1) (n := 2) (k' := 1) (n' := 3) (i64u _ (by omega)) (i64u _ (by omega)) big_0 (i64u _ (by omega)) (i64u _ (by omega)) big_0)
  (go_wp2_with fail; go_fit (HCW.out); rintro e w28 ⟨aT2, cT2, rfl, ht1, ht2, b⟩)
  replace HB := Lib.hid b
  have HT1 := Lib.hid ht1
  have HT2 := Lib.hid ht2
  clear b ht1 ht2 HCW
  have C := KB_both HK.out HB.out HT1.out HT2.out uk4
  (go_wp2_with fail; go_fit (C); rintro e w29 ⟨rfl, hk⟩)
  replace HK := Lib.hid (show KB W _ _ 40 uS0 _ _ from hk)
  clear hk C HB
  clear HT1 HT2
  have HB := Lib.hid (Below.refl w29.heap.size w29)
  have C := KB_mark HK.out HB.out (m := 1) rfl
  (go_wp2_with fail; go_fit (C); rintro e w30 ⟨rfl, hE⟩)
  subst hE
  clear C HB
  go_wp2_with fail
  go_loopw [17, 18] (fun z _ wr => ∃ j : Nat, j ≤ 15 ∧ z = .int .i64 ((5 + j : Nat) : Int) ∧ Hid (KB W wr (.pointer (some ⟨bt, 0, none⟩)) 40 (uD j) [(g9, 0, .int .i64 k9), (g9, 1, .int .i64 n9), (g9, 2, .string s9), (g9, 3, .slice a9 m9 c9)] [(.mk 0 1 ⟨#[]⟩ [], .agg #[.int .i64 k9, .int .i64 n9, .string s9, .slice a9 m9 c9])])) (fun z _ _ => 20 - (intOf z).toNat)
  case atStart => exact ⟨0, by omega, rfl, HK⟩
  case round =>
    obtain ⟨j, hj, rfl, HP⟩ := hrel
    clear HK
    by_cases hj12 : j < 15
    · obtain ⟨i, hi⟩ : ∃ i : Nat, 5 + j = i := ⟨_, rfl⟩
      obtain ⟨i2, hi2⟩ : ∃ i : Nat, 6 + j = i := ⟨_, rfl⟩
      have hk14 := uk5 j hj12
      have HN := Lib.hid (And.intro hi hi2)
      rw [hi, hi2] at hk14
      rw [hi]
      have hi15 : (i : Int) < 20 := by omega
      have hi2s : (i : Int) + 1 = (i2 : Int) := by omega
      have hwi : IntKind.i64.wrap (i2 : Int) = (i2 : Int) := by rw [IntKind.wrap_i64]; omega
      have hI2 : I64 (i2 : Int) := by unfold I64; omega
      have hI1 : I64 (i : Int) := by unfold I64; omega
      have HK14 := Lib.hid hk14
      clear hi hi2 hk14
      (go_wp2_with fail; go_fit (var_at _ i2); rintro e wv ⟨rfl, bv⟩)
      obtain ⟨wx, ex, bx, zx, xx⟩ := box_new wv #[.int .i64 0, .int .i64 i2, .string ⟨#[]⟩, .slice none 0 0] 31
      have HX := Lib.hid (And.intro (Ext.trans' bv bx) xx)
      have HEX := Lib.hid ex
      obtain ⟨x0, x1, x2, x3, _⟩ := xx.four
      have C := comp_two HX.out.1 ⟨#[100]⟩ ⟨#[]⟩ ⟨#[]⟩ (big_1 _) (k := 0) (n := i2) (k' := 0) (n' := i2) (i64u _ (by omega)) hI2 big_0 (i64u _ (by omega)) hI2 big_0
      clear bv bx zx xx ex
      go_upto_region 14 with fail
      (try rw [HEX.out])
      (go_wp2_with fail; go_fit (C); rintro e wy ⟨a, c, rfl, ht, by'⟩)
      have HY := Lib.hid (And.intro by' ht)
      have C := KB_set HP.out HY.out.1 HY.out.2 (n := (i : Int)) hI1 HK14.out (S' := ((i : Int), dblT i2) :: uD j) (by rfl)
      clear by' ht x0 x1 x2 x3
      (go_wp2_with fail; go_fit (C); rintro e wz ⟨rfl, hk⟩)
      have HZ := Lib.hid (show KB W wz _ 40 (uD (j + 1)) _ _ from by have h := hk; rw [← HN.out.1, ← HN.out.2] at h; exact h)
      have hE3 : (i : Int) + 1 = ((5 + (j + 1) : Nat) : Int) := by have := HN.out.1; omega
      have HE3 := Lib.hid hE3
      clear hk C hE3
      go_wp2
      go_roundw
      case rel => exact ⟨j + 1, by omega, (by have h1 := HE3.out; have h2 := HN.out; first | go_num | (congr 1; omega) | (rw [show ((5 + (j + 1) : Nat) : Int) = (i2 : Int) by omega]; go_num)), HZ⟩
      case measure => have := HN.out.1; simp [intOf]; omega
    · obtain rfl : j = 15 := by omega
      have HK := HP
      clear HP hj hj12
      have HB := Lib.hid (Below.refl wr.heap.size wr)
      (go_wp2_with fail; go_fit (var_at _ 6); rintro e w31 ⟨rfl, b⟩)
      replace HB := Lib.hid (Ext.trans' HB.out b)
      clear b
      (go_wp2_with fail; go_fit (var_at _ 6); rintro e w32 ⟨rfl, b⟩)
      replace HB := Lib.hid (Ext.trans' HB.out b)
      clear b
      have C := comp_two HB.out ⟨#[100]⟩ ⟨#[]⟩ ⟨#[]⟩ (big_1 _) (k := 0) (n := 6) (k' := 0) (n' := 6) (i64u _ (by omega)) (i64u _ (by omega)) big_0 (i64u _ (by omega)) (i64u _ (by omega)) big_0
      (go_wp2_with fail; go_fit (C); rintro e w33 ⟨aHT, cHT, rfl, ht, b⟩)
      replace HB := Lib.hid b
      have HT := Lib.hid ht
      clear b ht C
      have C := KB_set HK.out HB.out HT.out (n := 25) (i64u _ (by omega)) uk6 (S' := uE) (by rfl)
      (go_wp2_with fail; go_fit (C); rintro e w34 ⟨rfl, hk⟩)
      replace HK := Lib.hid hk
      clear hk C HB HT
      have HB := Lib.hid (Below.refl w34.heap.size w34)
      (go_wp2_with fail; go_fit (var_at _ 25); rintro e w35 ⟨rfl, b⟩)
      replace HB := Lib.hid (Ext.trans' HB.out b)
      clear b
      (go_wp2_with fail; go_fit (var_at _ 5); rintro e w36 ⟨rfl, b⟩)
      replace HB := Lib.hid (Ext.trans' HB.out b)
      clear b
      have C := KB_both HK.out HB.out (var_rd _ 25 (i64u _ (by omega))) (var_rd _ 5 (i64u _ (by omega))) uk7
      (go_wp2_with fail; go_fit (C); rintro e w37 ⟨rfl, hk⟩)
      replace HK := Lib.hid (show KB W _ _ 40 uE _ _ from hk)
      clear hk C HB
      go_upto_region 18 with fail
      have HEND := Lib.hid HK.out.bel
      refine last_regionU (HK.out.tm (x := .mk 0 1 ⟨#[]⟩ []) (v := (.agg #[.int .i64 k9, .int .i64 n9, .string s9, .slice a9 m9 c9])) (by simp)) (fun wq hb => ⟨(HK.out.ext hb).get (b := g9) (o := 0) (v := .int .i64 k9) (by simp), (HK.out.ext hb).get (b := g9) (o := 1) (v := .int .i64 n9) (by simp), (HK.out.ext hb).get (b := g9) (o := 2) (v := .string s9) (by simp), (HK.out.ext hb).get (b := g9) (o := 3) (v := .slice a9 m9 c9) (by simp)⟩) ?_
      intros
      rename_i wE hE
      go_wp2
      go_ret
      exact ⟨rfl, HEND.out.trans (hE.mono HEND.out.size)⟩
end Go.Proofs.Ytbbbgijlbcmpbaa
/- UnifyKnown: what chapter 12 says of what stands in itself, of what is too great: the law answers true. No condition. -/
namespace Go.Proofs.Ytbbbgijlbcmpbaa
open Go.RowKit
namespace unifyKnown
open Go.ChangeShapes Go.WideShapes Go.ChangeAt Go.RowKit
theorem own : ownKnob Try.prog.godebug = none := by kernel_rfl
set_option linter.unusedVariables false
set_option maxRecDepth 100000 in
theorem lifted (os : Os) (started : os.Started) (H : Type) (enc : TypeId × Value → H) :
    ReturnsInHanded {} Try.checked os 6 .any (Rows.unifyKnownSpec.pre6 enc Try.prog Try.f6 Rows.unifyKnownRow.domain false) (Rows.unifyKnownSpec.post enc Try.prog Try.f6 false true false false) := by
  refine returnsInHanded_of_change_sized (C := Try.checked) own started (by kernel_rfl) Try.func6
    (ChangeSpec.witness6 (enc := enc) (C := Try.checked) false ⟨#[], #[], []⟩ 8 (by kernel_rfl) (by kernel_rfl) (by kernel_rfl) (by kernel_rfl)) ?_
  intro W base args ds gs before hval0 hW hcnd hsz0 _
  have hval : ∀ (j : Nat) t v, Try.f6.params[j]? = some t → args[j]? = some v → Value.okWide Try.prog W .any base t v := hval0
  have hW' := hW
  obtain ⟨p, q, hA0, hV, rfl, hfz, hnd⟩ := hW
  have hA : DataW.TrodAll enc Try.prog W 0 (fun _ => true) true Try.f6.params.toList args.toList ds p := hA0
  have hsz : (DataW.weightsEach Try.prog (Try.f6.params.toList ++ []) (ds ++ gs)).all (· ≤ reachBytes) = true := hsz0
  rw [Try.params6] at hA hval hsz
  obtain ⟨rfl, rfl, rfl⟩ := trodAll_none hA
  obtain ⟨rfl, rfl⟩ := trodVars_none hV
  clear hA0 hval0 hsz0


  refine (uknown_walk W ).mono fun e W' ⟨he, bel⟩ => ?_
  subst he
  exact ⟨_, rfl, _, _, _, [], _, [], hW', trodAll_mk1 (shut_bool Try.underlying4 _), rfl, rfl, bel.frame _, fun h => by cases h⟩
theorem proved : Rows.UnifyKnownSaid :=
  OpenClaim.holds_of_wide 6 Try.f6 rfl rfl rfl rfl rfl rfl rfl ⟨rfl, rfl, rfl, rfl, rfl⟩ rfl rfl rfl rfl rfl (by kernel_rfl) Try.func6 (by kernel_rfl)
    (of_decide_eq_true (by kernel_rfl)) (by unfold Func.isWrapper; first | (rw [if_pos (by decide +kernel)]; kernel_rfl) | (rw [if_neg (by decide +kernel)]; exact ⟨rfl, rfl⟩))
    (fun os started H enc _ => lifted os started H enc)
#print axioms proved
end unifyKnown

end Go.Proofs.Ytbbbgijlbcmpbaa
