import Derived.Test.YtbbbgijlbcmpbaaHpfad
set_option linter.unusedVariables false
set_option linter.unusedSimpArgs false
/- AliasKnown: what it reckons; its last region, over a frame of letters. (gen_aliasknown.py) -/
namespace Go.Proofs.Ytbbbgijlbcmpbaa
open Go.RowKit
set_option linter.unusedVariables false

def kX : Tm := .mk 2 0 ⟨#[102]⟩ [varV 5, varV 6]
def kA : Tm := .mk 2 0 ⟨#[102]⟩ [varV 10, varV 11]
def kB : Tm := .mk 2 0 ⟨#[102]⟩ [varV 2147483646, varV 2147483647]
def kG : Tm := .mk 2 0 ⟨#[103]⟩ [varV 5]
def kY : Tm := .mk 2 0 ⟨#[102]⟩ [intT 1, kG]
def kZ : Tm := .mk 2 0 ⟨#[102]⟩ [varV 1, varV 1]
def tm8 : Tm := .mk 8 0 ⟨#[]⟩ []
def k99 : Tm := .mk 2 0 ⟨#[102]⟩ [varV 9, varV 9]
def k10 : Tm := .mk 2 0 ⟨#[102]⟩ [varV 1, varV 0]
theorem kn1 : fromE 10 kX = (kA, 12, 0) := by kernel_rfl
theorem kn2 : fromE 2147483647 kX = (varV 0, 0, 3) := by kernel_rfl
theorem kn3 : fromE (-1) kX = (varV 0, 0, 1) := by kernel_rfl
theorem kn4 : fromE 0 tm8 = (varV 0, 0, 1) := by kernel_rfl
theorem kn5 : fromE 2147483646 kX = (kB, 2147483648, 0) := by kernel_rfl
theorem kn6 : (goodT kA && goodT kA && sameT kA kA) = true := by kernel_rfl
theorem kn7 : moreB kX kY = true := by kernel_rfl
theorem kn8 : moreB kY kX = false := by kernel_rfl
theorem kn9 : moreB kX kZ = true := by kernel_rfl
theorem kn10 : moreB kZ kX = false := by kernel_rfl
theorem kn11 : moreB kZ kY = false := by kernel_rfl
theorem kn12 : moreB kZ k99 = true := by kernel_rfl
theorem kn13 : alikeB kX kZ = false := by kernel_rfl
theorem kn14 : alikeB kX k10 = true := by kernel_rfl
theorem kn15 : (goodT kY && decide (varsT kY [] = [])) = false := by kernel_rfl
theorem kn16 : (goodT tm8 && decide (varsT tm8 [] = [])) = false := by kernel_rfl
theorem kn17 : alikeB tm8 tm8 = false := by kernel_rfl
theorem eight_rd (w : World) : TmV w tm8 (.agg #[.int .i64 8, .int .i64 0, .string ⟨#[]⟩, .slice none 0 0]) := leaf_tm w (by unfold I64; omega) i64_0 big_0
theorem i64s (n : Int) (h : -1000 ≤ n ∧ n ≤ 1000) : I64 n := by unfold I64; omega
/-- Comp of two terms whatever. -/
theorem comp_pair {w : World} (t : ByteArray) (ht : t.size ≤ BIG) {x y : Tm} {k n : Int} {s : ByteArray} {a : Option Addr} {m c : Nat} {k' n' : Int} {s' : ByteArray} {a' : Option Addr} {m' c' : Nat} (hx : TmV w x (.agg #[.int .i64 k, .int .i64 n, .string s, .slice a m c])) (hy : TmV w y (.agg #[.int .i64 k', .int .i64 n', .string s', .slice a' m' c'])) :
    Calls Try.prog 20 #[.string t, .slice (some ⟨w.heap.size, 0, none⟩) 2 2] (w.alloc (.cells #[.int .i64 k, .int .i64 n, .string s, .slice a m c, .int .i64 k', .int .i64 n', .string s', .slice a' m' c'] 31))
      fun e w' => ∃ q z, e = .returned (.agg #[.int .i64 2, .int .i64 0, .string t, .slice q 2 z]) ∧ TmV w' (.mk 2 0 t [x, y]) (.agg #[.int .i64 2, .int .i64 0, .string t, .slice q 2 z]) ∧ Below w.heap.size w w' := by
  obtain ⟨w1, e1, B1, z1, X1⟩ := box_new w #[.int .i64 k, .int .i64 n, .string s, .slice a m c, .int .i64 k', .int .i64 n', .string s', .slice a' m' c'] 31
  rw [e1]
  have hc : ∀ j u, [Value.int .i64 k, .int .i64 n, .string s, .slice a m c, .int .i64 k', .int .i64 n', .string s', .slice a' m' c'][j]? = some u → (hide (fun _ => false) w1).cell? ⟨w.heap.size, j, none⟩ = some u := fun j u hj => by
    rw [hide_none]
    exact X1.cells j u hj
  have hT : Tms (hide (fun _ => false) w1) (.slice (some ⟨w.heap.size, 0, none⟩) 2 2) [x, y] := by
    refine ⟨some ⟨w.heap.size, 0, none⟩, 2, rfl, by simp, by unfold maxLen; omega, by unfold BIG; simp, Or.inr ⟨_, 0, rfl, by rw [hide_size]; exact X1.lt, ?_⟩⟩
    rw [TmRow, TmRow, TmRow]
    exact ⟨⟨_, _, _, _, hc 0 _ rfl, hc 1 _ rfl, hc 2 _ rfl, hc 3 _ rfl, by rw [hide_none]; exact TmV.ext B1 _ _ hx⟩, ⟨_, _, _, _, hc 4 _ rfl, hc 5 _ rfl, hc 6 _ rfl, hc 7 _ rfl, by rw [hide_none]; exact TmV.ext B1 _ _ hy⟩, trivial⟩
  refine (comp_hide t ht (fun _ _ => rfl) hT).mono ?_
  rintro e w' ⟨q, z, rfl, h, b⟩
  exact ⟨q, z, rfl, h.bare, Ext.trans' B1 b⟩
theorem held_list {P : Program} {md : Region.Mode} {ops : Array Oper} {Q : Exit → Act → World → Prop} {S : World → Prop} {fuel : Nat} {l : Array Bool} {a : Act} {w : World} (l' : Array Bool) (n' : Nat) (h : l = l') (hn : fuel = n') (g : wpAnyH P md ops Q S n' l' a w) : wpAnyH P md ops Q S fuel l a w := by subst h; subst hn; exact g
def findRegA (n : Nat) : Code → Option Code
  | .region id ops d => if id = n then some (.region id ops d) else none
  | .seq a b => match findRegA n a with
    | some c => some c
    | none => findRegA n b
  | .block _ c => findRegA n c
  | .scope c => findRegA n c
  | .loop c => findRegA n c
  | .cond _ a b => match findRegA n a with
    | some c => some c
    | none => findRegA n b
  | _ => none
noncomputable def lastRegA : Code := (Try.f9.body.bind (findRegA 11)).getD .skip
noncomputable def opsA : Array Oper := match lastRegA with
  | .region _ ops _ => ops
  | _ => #[]
set_option maxHeartbeats 40000000 in
set_option maxRecDepth 100000 in
theorem tailA3 {K0 : Act → World → Prop} {R0 : Ending → World → Prop} {we : World} {g1 g2 g17 g18 : Nat} {k1 n1 k2 n2 k7 n7 k8 n8 : Int} {s1 s2 s7 s8 : ByteArray} {a1 a2 a7 a8 : Option Addr} {m1 c1 m2 c2 m7 c7 m8 c8 : Nat}
    {wm : World} {y5 y6 y8 y9 y11 y12 y14 y19 y20 y21 y22 y23 y24 y25 y26 y27 y28 y29 y30 y31 y32 y33 y34 y35 y36 y37 y38 y39 y40 y41 y42 y43 y44 y45 y46 y47 y48 y49 y50 y51 y52 y53 y54 y55 y56 y57 y58 y59 y60 y61 y62 y63 y64 y136 y137 y138 y139 y140 y141 y142 y143 y144 y145 y146 y147 y148 y149 y150 y151 y152 y153 y154 y155 y156 y157 y158 y159 y160 y161 y162 y163 y164 x65 x66 x67 x68 x69 x70 x71 x72 x73 x74 x75 x76 x77 x78 x79 x80 x81 x82 x83 x84 x85 x86 x87 x88 x89 x90 x91 x92 x93 x94 x95 x96 x97 x98 x99 x100 x101 x102 x103 x104 x105 x106 x107 x108 x109 x110 x111 x112 x113 x114 x115 x116 x117 x118 x119 x120 x121 x122 x123 x124 x125 x126 x127 x128 x129 x130 x131 x132 x133 x134 : Value}
    (hX : TmV we kX (.agg #[.int .i64 k1, .int .i64 n1, .string s1, .slice a1 m1 c1])) (hA : TmV we kA (.agg #[.int .i64 k2, .int .i64 n2, .string s2, .slice a2 m2 c2])) (hY : TmV we kY (.agg #[.int .i64 k7, .int .i64 n7, .string s7, .slice a7 m7 c7])) (hZ : TmV we kZ (.agg #[.int .i64 k8, .int .i64 n8, .string s8, .slice a8 m8 c8]))
    (hB : Box we g1 [.int .i64 k1, .int .i64 n1, .string s1, .slice a1 m1 c1] ∧ Box we g2 [.int .i64 k2, .int .i64 n2, .string s2, .slice a2 m2 c2] ∧ Box we g17 [.int .i64 k7, .int .i64 n7, .string s7, .slice a7 m7 c7] ∧ Box we g18 [.int .i64 k8, .int .i64 n8, .string s8, .slice a8 m8 c8])
    (hQ : ∀ (x65 x66 x67 x68 x69 x70 x71 x72 x73 x74 x75 x76 x77 x78 x79 x80 x81 x82 x83 x84 x85 x86 x87 x88 x89 x90 x91 x92 x93 x94 x95 x96 x97 x98 x99 x100 x101 x102 x103 x104 x105 x106 x107 x108 x109 x110 x111 x112 x113 x114 x115 x116 x117 x118 x119 x120 x121 x122 x123 x124 x125 x126 x127 x128 x129 x130 x131 x132 x133 x134 x135 x136 x137 x138 x139 x140 x141 x142 x143 x144 x145 x146 x147 x148 x149 x150 x151 x152 x153 x154 x155 x156 x157 x158 x159 x160 x161 x162 x163 x164 : Value) (w' : World), Below we.heap.size we w' → K0 ⟨#[.bool true, .pointer (some ⟨g1, 0, none⟩), .pointer (some ⟨g2, 0, none⟩), .int .i64 12, .int .i64 0, y5, y6, .int .i64 3, y8, y9, .int .i64 1, y11, y12, .int .i64 1, y14, .int .i64 2147483648, .int .i64 0, .pointer (some ⟨g17, 0, none⟩), .pointer (some ⟨g18, 0, none⟩), y19, y20, y21, y22, y23, y24, y25, y26, y27, y28, y29, y30, y31, y32, y33, y34, y35, y36, y37, y38, y39, y40, y41, y42, y43, y44, y45, y46, y47, y48, y49, y50, y51, y52, y53, y54, y55, y56, y57, y58, y59, y60, y61, y62, y63, y64, x65, x66, x67, x68, x69, x70, x71, x72, x73, x74, x75, x76, x77, x78, x79, x80, x81, x82, x83, x84, x85, x86, x87, x88, x89, x90, x91, x92, x93, x94, x95, x96, x97, x98, x99, x100, x101, x102, x103, x104, x105, x106, x107, x108, x109, x110, x111, x112, x113, x114, x115, x116, x117, x118, x119, x120, x121, x122, x123, x124, x125, x126, x127, x128, x129, x130, x131, x132, x133, x134, x135, x136, x137, x138, x139, x140, x141, x142, x143, x144, x145, x146, x147, x148, x149, x150, x151, x152, x153, x154, x155, x156, x157, x158, x159, x160, x161, x162, x163, x164], []⟩ w') (hm : Below we.heap.size we wm) :
    wpAnyH Try.prog Region.Mode.any opsA (Exit.then K0 (bodyPost Try.prog Try.f9 R0)) (fun wq => (((wq.cell? ⟨g1, 0, none⟩ = some (.int .i64 k1) ∧ wq.cell? ⟨g1, 1, none⟩ = some (.int .i64 n1) ∧ wq.cell? ⟨g1, 2, none⟩ = some (.string s1) ∧ wq.cell? ⟨g1, 3, none⟩ = some (.slice a1 m1 c1)) ∧ (wq.cell? ⟨g2, 0, none⟩ = some (.int .i64 k2) ∧ wq.cell? ⟨g2, 1, none⟩ = some (.int .i64 n2) ∧ wq.cell? ⟨g2, 2, none⟩ = some (.string s2) ∧ wq.cell? ⟨g2, 3, none⟩ = some (.slice a2 m2 c2)) ∧ (wq.cell? ⟨g17, 0, none⟩ = some (.int .i64 k7) ∧ wq.cell? ⟨g17, 1, none⟩ = some (.int .i64 n7) ∧ wq.cell? ⟨g17, 2, none⟩ = some (.string s7) ∧ wq.cell? ⟨g17, 3, none⟩ = some (.slice a7 m7 c7)) ∧ (wq.cell? ⟨g18, 0, none⟩ = some (.int .i64 k8) ∧ wq.cell? ⟨g18, 1, none⟩ = some (.int .i64 n8) ∧ wq.cell? ⟨g18, 2, none⟩ = some (.string s8) ∧ wq.cell? ⟨g18, 3, none⟩ = some (.slice a8 m8 c8))) ∧ Below we.heap.size we wq)) 30 #[true, true, true, true, true, true, true, true, true, true, true, true, true, true, true, true, true, true, true, true, true, true, true, true, true, true, true, true, true, true, true, true, true, true, true, true, true, true, true, true, true, true, true, true, true, true, true, true, true, true, true, true, true, true, true, true, true, true, true, true, true, true, true, true, true, true, true, true, true, true, true, false, false, false, false, false, false, false, false, false, false, false, false, false, false, false, false, false, false, false, false, false, false, false, false, false, false, false, false, false, false] ⟨#[.bool false, .pointer (some ⟨g1, 0, none⟩), .pointer (some ⟨g2, 0, none⟩), .int .i64 12, .int .i64 0, y5, y6, .int .i64 3, y8, y9, .int .i64 1, y11, y12, .int .i64 1, y14, .int .i64 2147483648, .int .i64 0, .pointer (some ⟨g17, 0, none⟩), .pointer (some ⟨g18, 0, none⟩), y19, y20, y21, y22, y23, y24, y25, y26, y27, y28, y29, y30, y31, y32, y33, y34, y35, y36, y37, y38, y39, y40, y41, y42, y43, y44, y45, y46, y47, y48, y49, y50, y51, y52, y53, y54, y55, y56, y57, y58, y59, y60, y61, y62, y63, y64, x65, x66, x67, x68, x69, x70, x71, x72, x73, x74, x75, x76, x77, x78, x79, x80, x81, x82, x83, x84, x85, x86, x87, x88, x89, x90, x91, x92, x93, x94, x95, x96, x97, x98, x99, x100, x101, x102, x103, x104, x105, x106, x107, x108, x109, x110, x111, x112, x113, x114, x115, x116, x117, x118, x119, x120, x121, x122, x123, x124, x125, x126, x127, x128, x129, x130, x131, x132, x133, x134, .bool true, y136, y137, y138, y139, y140, y141, y142, y143, y144, y145, y146, y147, y148, y149, y150, y151, y152, y153, y154, y155, y156, y157, y158, y159, y160, y161, y162, y163, y164], []⟩ wm := by
  have HTX := Lib.hid hX
  have HTA := Lib.hid hA
  have HTY := Lib.hid hY
  have HTZ := Lib.hid hZ
  have HB := Lib.hid hB
  have HQ := Lib.hid hQ
  have HC := Lib.hid (fun (wq : World) (hb : Below we.heap.size we wq) => (show (((wq.cell? ⟨g1, 0, none⟩ = some (.int .i64 k1) ∧ wq.cell? ⟨g1, 1, none⟩ = some (.int .i64 n1) ∧ wq.cell? ⟨g1, 2, none⟩ = some (.string s1) ∧ wq.cell? ⟨g1, 3, none⟩ = some (.slice a1 m1 c1)) ∧ (wq.cell? ⟨g2, 0, none⟩ = some (.int .i64 k2) ∧ wq.cell? ⟨g2, 1, none⟩ = some (.int .i64 n2) ∧ wq.cell? ⟨g2, 2, none⟩ = some (.string s2) ∧ wq.cell? ⟨g2, 3, none⟩ = some (.slice a2 m2 c2)) ∧ (wq.cell? ⟨g17, 0, none⟩ = some (.int .i64 k7) ∧ wq.cell? ⟨g17, 1, none⟩ = some (.int .i64 n7) ∧ wq.cell? ⟨g17, 2, none⟩ = some (.string s7) ∧ wq.cell? ⟨g17, 3, none⟩ = some (.slice a7 m7 c7)) ∧ (wq.cell? ⟨g18, 0, none⟩ = some (.int .i64 k8) ∧ wq.cell? ⟨g18, 1, none⟩ = some (.int .i64 n8) ∧ wq.cell? ⟨g18, 2, none⟩ = some (.string s8) ∧ wq.cell? ⟨g18, 3, none⟩ = some (.slice a8 m8 c8))) ∧ Below we.heap.size we wq) from by
    obtain ⟨p0, p1, p2, p3, _⟩ := (HB.out.1.ext hb).four
    obtain ⟨q0, q1, q2, q3, _⟩ := (HB.out.2.1.ext hb).four
    obtain ⟨r0, r1, r2, r3, _⟩ := (HB.out.2.2.1.ext hb).four
    obtain ⟨t0, t1, t2, t3, _⟩ := (HB.out.2.2.2.ext hb).four
    exact ⟨⟨⟨p0, p1, p2, p3⟩, ⟨q0, q1, q2, q3⟩, ⟨r0, r1, r2, r3⟩, t0, t1, t2, t3⟩, hb⟩))
  clear hX hA hY hZ hB hQ
  have hHeld := HC.out _ hm
  conv => arg 3; whnf
  simp only [List.append_eq, List.cons_append, List.nil_append]
  first | (refine held_t (i := 71) hHeld ?_; apply Exists.intro; refine ⟨fun wq hq => ?_, ?_⟩; (focus ((try dsimp only at hq); go_simp; (first | done | with_reducible rfl | fail)))) | refine held_s (i := 71) hHeld ?_ | fail
  first | (refine held_t (i := 72) hHeld ?_; apply Exists.intro; refine ⟨fun wq hq => ?_, ?_⟩; (focus ((try dsimp only at hq); go_simp; (first | done | with_reducible rfl | fail)))) | refine held_s (i := 72) hHeld ?_ | fail
  try simp only [Act.put, List.setIfInBounds_toArray, List.set_cons_zero, List.set_cons_succ]
  refine held_c 73 fun K hK => ?_
  go_simp
  (go_at_call 55; refine (pAlike_at kX kZ _ _ _ (TmV.ext hHeld.2 _ _ HTX.out) (TmV.ext hHeld.2 _ _ HTZ.out)).mono ?_; rintro e u14 ⟨rfl, h6⟩; rw [kn13])
  refine hK.out _ _ (HC.out _ (Ext.trans' hHeld.2 h6)) (fun hHeld => ?_)
  clear hK K
  try simp only [Act.put, List.setIfInBounds_toArray, List.set_cons_zero, List.set_cons_succ]
  first | (refine held_t (i := 74) hHeld ?_; apply Exists.intro; refine ⟨fun wq hq => ?_, ?_⟩; (focus ((try dsimp only at hq); go_simp; (first | done | with_reducible rfl | fail)))) | refine held_s (i := 74) hHeld ?_ | fail
  first | (refine held_t (i := 75) hHeld ?_; apply Exists.intro; refine ⟨fun wq hq => ?_, ?_⟩; (focus ((try dsimp only at hq); go_simp; (first | done | with_reducible rfl | fail)))) | refine held_s (i := 75) hHeld ?_ | fail
  try simp only [Act.put, List.setIfInBounds_toArray, List.set_cons_zero, List.set_cons_succ]
  first | (refine held_t (i := 76) hHeld ?_; apply Exists.intro; refine ⟨fun wq hq => ?_, ?_⟩; (focus ((try dsimp only at hq); go_simp; (first | done | with_reducible rfl | fail)))) | refine held_s (i := 76) hHeld ?_ | fail
  first | (refine held_t (i := 77) hHeld ?_; apply Exists.intro; refine ⟨fun wq hq => ?_, ?_⟩; (focus ((try dsimp only at hq); go_simp; (first | done | with_reducible rfl | fail)))) | refine held_s (i := 77) hHeld ?_ | fail
  try simp only [Act.put, List.setIfInBounds_toArray, List.set_cons_zero, List.set_cons_succ]
  refine held_c 78 fun K hK => ?_
  go_simp
  (go_at_call 19; refine (var_at _ 1).mono ?_; rintro e u15 ⟨rfl, h6⟩)
  refine hK.out _ _ (HC.out _ (Ext.trans' hHeld.2 h6)) (fun hHeld => ?_)
  clear hK K
  try simp only [Act.put, List.setIfInBounds_toArray, List.set_cons_zero, List.set_cons_succ]
  refine held_c 79 fun K hK => ?_
  go_simp
  (go_at_call 19; refine (var_at _ 0).mono ?_; rintro e u16 ⟨rfl, h6⟩)
  refine hK.out _ _ (HC.out _ (Ext.trans' hHeld.2 h6)) (fun hHeld => ?_)
  clear hK K
  try simp only [Act.put, List.setIfInBounds_toArray, List.set_cons_zero, List.set_cons_succ]
  have HU := Lib.hid (hHeld.2.trans (Below.refl _ _))
  have C := comp_two (w0 := we) HU.out ⟨#[102]⟩ ⟨#[]⟩ ⟨#[]⟩ (big_1 _) (k := 0) (n := 1) (k' := 0) (n' := 0) i64_0 (i64s _ (by omega)) big_0 i64_0 (i64s _ (by omega)) big_0
  refine held_c 80 fun K hK => ?_
  go_simp
  skip
  refine hK.out _ _ (HC.out _ (Ext.trans' hHeld.2 (bel1' _ _))) (fun hHeld => ?_)
  clear hK K
  try simp only [Act.put, List.setIfInBounds_toArray, List.set_cons_zero, List.set_cons_succ]
  refine held_c 81 fun K hK => ?_
  go_simp
  (go_at_call 20; refine C.mono ?_; rintro e u17 ⟨a_, c_, rfl, ht_, h6⟩; have HA4 := Lib.hid (show TmV u17 k10 _ from ht_.bare); clear ht_)
  refine hK.out _ _ (HC.out _ h6) (fun hHeld => ?_)
  clear hK K
  try simp only [Act.put, List.setIfInBounds_toArray, List.set_cons_zero, List.set_cons_succ]
  clear C HU
  refine held_c 82 fun K hK => ?_
  go_simp
  (go_at_call 55; refine (pAlike_at kX k10 _ _ _ (TmV.ext hHeld.2 _ _ HTX.out) HA4.out).mono ?_; rintro e u18 ⟨rfl, h6⟩; rw [kn14])
  refine hK.out _ _ (HC.out _ (Ext.trans' hHeld.2 h6)) (fun hHeld => ?_)
  clear hK K
  try simp only [Act.put, List.setIfInBounds_toArray, List.set_cons_zero, List.set_cons_succ]
  first | (refine held_t (i := 83) hHeld ?_; apply Exists.intro; refine ⟨fun wq hq => ?_, ?_⟩; (focus ((try dsimp only at hq); go_simp; (first | done | with_reducible rfl | fail)))) | refine held_s (i := 83) hHeld ?_ | fail
  first | (refine held_t (i := 84) hHeld ?_; apply Exists.intro; refine ⟨fun wq hq => ?_, ?_⟩; (focus ((try dsimp only at hq); go_simp; (first | done | with_reducible rfl | fail)))) | refine held_s (i := 84) hHeld ?_ | fail
  try simp only [Act.put, List.setIfInBounds_toArray, List.set_cons_zero, List.set_cons_succ]
  first | (refine held_t (i := 85) hHeld ?_; apply Exists.intro; refine ⟨fun wq hq => ?_, ?_⟩; (focus ((try dsimp only at hq); go_simp; (first | done | with_reducible rfl | fail)))) | refine held_s (i := 85) hHeld ?_ | fail
  try simp only [Act.put, List.setIfInBounds_toArray, List.set_cons_zero, List.set_cons_succ]
  refine held_c 86 fun K hK => ?_
  go_simp
  (go_at_call 56; refine (Ground_at kY _ _ (TmV.ext hHeld.2 _ _ HTY.out)).mono ?_; rintro e u19 ⟨rfl, h6⟩; rw [kn15])
  refine hK.out _ _ (HC.out _ (Ext.trans' hHeld.2 h6)) (fun hHeld => ?_)
  clear hK K
  try simp only [Act.put, List.setIfInBounds_toArray, List.set_cons_zero, List.set_cons_succ]
  first | (refine held_t (i := 87) hHeld ?_; apply Exists.intro; refine ⟨fun wq hq => ?_, ?_⟩; (focus ((try dsimp only at hq); go_simp; (first | done | with_reducible rfl | fail)))) | refine held_s (i := 87) hHeld ?_ | fail
  first | (refine held_t (i := 88) hHeld ?_; apply Exists.intro; refine ⟨fun wq hq => ?_, ?_⟩; (focus ((try dsimp only at hq); go_simp; (first | done | with_reducible rfl | fail)))) | refine held_s (i := 88) hHeld ?_ | fail
  try simp only [Act.put, List.setIfInBounds_toArray, List.set_cons_zero, List.set_cons_succ]
  first | (refine held_t (i := 89) hHeld ?_; apply Exists.intro; refine ⟨fun wq hq => ?_, ?_⟩; (focus ((try dsimp only at hq); go_simp; (first | done | with_reducible rfl | fail)))) | refine held_s (i := 89) hHeld ?_ | fail
  first | (refine held_t (i := 90) hHeld ?_; apply Exists.intro; refine ⟨fun wq hq => ?_, ?_⟩; (focus ((try dsimp only at hq); go_simp; (first | done | with_reducible rfl | fail)))) | refine held_s (i := 90) hHeld ?_ | fail
  try simp only [Act.put, List.setIfInBounds_toArray, List.set_cons_zero, List.set_cons_succ]
  refine held_c 91 fun K hK => ?_
  go_simp
  (go_at_call 56; refine (Ground_at tm8 _ _ (eight_rd _)).mono ?_; rintro e u20 ⟨rfl, h6⟩; rw [kn16])
  refine hK.out _ _ (HC.out _ (Ext.trans' hHeld.2 h6)) (fun hHeld => ?_)
  clear hK K
  try simp only [Act.put, List.setIfInBounds_toArray, List.set_cons_zero, List.set_cons_succ]
  first | (refine held_t (i := 92) hHeld ?_; apply Exists.intro; refine ⟨fun wq hq => ?_, ?_⟩; (focus ((try dsimp only at hq); go_simp; (first | done | with_reducible rfl | fail)))) | refine held_s (i := 92) hHeld ?_ | fail
  first | (refine held_t (i := 93) hHeld ?_; apply Exists.intro; refine ⟨fun wq hq => ?_, ?_⟩; (focus ((try dsimp only at hq); go_simp; (first | done | with_reducible rfl | fail)))) | refine held_s (i := 93) hHeld ?_ | fail
  try simp only [Act.put, List.setIfInBounds_toArray, List.set_cons_zero, List.set_cons_succ]
  first | (refine held_t (i := 94) hHeld ?_; apply Exists.intro; refine ⟨fun wq hq => ?_, ?_⟩; (focus ((try dsimp only at hq); go_simp; (first | done | with_reducible rfl | fail)))) | refine held_s (i := 94) hHeld ?_ | fail
  first | (refine held_t (i := 95) hHeld ?_; apply Exists.intro; refine ⟨fun wq hq => ?_, ?_⟩; (focus ((try dsimp only at hq); go_simp; (first | done | with_reducible rfl | fail)))) | refine held_s (i := 95) hHeld ?_ | fail
  try simp only [Act.put, List.setIfInBounds_toArray, List.set_cons_zero, List.set_cons_succ]
  first | (refine held_t (i := 96) hHeld ?_; apply Exists.intro; refine ⟨fun wq hq => ?_, ?_⟩; (focus ((try dsimp only at hq); go_simp; (first | done | with_reducible rfl | fail)))) | refine held_s (i := 96) hHeld ?_ | fail
  try simp only [Act.put, List.setIfInBounds_toArray, List.set_cons_zero, List.set_cons_succ]
  refine held_c 97 fun K hK => ?_
  go_simp
  (go_at_call 55; refine (pAlike_at tm8 tm8 _ _ _ (eight_rd _) (eight_rd _)).mono ?_; rintro e u21 ⟨rfl, h6⟩; rw [kn17])
  refine hK.out _ _ (HC.out _ (Ext.trans' hHeld.2 h6)) (fun hHeld => ?_)
  clear hK K
  try simp only [Act.put, List.setIfInBounds_toArray, List.set_cons_zero, List.set_cons_succ]
  first | (refine held_t (i := 98) hHeld ?_; apply Exists.intro; refine ⟨fun wq hq => ?_, ?_⟩; (focus ((try dsimp only at hq); go_simp; (first | done | with_reducible rfl | fail)))) | refine held_s (i := 98) hHeld ?_ | fail
  first | (refine held_t (i := 99) hHeld ?_; apply Exists.intro; refine ⟨fun wq hq => ?_, ?_⟩; (focus ((try dsimp only at hq); go_simp; (first | done | with_reducible rfl | fail)))) | refine held_s (i := 99) hHeld ?_ | fail
  try simp only [Act.put, List.setIfInBounds_toArray, List.set_cons_zero, List.set_cons_succ]
  first | (refine held_t (i := 100) hHeld ?_; apply Exists.intro; refine ⟨fun wq hq => ?_, ?_⟩; (focus ((try dsimp only at hq); go_simp; (first | done | with_reducible rfl | fail)))) | refine held_s (i := 100) hHeld ?_ | fail
  try simp only [Act.put, List.setIfInBounds_toArray, List.set_cons_zero, List.set_cons_succ]
  refine wpAnyH_done (by kernel_rfl) ?_ _
  exact HQ.out _ _ _ _ _ _ _ _ _ _ _ _ _ _ _ _ _ _ _ _ _ _ _ _ _ _ _ _ _ _ _ _ _ _ _ _ _ _ _ _ _ _ _ _ _ _ _ _ _ _ _ _ _ _ _ _ _ _ _ _ _ _ _ _ _ _ _ _ _ _ _ _ _ _ _ _ _ _ _ _ _ _ _ _ _ _ _ _ _ _ _ _ _ _ _ _ _ _ _ _ _ hHeld.2
set_option maxHeartbeats 40000000 in
set_option maxRecDepth 100000 in
theorem tailA2 {K0 : Act → World → Prop} {R0 : Ending → World → Prop} {we : World} {g1 g2 g17 g18 : Nat} {k1 n1 k2 n2 k7 n7 k8 n8 : Int} {s1 s2 s7 s8 : ByteArray} {a1 a2 a7 a8 : Option Addr} {m1 c1 m2 c2 m7 c7 m8 c8 : Nat}
    {wm : World} {y5 y6 y8 y9 y11 y12 y14 y19 y20 y21 y22 y23 y24 y25 y26 y27 y28 y29 y30 y31 y32 y33 y34 y35 y36 y37 y38 y39 y40 y41 y42 y43 y44 y45 y46 y47 y48 y49 y50 y51 y52 y53 y54 y55 y56 y57 y58 y59 y60 y61 y62 y63 y64 y100 y101 y102 y103 y104 y105 y106 y107 y108 y109 y110 y111 y112 y113 y114 y115 y116 y117 y118 y119 y120 y121 y122 y123 y124 y125 y126 y127 y128 y129 y130 y131 y132 y133 y134 y135 y136 y137 y138 y139 y140 y141 y142 y143 y144 y145 y146 y147 y148 y149 y150 y151 y152 y153 y154 y155 y156 y157 y158 y159 y160 y161 y162 y163 y164 x65 x66 x67 x68 x69 x70 x71 x72 x73 x74 x75 x76 x77 x78 x79 x80 x81 x82 x83 x84 x85 x86 x87 x88 x89 x90 x91 x92 x93 x94 x95 x96 x97 x98 : Value}
    (hX : TmV we kX (.agg #[.int .i64 k1, .int .i64 n1, .string s1, .slice a1 m1 c1])) (hA : TmV we kA (.agg #[.int .i64 k2, .int .i64 n2, .string s2, .slice a2 m2 c2])) (hY : TmV we kY (.agg #[.int .i64 k7, .int .i64 n7, .string s7, .slice a7 m7 c7])) (hZ : TmV we kZ (.agg #[.int .i64 k8, .int .i64 n8, .string s8, .slice a8 m8 c8]))
    (hB : Box we g1 [.int .i64 k1, .int .i64 n1, .string s1, .slice a1 m1 c1] ∧ Box we g2 [.int .i64 k2, .int .i64 n2, .string s2, .slice a2 m2 c2] ∧ Box we g17 [.int .i64 k7, .int .i64 n7, .string s7, .slice a7 m7 c7] ∧ Box we g18 [.int .i64 k8, .int .i64 n8, .string s8, .slice a8 m8 c8])
    (hQ : ∀ (x65 x66 x67 x68 x69 x70 x71 x72 x73 x74 x75 x76 x77 x78 x79 x80 x81 x82 x83 x84 x85 x86 x87 x88 x89 x90 x91 x92 x93 x94 x95 x96 x97 x98 x99 x100 x101 x102 x103 x104 x105 x106 x107 x108 x109 x110 x111 x112 x113 x114 x115 x116 x117 x118 x119 x120 x121 x122 x123 x124 x125 x126 x127 x128 x129 x130 x131 x132 x133 x134 x135 x136 x137 x138 x139 x140 x141 x142 x143 x144 x145 x146 x147 x148 x149 x150 x151 x152 x153 x154 x155 x156 x157 x158 x159 x160 x161 x162 x163 x164 : Value) (w' : World), Below we.heap.size we w' → K0 ⟨#[.bool true, .pointer (some ⟨g1, 0, none⟩), .pointer (some ⟨g2, 0, none⟩), .int .i64 12, .int .i64 0, y5, y6, .int .i64 3, y8, y9, .int .i64 1, y11, y12, .int .i64 1, y14, .int .i64 2147483648, .int .i64 0, .pointer (some ⟨g17, 0, none⟩), .pointer (some ⟨g18, 0, none⟩), y19, y20, y21, y22, y23, y24, y25, y26, y27, y28, y29, y30, y31, y32, y33, y34, y35, y36, y37, y38, y39, y40, y41, y42, y43, y44, y45, y46, y47, y48, y49, y50, y51, y52, y53, y54, y55, y56, y57, y58, y59, y60, y61, y62, y63, y64, x65, x66, x67, x68, x69, x70, x71, x72, x73, x74, x75, x76, x77, x78, x79, x80, x81, x82, x83, x84, x85, x86, x87, x88, x89, x90, x91, x92, x93, x94, x95, x96, x97, x98, x99, x100, x101, x102, x103, x104, x105, x106, x107, x108, x109, x110, x111, x112, x113, x114, x115, x116, x117, x118, x119, x120, x121, x122, x123, x124, x125, x126, x127, x128, x129, x130, x131, x132, x133, x134, x135, x136, x137, x138, x139, x140, x141, x142, x143, x144, x145, x146, x147, x148, x149, x150, x151, x152, x153, x154, x155, x156, x157, x158, x159, x160, x161, x162, x163, x164], []⟩ w') (hm : Below we.heap.size we wm) :
    wpAnyH Try.prog Region.Mode.any opsA (Exit.then K0 (bodyPost Try.prog Try.f9 R0)) (fun wq => (((wq.cell? ⟨g1, 0, none⟩ = some (.int .i64 k1) ∧ wq.cell? ⟨g1, 1, none⟩ = some (.int .i64 n1) ∧ wq.cell? ⟨g1, 2, none⟩ = some (.string s1) ∧ wq.cell? ⟨g1, 3, none⟩ = some (.slice a1 m1 c1)) ∧ (wq.cell? ⟨g2, 0, none⟩ = some (.int .i64 k2) ∧ wq.cell? ⟨g2, 1, none⟩ = some (.int .i64 n2) ∧ wq.cell? ⟨g2, 2, none⟩ = some (.string s2) ∧ wq.cell? ⟨g2, 3, none⟩ = some (.slice a2 m2 c2)) ∧ (wq.cell? ⟨g17, 0, none⟩ = some (.int .i64 k7) ∧ wq.cell? ⟨g17, 1, none⟩ = some (.int .i64 n7) ∧ wq.cell? ⟨g17, 2, none⟩ = some (.string s7) ∧ wq.cell? ⟨g17, 3, none⟩ = some (.slice a7 m7 c7)) ∧ (wq.cell? ⟨g18, 0, none⟩ = some (.int .i64 k8) ∧ wq.cell? ⟨g18, 1, none⟩ = some (.int .i64 n8) ∧ wq.cell? ⟨g18, 2, none⟩ = some (.string s8) ∧ wq.cell? ⟨g18, 3, none⟩ = some (.slice a8 m8 c8))) ∧ Below we.heap.size we wq)) 66 #[true, true, true, true, true, true, true, true, true, true, true, true, true, true, true, true, true, true, true, true, true, true, true, true, true, true, true, true, true, true, true, true, true, true, true, false, false, false, false, false, false, false, false, false, false, false, false, false, false, false, false, false, false, false, false, false, false, false, false, false, false, false, false, false, false, false, false, false, false, false, false, false, false, false, false, false, false, false, false, false, false, false, false, false, false, false, false, false, false, false, false, false, false, false, false, false, false, false, false, false, false] ⟨#[.bool false, .pointer (some ⟨g1, 0, none⟩), .pointer (some ⟨g2, 0, none⟩), .int .i64 12, .int .i64 0, y5, y6, .int .i64 3, y8, y9, .int .i64 1, y11, y12, .int .i64 1, y14, .int .i64 2147483648, .int .i64 0, .pointer (some ⟨g17, 0, none⟩), .pointer (some ⟨g18, 0, none⟩), y19, y20, y21, y22, y23, y24, y25, y26, y27, y28, y29, y30, y31, y32, y33, y34, y35, y36, y37, y38, y39, y40, y41, y42, y43, y44, y45, y46, y47, y48, y49, y50, y51, y52, y53, y54, y55, y56, y57, y58, y59, y60, y61, y62, y63, y64, x65, x66, x67, x68, x69, x70, x71, x72, x73, x74, x75, x76, x77, x78, x79, x80, x81, x82, x83, x84, x85, x86, x87, x88, x89, x90, x91, x92, x93, x94, x95, x96, x97, x98, .bool true, y100, y101, y102, y103, y104, y105, y106, y107, y108, y109, y110, y111, y112, y113, y114, y115, y116, y117, y118, y119, y120, y121, y122, y123, y124, y125, y126, y127, y128, y129, y130, y131, y132, y133, y134, y135, y136, y137, y138, y139, y140, y141, y142, y143, y144, y145, y146, y147, y148, y149, y150, y151, y152, y153, y154, y155, y156, y157, y158, y159, y160, y161, y162, y163, y164], []⟩ wm := by
  have HTX := Lib.hid hX
  have HTA := Lib.hid hA
  have HTY := Lib.hid hY
  have HTZ := Lib.hid hZ
  have HB := Lib.hid hB
  have HQ := Lib.hid hQ
  have HC := Lib.hid (fun (wq : World) (hb : Below we.heap.size we wq) => (show (((wq.cell? ⟨g1, 0, none⟩ = some (.int .i64 k1) ∧ wq.cell? ⟨g1, 1, none⟩ = some (.int .i64 n1) ∧ wq.cell? ⟨g1, 2, none⟩ = some (.string s1) ∧ wq.cell? ⟨g1, 3, none⟩ = some (.slice a1 m1 c1)) ∧ (wq.cell? ⟨g2, 0, none⟩ = some (.int .i64 k2) ∧ wq.cell? ⟨g2, 1, none⟩ = some (.int .i64 n2) ∧ wq.cell? ⟨g2, 2, none⟩ = some (.string s2) ∧ wq.cell? ⟨g2, 3, none⟩ = some (.slice a2 m2 c2)) ∧ (wq.cell? ⟨g17, 0, none⟩ = some (.int .i64 k7) ∧ wq.cell? ⟨g17, 1, none⟩ = some (.int .i64 n7) ∧ wq.cell? ⟨g17, 2, none⟩ = some (.string s7) ∧ wq.cell? ⟨g17, 3, none⟩ = some (.slice a7 m7 c7)) ∧ (wq.cell? ⟨g18, 0, none⟩ = some (.int .i64 k8) ∧ wq.cell? ⟨g18, 1, none⟩ = some (.int .i64 n8) ∧ wq.cell? ⟨g18, 2, none⟩ = some (.string s8) ∧ wq.cell? ⟨g18, 3, none⟩ = some (.slice a8 m8 c8))) ∧ Below we.heap.size we wq) from by
    obtain ⟨p0, p1, p2, p3, _⟩ := (HB.out.1.ext hb).four
    obtain ⟨q0, q1, q2, q3, _⟩ := (HB.out.2.1.ext hb).four
    obtain ⟨r0, r1, r2, r3, _⟩ := (HB.out.2.2.1.ext hb).four
    obtain ⟨t0, t1, t2, t3, _⟩ := (HB.out.2.2.2.ext hb).four
    exact ⟨⟨⟨p0, p1, p2, p3⟩, ⟨q0, q1, q2, q3⟩, ⟨r0, r1, r2, r3⟩, t0, t1, t2, t3⟩, hb⟩))
  clear hX hA hY hZ hB hQ
  have hHeld := HC.out _ hm
  conv => arg 3; whnf
  simp only [List.append_eq, List.cons_append, List.nil_append]
  first | (refine held_t (i := 35) hHeld ?_; apply Exists.intro; refine ⟨fun wq hq => ?_, ?_⟩; (focus ((try dsimp only at hq); go_simp; (first | done | with_reducible rfl | fail)))) | refine held_s (i := 35) hHeld ?_ | fail
  first | (refine held_t (i := 36) hHeld ?_; apply Exists.intro; refine ⟨fun wq hq => ?_, ?_⟩; (focus ((try dsimp only at hq); go_simp; (first | done | with_reducible rfl | fail)))) | refine held_s (i := 36) hHeld ?_ | fail
  try simp only [Act.put, List.setIfInBounds_toArray, List.set_cons_zero, List.set_cons_succ]
  refine held_c 37 fun K hK => ?_
  go_simp
  (go_at_call 54; refine (pMore_at kX kY _ _ _ (TmV.ext hHeld.2 _ _ HTX.out) (TmV.ext hHeld.2 _ _ HTY.out)).mono ?_; rintro e u5 ⟨rfl, h6⟩; rw [kn7])
  refine hK.out _ _ (HC.out _ (Ext.trans' hHeld.2 h6)) (fun hHeld => ?_)
  clear hK K
  try simp only [Act.put, List.setIfInBounds_toArray, List.set_cons_zero, List.set_cons_succ]
  first | (refine held_t (i := 38) hHeld ?_; apply Exists.intro; refine ⟨fun wq hq => ?_, ?_⟩; (focus ((try dsimp only at hq); go_simp; (first | done | with_reducible rfl | fail)))) | refine held_s (i := 38) hHeld ?_ | fail
  first | (refine held_t (i := 39) hHeld ?_; apply Exists.intro; refine ⟨fun wq hq => ?_, ?_⟩; (focus ((try dsimp only at hq); go_simp; (first | done | with_reducible rfl | fail)))) | refine held_s (i := 39) hHeld ?_ | fail
  try simp only [Act.put, List.setIfInBounds_toArray, List.set_cons_zero, List.set_cons_succ]
  first | (refine held_t (i := 40) hHeld ?_; apply Exists.intro; refine ⟨fun wq hq => ?_, ?_⟩; (focus ((try dsimp only at hq); go_simp; (first | done | with_reducible rfl | fail)))) | refine held_s (i := 40) hHeld ?_ | fail
  first | (refine held_t (i := 41) hHeld ?_; apply Exists.intro; refine ⟨fun wq hq => ?_, ?_⟩; (focus ((try dsimp only at hq); go_simp; (first | done | with_reducible rfl | fail)))) | refine held_s (i := 41) hHeld ?_ | fail
  try simp only [Act.put, List.setIfInBounds_toArray, List.set_cons_zero, List.set_cons_succ]
  refine held_c 42 fun K hK => ?_
  go_simp
  (go_at_call 54; refine (pMore_at kY kX _ _ _ (TmV.ext hHeld.2 _ _ HTY.out) (TmV.ext hHeld.2 _ _ HTX.out)).mono ?_; rintro e u6 ⟨rfl, h6⟩; rw [kn8])
  refine hK.out _ _ (HC.out _ (Ext.trans' hHeld.2 h6)) (fun hHeld => ?_)
  clear hK K
  try simp only [Act.put, List.setIfInBounds_toArray, List.set_cons_zero, List.set_cons_succ]
  first | (refine held_t (i := 43) hHeld ?_; apply Exists.intro; refine ⟨fun wq hq => ?_, ?_⟩; (focus ((try dsimp only at hq); go_simp; (first | done | with_reducible rfl | fail)))) | refine held_s (i := 43) hHeld ?_ | fail
  first | (refine held_t (i := 44) hHeld ?_; apply Exists.intro; refine ⟨fun wq hq => ?_, ?_⟩; (focus ((try dsimp only at hq); go_simp; (first | done | with_reducible rfl | fail)))) | refine held_s (i := 44) hHeld ?_ | fail
  try simp only [Act.put, List.setIfInBounds_toArray, List.set_cons_zero, List.set_cons_succ]
  first | (refine held_t (i := 45) hHeld ?_; apply Exists.intro; refine ⟨fun wq hq => ?_, ?_⟩; (focus ((try dsimp only at hq); go_simp; (first | done | with_reducible rfl | fail)))) | refine held_s (i := 45) hHeld ?_ | fail
  first | (refine held_t (i := 46) hHeld ?_; apply Exists.intro; refine ⟨fun wq hq => ?_, ?_⟩; (focus ((try dsimp only at hq); go_simp; (first | done | with_reducible rfl | fail)))) | refine held_s (i := 46) hHeld ?_ | fail
  try simp only [Act.put, List.setIfInBounds_toArray, List.set_cons_zero, List.set_cons_succ]
  first | (refine held_t (i := 47) hHeld ?_; apply Exists.intro; refine ⟨fun wq hq => ?_, ?_⟩; (focus ((try dsimp only at hq); go_simp; (first | done | with_reducible rfl | fail)))) | refine held_s (i := 47) hHeld ?_ | fail
  try simp only [Act.put, List.setIfInBounds_toArray, List.set_cons_zero, List.set_cons_succ]
  refine held_c 48 fun K hK => ?_
  go_simp
  (go_at_call 54; refine (pMore_at kX kZ _ _ _ (TmV.ext hHeld.2 _ _ HTX.out) (TmV.ext hHeld.2 _ _ HTZ.out)).mono ?_; rintro e u7 ⟨rfl, h6⟩; rw [kn9])
  refine hK.out _ _ (HC.out _ (Ext.trans' hHeld.2 h6)) (fun hHeld => ?_)
  clear hK K
  try simp only [Act.put, List.setIfInBounds_toArray, List.set_cons_zero, List.set_cons_succ]
  first | (refine held_t (i := 49) hHeld ?_; apply Exists.intro; refine ⟨fun wq hq => ?_, ?_⟩; (focus ((try dsimp only at hq); go_simp; (first | done | with_reducible rfl | fail)))) | refine held_s (i := 49) hHeld ?_ | fail
  first | (refine held_t (i := 50) hHeld ?_; apply Exists.intro; refine ⟨fun wq hq => ?_, ?_⟩; (focus ((try dsimp only at hq); go_simp; (first | done | with_reducible rfl | fail)))) | refine held_s (i := 50) hHeld ?_ | fail
  try simp only [Act.put, List.setIfInBounds_toArray, List.set_cons_zero, List.set_cons_succ]
  first | (refine held_t (i := 51) hHeld ?_; apply Exists.intro; refine ⟨fun wq hq => ?_, ?_⟩; (focus ((try dsimp only at hq); go_simp; (first | done | with_reducible rfl | fail)))) | refine held_s (i := 51) hHeld ?_ | fail
  first | (refine held_t (i := 52) hHeld ?_; apply Exists.intro; refine ⟨fun wq hq => ?_, ?_⟩; (focus ((try dsimp only at hq); go_simp; (first | done | with_reducible rfl | fail)))) | refine held_s (i := 52) hHeld ?_ | fail
  try simp only [Act.put, List.setIfInBounds_toArray, List.set_cons_zero, List.set_cons_succ]
  refine held_c 53 fun K hK => ?_
  go_simp
  (go_at_call 54; refine (pMore_at kZ kX _ _ _ (TmV.ext hHeld.2 _ _ HTZ.out) (TmV.ext hHeld.2 _ _ HTX.out)).mono ?_; rintro e u8 ⟨rfl, h6⟩; rw [kn10])
  refine hK.out _ _ (HC.out _ (Ext.trans' hHeld.2 h6)) (fun hHeld => ?_)
  clear hK K
  try simp only [Act.put, List.setIfInBounds_toArray, List.set_cons_zero, List.set_cons_succ]
  first | (refine held_t (i := 54) hHeld ?_; apply Exists.intro; refine ⟨fun wq hq => ?_, ?_⟩; (focus ((try dsimp only at hq); go_simp; (first | done | with_reducible rfl | fail)))) | refine held_s (i := 54) hHeld ?_ | fail
  first | (refine held_t (i := 55) hHeld ?_; apply Exists.intro; refine ⟨fun wq hq => ?_, ?_⟩; (focus ((try dsimp only at hq); go_simp; (first | done | with_reducible rfl | fail)))) | refine held_s (i := 55) hHeld ?_ | fail
  try simp only [Act.put, List.setIfInBounds_toArray, List.set_cons_zero, List.set_cons_succ]
  first | (refine held_t (i := 56) hHeld ?_; apply Exists.intro; refine ⟨fun wq hq => ?_, ?_⟩; (focus ((try dsimp only at hq); go_simp; (first | done | with_reducible rfl | fail)))) | refine held_s (i := 56) hHeld ?_ | fail
  first | (refine held_t (i := 57) hHeld ?_; apply Exists.intro; refine ⟨fun wq hq => ?_, ?_⟩; (focus ((try dsimp only at hq); go_simp; (first | done | with_reducible rfl | fail)))) | refine held_s (i := 57) hHeld ?_ | fail
  try simp only [Act.put, List.setIfInBounds_toArray, List.set_cons_zero, List.set_cons_succ]
  first | (refine held_t (i := 58) hHeld ?_; apply Exists.intro; refine ⟨fun wq hq => ?_, ?_⟩; (focus ((try dsimp only at hq); go_simp; (first | done | with_reducible rfl | fail)))) | refine held_s (i := 58) hHeld ?_ | fail
  try simp only [Act.put, List.setIfInBounds_toArray, List.set_cons_zero, List.set_cons_succ]
  refine held_c 59 fun K hK => ?_
  go_simp
  (go_at_call 54; refine (pMore_at kZ kY _ _ _ (TmV.ext hHeld.2 _ _ HTZ.out) (TmV.ext hHeld.2 _ _ HTY.out)).mono ?_; rintro e u9 ⟨rfl, h6⟩; rw [kn11])
  refine hK.out _ _ (HC.out _ (Ext.trans' hHeld.2 h6)) (fun hHeld => ?_)
  clear hK K
  try simp only [Act.put, List.setIfInBounds_toArray, List.set_cons_zero, List.set_cons_succ]
  first | (refine held_t (i := 60) hHeld ?_; apply Exists.intro; refine ⟨fun wq hq => ?_, ?_⟩; (focus ((try dsimp only at hq); go_simp; (first | done | with_reducible rfl | fail)))) | refine held_s (i := 60) hHeld ?_ | fail
  first | (refine held_t (i := 61) hHeld ?_; apply Exists.intro; refine ⟨fun wq hq => ?_, ?_⟩; (focus ((try dsimp only at hq); go_simp; (first | done | with_reducible rfl | fail)))) | refine held_s (i := 61) hHeld ?_ | fail
  try simp only [Act.put, List.setIfInBounds_toArray, List.set_cons_zero, List.set_cons_succ]
  first | (refine held_t (i := 62) hHeld ?_; apply Exists.intro; refine ⟨fun wq hq => ?_, ?_⟩; (focus ((try dsimp only at hq); go_simp; (first | done | with_reducible rfl | fail)))) | refine held_s (i := 62) hHeld ?_ | fail
  first | (refine held_t (i := 63) hHeld ?_; apply Exists.intro; refine ⟨fun wq hq => ?_, ?_⟩; (focus ((try dsimp only at hq); go_simp; (first | done | with_reducible rfl | fail)))) | refine held_s (i := 63) hHeld ?_ | fail
  try simp only [Act.put, List.setIfInBounds_toArray, List.set_cons_zero, List.set_cons_succ]
  refine held_c 64 fun K hK => ?_
  go_simp
  (go_at_call 19; refine (var_at _ 9).mono ?_; rintro e u10 ⟨rfl, h6⟩)
  refine hK.out _ _ (HC.out _ (Ext.trans' hHeld.2 h6)) (fun hHeld => ?_)
  clear hK K
  try simp only [Act.put, List.setIfInBounds_toArray, List.set_cons_zero, List.set_cons_succ]
  refine held_c 65 fun K hK => ?_
  go_simp
  (go_at_call 19; refine (var_at _ 9).mono ?_; rintro e u11 ⟨rfl, h6⟩)
  refine hK.out _ _ (HC.out _ (Ext.trans' hHeld.2 h6)) (fun hHeld => ?_)
  clear hK K
  try simp only [Act.put, List.setIfInBounds_toArray, List.set_cons_zero, List.set_cons_succ]
  have HU := Lib.hid (hHeld.2.trans (Below.refl _ _))
  have C := comp_two (w0 := we) HU.out ⟨#[102]⟩ ⟨#[]⟩ ⟨#[]⟩ (big_1 _) (k := 0) (n := 9) (k' := 0) (n' := 9) i64_0 (i64s _ (by omega)) big_0 i64_0 (i64s _ (by omega)) big_0
  refine held_c 66 fun K hK => ?_
  go_simp
  skip
  refine hK.out _ _ (HC.out _ (Ext.trans' hHeld.2 (bel1' _ _))) (fun hHeld => ?_)
  clear hK K
  try simp only [Act.put, List.setIfInBounds_toArray, List.set_cons_zero, List.set_cons_succ]
  refine held_c 67 fun K hK => ?_
  go_simp
  (go_at_call 20; refine C.mono ?_; rintro e u12 ⟨a_, c_, rfl, ht_, h6⟩; have HA3 := Lib.hid (show TmV u12 k99 _ from ht_.bare); clear ht_)
  refine hK.out _ _ (HC.out _ h6) (fun hHeld => ?_)
  clear hK K
  try simp only [Act.put, List.setIfInBounds_toArray, List.set_cons_zero, List.set_cons_succ]
  clear C HU
  refine held_c 68 fun K hK => ?_
  go_simp
  (go_at_call 54; refine (pMore_at kZ k99 _ _ _ (TmV.ext hHeld.2 _ _ HTZ.out) HA3.out).mono ?_; rintro e u13 ⟨rfl, h6⟩; rw [kn12])
  refine hK.out _ _ (HC.out _ (Ext.trans' hHeld.2 h6)) (fun hHeld => ?_)
  clear hK K
  try simp only [Act.put, List.setIfInBounds_toArray, List.set_cons_zero, List.set_cons_succ]
  first | (refine held_t (i := 69) hHeld ?_; apply Exists.intro; refine ⟨fun wq hq => ?_, ?_⟩; (focus ((try dsimp only at hq); go_simp; (first | done | with_reducible rfl | fail)))) | refine held_s (i := 69) hHeld ?_ | fail
  first | (refine held_t (i := 70) hHeld ?_; apply Exists.intro; refine ⟨fun wq hq => ?_, ?_⟩; (focus ((try dsimp only at hq); go_simp; (first | done | with_reducible rfl | fail)))) | refine held_s (i := 70) hHeld ?_ | fail
  try simp only [Act.put, List.setIfInBounds_toArray, List.set_cons_zero, List.set_cons_succ]
  refine held_list #[true, true, true, true, true, true, true, true, true, true, true, true, true, true, true, true, true, true, true, true, true, true, true, true, true, true, true, true, true, true, true, true, true, true, true, true, true, true, true, true, true, true, true, true, true, true, true, true, true, true, true, true, true, true, true, true, true, true, true, true, true, true, true, true, true, true, true, true, true, true, true, false, false, false, false, false, false, false, false, false, false, false, false, false, false, false, false, false, false, false, false, false, false, false, false, false, false, false, false, false, false] 30 (by kernel_rfl) (by kernel_rfl) ?_
  exact tailA3 HTX.out HTA.out HTY.out HTZ.out HB.out HQ.out hHeld.2
set_option maxHeartbeats 40000000 in
set_option maxRecDepth 100000 in
theorem last_regionA {K0 : Act → World → Prop} {R0 : Ending → World → Prop} {we : World} {g1 g2 g17 g18 : Nat} {k1 n1 k2 n2 k7 n7 k8 n8 : Int} {s1 s2 s7 s8 : ByteArray} {a1 a2 a7 a8 : Option Addr} {m1 c1 m2 c2 m7 c7 m8 c8 : Nat}
    {y5 y6 y8 y9 y11 y12 y14 y19 y20 y21 y22 y23 y24 y25 y26 y27 y28 y29 y30 y31 y32 y33 y34 y35 y36 y37 y38 y39 y40 y41 y42 y43 y44 y45 y46 y47 y48 y49 y50 y51 y52 y53 y54 y55 y56 y57 y58 y59 y60 y61 y62 y63 y64 y65 y66 y67 y68 y69 y70 y71 y72 y73 y74 y75 y76 y77 y78 y79 y80 y81 y82 y83 y84 y85 y86 y87 y88 y89 y90 y91 y92 y93 y94 y95 y96 y97 y98 y99 y100 y101 y102 y103 y104 y105 y106 y107 y108 y109 y110 y111 y112 y113 y114 y115 y116 y117 y118 y119 y120 y121 y122 y123 y124 y125 y126 y127 y128 y129 y130 y131 y132 y133 y134 y135 y136 y137 y138 y139 y140 y141 y142 y143 y144 y145 y146 y147 y148 y149 y150 y151 y152 y153 y154 y155 y156 y157 y158 y159 y160 y161 y162 y163 y164 : Value}
    (hX : TmV we kX (.agg #[.int .i64 k1, .int .i64 n1, .string s1, .slice a1 m1 c1])) (hA : TmV we kA (.agg #[.int .i64 k2, .int .i64 n2, .string s2, .slice a2 m2 c2])) (hY : TmV we kY (.agg #[.int .i64 k7, .int .i64 n7, .string s7, .slice a7 m7 c7])) (hZ : TmV we kZ (.agg #[.int .i64 k8, .int .i64 n8, .string s8, .slice a8 m8 c8]))
    (hB : Box we g1 [.int .i64 k1, .int .i64 n1, .string s1, .slice a1 m1 c1] ∧ Box we g2 [.int .i64 k2, .int .i64 n2, .string s2, .slice a2 m2 c2] ∧ Box we g17 [.int .i64 k7, .int .i64 n7, .string s7, .slice a7 m7 c7] ∧ Box we g18 [.int .i64 k8, .int .i64 n8, .string s8, .slice a8 m8 c8])
    (hQ : ∀ (x65 x66 x67 x68 x69 x70 x71 x72 x73 x74 x75 x76 x77 x78 x79 x80 x81 x82 x83 x84 x85 x86 x87 x88 x89 x90 x91 x92 x93 x94 x95 x96 x97 x98 x99 x100 x101 x102 x103 x104 x105 x106 x107 x108 x109 x110 x111 x112 x113 x114 x115 x116 x117 x118 x119 x120 x121 x122 x123 x124 x125 x126 x127 x128 x129 x130 x131 x132 x133 x134 x135 x136 x137 x138 x139 x140 x141 x142 x143 x144 x145 x146 x147 x148 x149 x150 x151 x152 x153 x154 x155 x156 x157 x158 x159 x160 x161 x162 x163 x164 : Value) (w' : World), Below we.heap.size we w' → K0 ⟨#[.bool true, .pointer (some ⟨g1, 0, none⟩), .pointer (some ⟨g2, 0, none⟩), .int .i64 12, .int .i64 0, y5, y6, .int .i64 3, y8, y9, .int .i64 1, y11, y12, .int .i64 1, y14, .int .i64 2147483648, .int .i64 0, .pointer (some ⟨g17, 0, none⟩), .pointer (some ⟨g18, 0, none⟩), y19, y20, y21, y22, y23, y24, y25, y26, y27, y28, y29, y30, y31, y32, y33, y34, y35, y36, y37, y38, y39, y40, y41, y42, y43, y44, y45, y46, y47, y48, y49, y50, y51, y52, y53, y54, y55, y56, y57, y58, y59, y60, y61, y62, y63, y64, x65, x66, x67, x68, x69, x70, x71, x72, x73, x74, x75, x76, x77, x78, x79, x80, x81, x82, x83, x84, x85, x86, x87, x88, x89, x90, x91, x92, x93, x94, x95, x96, x97, x98, x99, x100, x101, x102, x103, x104, x105, x106, x107, x108, x109, x110, x111, x112, x113, x114, x115, x116, x117, x118, x119, x120, x121, x122, x123, x124, x125, x126, x127, x128, x129, x130, x131, x132, x133, x134, x135, x136, x137, x138, x139, x140, x141, x142, x143, x144, x145, x146, x147, x148, x149, x150, x151, x152, x153, x154, x155, x156, x157, x158, x159, x160, x161, x162, x163, x164], []⟩ w') :
    Code.wp Try.prog lastRegA (Exit.then K0 (bodyPost Try.prog Try.f9 R0)) ⟨#[.bool false, .pointer (some ⟨g1, 0, none⟩), .pointer (some ⟨g2, 0, none⟩), .int .i64 12, .int .i64 0, y5, y6, .int .i64 3, y8, y9, .int .i64 1, y11, y12, .int .i64 1, y14, .int .i64 2147483648, .int .i64 0, .pointer (some ⟨g17, 0, none⟩), .pointer (some ⟨g18, 0, none⟩), y19, y20, y21, y22, y23, y24, y25, y26, y27, y28, y29, y30, y31, y32, y33, y34, y35, y36, y37, y38, y39, y40, y41, y42, y43, y44, y45, y46, y47, y48, y49, y50, y51, y52, y53, y54, y55, y56, y57, y58, y59, y60, y61, y62, y63, y64, y65, y66, y67, y68, y69, y70, y71, y72, y73, y74, y75, y76, y77, y78, y79, y80, y81, y82, y83, y84, y85, y86, y87, y88, y89, y90, y91, y92, y93, y94, y95, y96, y97, y98, y99, y100, y101, y102, y103, y104, y105, y106, y107, y108, y109, y110, y111, y112, y113, y114, y115, y116, y117, y118, y119, y120, y121, y122, y123, y124, y125, y126, y127, y128, y129, y130, y131, y132, y133, y134, y135, y136, y137, y138, y139, y140, y141, y142, y143, y144, y145, y146, y147, y148, y149, y150, y151, y152, y153, y154, y155, y156, y157, y158, y159, y160, y161, y162, y163, y164], []⟩ we := by
  have HTX := Lib.hid hX
  have HTA := Lib.hid hA
  have HTY := Lib.hid hY
  have HTZ := Lib.hid hZ
  have HB := Lib.hid hB
  have HQ := Lib.hid hQ
  have HC := Lib.hid (fun (wq : World) (hb : Below we.heap.size we wq) => (show (((wq.cell? ⟨g1, 0, none⟩ = some (.int .i64 k1) ∧ wq.cell? ⟨g1, 1, none⟩ = some (.int .i64 n1) ∧ wq.cell? ⟨g1, 2, none⟩ = some (.string s1) ∧ wq.cell? ⟨g1, 3, none⟩ = some (.slice a1 m1 c1)) ∧ (wq.cell? ⟨g2, 0, none⟩ = some (.int .i64 k2) ∧ wq.cell? ⟨g2, 1, none⟩ = some (.int .i64 n2) ∧ wq.cell? ⟨g2, 2, none⟩ = some (.string s2) ∧ wq.cell? ⟨g2, 3, none⟩ = some (.slice a2 m2 c2)) ∧ (wq.cell? ⟨g17, 0, none⟩ = some (.int .i64 k7) ∧ wq.cell? ⟨g17, 1, none⟩ = some (.int .i64 n7) ∧ wq.cell? ⟨g17, 2, none⟩ = some (.string s7) ∧ wq.cell? ⟨g17, 3, none⟩ = some (.slice a7 m7 c7)) ∧ (wq.cell? ⟨g18, 0, none⟩ = some (.int .i64 k8) ∧ wq.cell? ⟨g18, 1, none⟩ = some (.int .i64 n8) ∧ wq.cell? ⟨g18, 2, none⟩ = some (.string s8) ∧ wq.cell? ⟨g18, 3, none⟩ = some (.slice a8 m8 c8))) ∧ Below we.heap.size we wq) from by
    obtain ⟨p0, p1, p2, p3, _⟩ := (HB.out.1.ext hb).four
    obtain ⟨q0, q1, q2, q3, _⟩ := (HB.out.2.1.ext hb).four
    obtain ⟨r0, r1, r2, r3, _⟩ := (HB.out.2.2.1.ext hb).four
    obtain ⟨t0, t1, t2, t3, _⟩ := (HB.out.2.2.2.ext hb).four
    exact ⟨⟨⟨p0, p1, p2, p3⟩, ⟨q0, q1, q2, q3⟩, ⟨r0, r1, r2, r3⟩, t0, t1, t2, t3⟩, hb⟩))
  clear hX hA hY hZ hB hQ
  conv => arg 2; whnf
  simp only [List.append_eq, List.cons_append, List.nil_append]
  refine wp_region_held_drew (S := fun wq => (((wq.cell? ⟨g1, 0, none⟩ = some (.int .i64 k1) ∧ wq.cell? ⟨g1, 1, none⟩ = some (.int .i64 n1) ∧ wq.cell? ⟨g1, 2, none⟩ = some (.string s1) ∧ wq.cell? ⟨g1, 3, none⟩ = some (.slice a1 m1 c1)) ∧ (wq.cell? ⟨g2, 0, none⟩ = some (.int .i64 k2) ∧ wq.cell? ⟨g2, 1, none⟩ = some (.int .i64 n2) ∧ wq.cell? ⟨g2, 2, none⟩ = some (.string s2) ∧ wq.cell? ⟨g2, 3, none⟩ = some (.slice a2 m2 c2)) ∧ (wq.cell? ⟨g17, 0, none⟩ = some (.int .i64 k7) ∧ wq.cell? ⟨g17, 1, none⟩ = some (.int .i64 n7) ∧ wq.cell? ⟨g17, 2, none⟩ = some (.string s7) ∧ wq.cell? ⟨g17, 3, none⟩ = some (.slice a7 m7 c7)) ∧ (wq.cell? ⟨g18, 0, none⟩ = some (.int .i64 k8) ∧ wq.cell? ⟨g18, 1, none⟩ = some (.int .i64 n8) ∧ wq.cell? ⟨g18, 2, none⟩ = some (.string s8) ∧ wq.cell? ⟨g18, 3, none⟩ = some (.slice a8 m8 c8))) ∧ Below we.heap.size we wq)) (by kernel_rfl) (HC.out _ (Below.refl _ _).drew) (fun hHeld => ?_)
  first | (refine held_t (i := 0) hHeld ?_; apply Exists.intro; refine ⟨fun wq hq => ?_, ?_⟩; (focus ((try dsimp only at hq); go_simp; (first | done | with_reducible rfl | fail)))) | refine held_s (i := 0) hHeld ?_ | fail
  first | (refine held_t (i := 1) hHeld ?_; apply Exists.intro; refine ⟨fun wq hq => ?_, ?_⟩; (focus ((try dsimp only at hq); go_simp; (first | done | with_reducible rfl | fail)))) | refine held_s (i := 1) hHeld ?_ | fail
  try simp only [Act.put, List.setIfInBounds_toArray, List.set_cons_zero, List.set_cons_succ]
  first | (refine held_t (i := 2) hHeld ?_; apply Exists.intro; refine ⟨fun wq hq => ?_, ?_⟩; (focus ((try dsimp only at hq); go_simp; (first | done | with_reducible rfl | fail)))) | refine held_s (i := 2) hHeld ?_ | fail
  first | (refine held_t (i := 3) hHeld ?_; apply Exists.intro; refine ⟨fun wq hq => ?_, ?_⟩; (focus ((try dsimp only at hq); go_simp; (first | done | with_reducible rfl | fail)))) | refine held_s (i := 3) hHeld ?_ | fail
  try simp only [Act.put, List.setIfInBounds_toArray, List.set_cons_zero, List.set_cons_succ]
  first | (refine held_t (i := 4) hHeld ?_; apply Exists.intro; refine ⟨fun wq hq => ?_, ?_⟩; (focus ((try dsimp only at hq); go_simp; (first | done | with_reducible rfl | fail)))) | refine held_s (i := 4) hHeld ?_ | fail
  first | (refine held_t (i := 5) hHeld ?_; apply Exists.intro; refine ⟨fun wq hq => ?_, ?_⟩; (focus ((try dsimp only at hq); go_simp; (first | done | with_reducible rfl | fail)))) | refine held_s (i := 5) hHeld ?_ | fail
  try simp only [Act.put, List.setIfInBounds_toArray, List.set_cons_zero, List.set_cons_succ]
  first | (refine held_t (i := 6) hHeld ?_; apply Exists.intro; refine ⟨fun wq hq => ?_, ?_⟩; (focus ((try dsimp only at hq); go_simp; (first | done | with_reducible rfl | fail)))) | refine held_s (i := 6) hHeld ?_ | fail
  first | (refine held_t (i := 7) hHeld ?_; apply Exists.intro; refine ⟨fun wq hq => ?_, ?_⟩; (focus ((try dsimp only at hq); go_simp; (first | done | with_reducible rfl | fail)))) | refine held_s (i := 7) hHeld ?_ | fail
  try simp only [Act.put, List.setIfInBounds_toArray, List.set_cons_zero, List.set_cons_succ]
  refine held_c 8 fun K hK => ?_
  go_simp
  (go_at_call 19; refine (var_at _ 10).mono ?_; rintro e u1 ⟨rfl, h6⟩)
  refine hK.out _ _ (HC.out _ (Ext.trans' hHeld.2 h6)) (fun hHeld => ?_)
  clear hK K
  try simp only [Act.put, List.setIfInBounds_toArray, List.set_cons_zero, List.set_cons_succ]
  refine held_c 9 fun K hK => ?_
  go_simp
  (go_at_call 19; refine (var_at _ 11).mono ?_; rintro e u2 ⟨rfl, h6⟩)
  refine hK.out _ _ (HC.out _ (Ext.trans' hHeld.2 h6)) (fun hHeld => ?_)
  clear hK K
  try simp only [Act.put, List.setIfInBounds_toArray, List.set_cons_zero, List.set_cons_succ]
  have HU := Lib.hid (hHeld.2.trans (Below.refl _ _))
  have C := comp_two (w0 := we) HU.out ⟨#[102]⟩ ⟨#[]⟩ ⟨#[]⟩ (big_1 _) (k := 0) (n := 10) (k' := 0) (n' := 11) i64_0 (i64s _ (by omega)) big_0 i64_0 (i64s _ (by omega)) big_0
  refine held_c 10 fun K hK => ?_
  go_simp
  skip
  refine hK.out _ _ (HC.out _ (Ext.trans' hHeld.2 (bel1' _ _))) (fun hHeld => ?_)
  clear hK K
  try simp only [Act.put, List.setIfInBounds_toArray, List.set_cons_zero, List.set_cons_succ]
  refine held_c 11 fun K hK => ?_
  go_simp
  (go_at_call 20; refine C.mono ?_; rintro e u3 ⟨a_, c_, rfl, ht_, h6⟩; have HA2 := Lib.hid (show TmV u3 kA _ from ht_.bare); clear ht_)
  refine hK.out _ _ (HC.out _ h6) (fun hHeld => ?_)
  clear hK K
  try simp only [Act.put, List.setIfInBounds_toArray, List.set_cons_zero, List.set_cons_succ]
  clear C HU
  refine held_c 12 fun K hK => ?_
  go_simp
  (go_at_call 25; refine (Same_at (TmV.ext hHeld.2 _ _ HTA.out) HA2.out).mono ?_; rintro e u4 ⟨rfl, h6⟩; rw [kn6])
  refine hK.out _ _ (HC.out _ (Ext.trans' hHeld.2 h6)) (fun hHeld => ?_)
  clear hK K
  try simp only [Act.put, List.setIfInBounds_toArray, List.set_cons_zero, List.set_cons_succ]
  first | (refine held_t (i := 13) hHeld ?_; apply Exists.intro; refine ⟨fun wq hq => ?_, ?_⟩; (focus ((try dsimp only at hq); go_simp; (first | done | with_reducible rfl | fail)))) | refine held_s (i := 13) hHeld ?_ | fail
  first | (refine held_t (i := 14) hHeld ?_; apply Exists.intro; refine ⟨fun wq hq => ?_, ?_⟩; (focus ((try dsimp only at hq); go_simp; (first | done | with_reducible rfl | fail)))) | refine held_s (i := 14) hHeld ?_ | fail
  try simp only [Act.put, List.setIfInBounds_toArray, List.set_cons_zero, List.set_cons_succ]
  first | (refine held_t (i := 15) hHeld ?_; apply Exists.intro; refine ⟨fun wq hq => ?_, ?_⟩; (focus ((try dsimp only at hq); go_simp; (first | done | with_reducible rfl | fail)))) | refine held_s (i := 15) hHeld ?_ | fail
  first | (refine held_t (i := 16) hHeld ?_; apply Exists.intro; refine ⟨fun wq hq => ?_, ?_⟩; (focus ((try dsimp only at hq); go_simp; (first | done | with_reducible rfl | fail)))) | refine held_s (i := 16) hHeld ?_ | fail
  try simp only [Act.put, List.setIfInBounds_toArray, List.set_cons_zero, List.set_cons_succ]
  first | (refine held_t (i := 17) hHeld ?_; apply Exists.intro; refine ⟨fun wq hq => ?_, ?_⟩; (focus ((try dsimp only at hq); go_simp; (first | done | with_reducible rfl | fail)))) | refine held_s (i := 17) hHeld ?_ | fail
  first | (refine held_t (i := 18) hHeld ?_; apply Exists.intro; refine ⟨fun wq hq => ?_, ?_⟩; (focus ((try dsimp only at hq); go_simp; (first | done | with_reducible rfl | fail)))) | refine held_s (i := 18) hHeld ?_ | fail
  try simp only [Act.put, List.setIfInBounds_toArray, List.set_cons_zero, List.set_cons_succ]
  first | (refine held_t (i := 19) hHeld ?_; apply Exists.intro; refine ⟨fun wq hq => ?_, ?_⟩; (focus ((try dsimp only at hq); go_simp; (first | done | with_reducible rfl | fail)))) | refine held_s (i := 19) hHeld ?_ | fail
  first | (refine held_t (i := 20) hHeld ?_; apply Exists.intro; refine ⟨fun wq hq => ?_, ?_⟩; (focus ((try dsimp only at hq); go_simp; (first | done | with_reducible rfl | fail)))) | refine held_s (i := 20) hHeld ?_ | fail
  try simp only [Act.put, List.setIfInBounds_toArray, List.set_cons_zero, List.set_cons_succ]
  first | (refine held_t (i := 21) hHeld ?_; apply Exists.intro; refine ⟨fun wq hq => ?_, ?_⟩; (focus ((try dsimp only at hq); go_simp; (first | done | with_reducible rfl | fail)))) | refine held_s (i := 21) hHeld ?_ | fail
  first | (refine held_t (i := 22) hHeld ?_; apply Exists.intro; refine ⟨fun wq hq => ?_, ?_⟩; (focus ((try dsimp only at hq); go_simp; (first | done | with_reducible rfl | fail)))) | refine held_s (i := 22) hHeld ?_ | fail
  try simp only [Act.put, List.setIfInBounds_toArray, List.set_cons_zero, List.set_cons_succ]
  first | (refine held_t (i := 23) hHeld ?_; apply Exists.intro; refine ⟨fun wq hq => ?_, ?_⟩; (focus ((try dsimp only at hq); go_simp; (first | done | with_reducible rfl | fail)))) | refine held_s (i := 23) hHeld ?_ | fail
  first | (refine held_t (i := 24) hHeld ?_; apply Exists.intro; refine ⟨fun wq hq => ?_, ?_⟩; (focus ((try dsimp only at hq); go_simp; (first | done | with_reducible rfl | fail)))) | refine held_s (i := 24) hHeld ?_ | fail
  try simp only [Act.put, List.setIfInBounds_toArray, List.set_cons_zero, List.set_cons_succ]
  first | (refine held_t (i := 25) hHeld ?_; apply Exists.intro; refine ⟨fun wq hq => ?_, ?_⟩; (focus ((try dsimp only at hq); go_simp; (first | done | with_reducible rfl | fail)))) | refine held_s (i := 25) hHeld ?_ | fail
  first | (refine held_t (i := 26) hHeld ?_; apply Exists.intro; refine ⟨fun wq hq => ?_, ?_⟩; (focus ((try dsimp only at hq); go_simp; (first | done | with_reducible rfl | fail)))) | refine held_s (i := 26) hHeld ?_ | fail
  try simp only [Act.put, List.setIfInBounds_toArray, List.set_cons_zero, List.set_cons_succ]
  first | (refine held_t (i := 27) hHeld ?_; apply Exists.intro; refine ⟨fun wq hq => ?_, ?_⟩; (focus ((try dsimp only at hq); go_simp; (first | done | with_reducible rfl | fail)))) | refine held_s (i := 27) hHeld ?_ | fail
  first | (refine held_t (i := 28) hHeld ?_; apply Exists.intro; refine ⟨fun wq hq => ?_, ?_⟩; (focus ((try dsimp only at hq); go_simp; (first | done | with_reducible rfl | fail)))) | refine held_s (i := 28) hHeld ?_ | fail
  try simp only [Act.put, List.setIfInBounds_toArray, List.set_cons_zero, List.set_cons_succ]
  first | (refine held_t (i := 29) hHeld ?_; apply Exists.intro; refine ⟨fun wq hq => ?_, ?_⟩; (focus ((try dsimp only at hq); go_simp; (first | done | with_reducible rfl | fail)))) | refine held_s (i := 29) hHeld ?_ | fail
  first | (refine held_t (i := 30) hHeld ?_; apply Exists.intro; refine ⟨fun wq hq => ?_, ?_⟩; (focus ((try dsimp only at hq); go_simp; (first | done | with_reducible rfl | fail)))) | refine held_s (i := 30) hHeld ?_ | fail
  try simp only [Act.put, List.setIfInBounds_toArray, List.set_cons_zero, List.set_cons_succ]
  first | (refine held_t (i := 31) hHeld ?_; apply Exists.intro; refine ⟨fun wq hq => ?_, ?_⟩; (focus ((try dsimp only at hq); go_simp; (first | done | with_reducible rfl | fail)))) | refine held_s (i := 31) hHeld ?_ | fail
  first | (refine held_t (i := 32) hHeld ?_; apply Exists.intro; refine ⟨fun wq hq => ?_, ?_⟩; (focus ((try dsimp only at hq); go_simp; (first | done | with_reducible rfl | fail)))) | refine held_s (i := 32) hHeld ?_ | fail
  try simp only [Act.put, List.setIfInBounds_toArray, List.set_cons_zero, List.set_cons_succ]
  first | (refine held_t (i := 33) hHeld ?_; apply Exists.intro; refine ⟨fun wq hq => ?_, ?_⟩; (focus ((try dsimp only at hq); go_simp; (first | done | with_reducible rfl | fail)))) | refine held_s (i := 33) hHeld ?_ | fail
  first | (refine held_t (i := 34) hHeld ?_; apply Exists.intro; refine ⟨fun wq hq => ?_, ?_⟩; (focus ((try dsimp only at hq); go_simp; (first | done | with_reducible rfl | fail)))) | refine held_s (i := 34) hHeld ?_ | fail
  try simp only [Act.put, List.setIfInBounds_toArray, List.set_cons_zero, List.set_cons_succ]
  refine held_list #[true, true, true, true, true, true, true, true, true, true, true, true, true, true, true, true, true, true, true, true, true, true, true, true, true, true, true, true, true, true, true, true, true, true, true, false, false, false, false, false, false, false, false, false, false, false, false, false, false, false, false, false, false, false, false, false, false, false, false, false, false, false, false, false, false, false, false, false, false, false, false, false, false, false, false, false, false, false, false, false, false, false, false, false, false, false, false, false, false, false, false, false, false, false, false, false, false, false, false, false, false] 66 (by kernel_rfl) (by kernel_rfl) ?_
  exact tailA2 HTX.out HTA.out HTY.out HTZ.out HB.out HQ.out hHeld.2
end Go.Proofs.Ytbbbgijlbcmpbaa
