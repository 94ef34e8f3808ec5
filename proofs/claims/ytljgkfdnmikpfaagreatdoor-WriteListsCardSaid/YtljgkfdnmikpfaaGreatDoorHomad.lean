import Derived.Test.YtljgkfdnmikpfaaGreatDoorHomac
import Derived.Deep.RegionHeld3
import Derived.Test.YtljgkfdnmikpfaaGreatDoorHomaa
import Derived.Test.YtljgkfdnmikpfaaGreatDoorRows
import Derived.Laws.ResultCell
set_option linter.unusedVariables false
set_option linter.unusedSimpArgs false
/- Operators: the plain ones. -/
namespace Go.Proofs.YtljgkfdnmikpfaaGreatDoor
open Go.Shelf Go.RowKit

abbrev xfx : ByteArray := ⟨#[120, 102, 120]⟩
abbrev xfy : ByteArray := ⟨#[120, 102, 121]⟩
abbrev yfx : ByteArray := ⟨#[121, 102, 120]⟩
abbrev fy : ByteArray := ⟨#[102, 121]⟩
def names1 : List ByteArray := [⟨#[58, 45]⟩]
def names2 : List ByteArray := [⟨#[59]⟩]
def names3 : List ByteArray := [⟨#[45, 62]⟩]
def names4 : List ByteArray := [⟨#[44]⟩]
def names5 : List ByteArray := [⟨#[92, 43]⟩]
def names6 : List ByteArray := [⟨#[61]⟩, ⟨#[92, 61]⟩, ⟨#[61, 61]⟩, ⟨#[92, 61, 61]⟩, ⟨#[64, 60]⟩, ⟨#[64, 62]⟩, ⟨#[64, 61, 60]⟩, ⟨#[64, 62, 61]⟩, ⟨#[61, 46, 46]⟩, ⟨#[105, 115]⟩, ⟨#[61, 58, 61]⟩, ⟨#[61, 92, 61]⟩, ⟨#[60]⟩, ⟨#[62]⟩, ⟨#[61, 60]⟩, ⟨#[62, 61]⟩]
def names7 : List ByteArray := [⟨#[43]⟩, ⟨#[45]⟩, ⟨#[47, 92]⟩, ⟨#[92, 47]⟩, ⟨#[120, 111, 114]⟩]
def names8 : List ByteArray := [⟨#[42]⟩, ⟨#[47, 47]⟩, ⟨#[109, 111, 100]⟩, ⟨#[114, 101, 109]⟩, ⟨#[62, 62]⟩, ⟨#[60, 60]⟩]
def names9 : List ByteArray := [⟨#[94]⟩]
def names10 : List ByteArray := [⟨#[45]⟩, ⟨#[92]⟩]
def alikeB (k : ByteArray) (l : Int) (ns : List ByteArray) : List O := ns.map fun s => ⟨s, k, l⟩
def opsB : List O := alikeB xfx 1200 names1 ++ alikeB xfy 1100 names2 ++ alikeB xfy 1050 names3 ++ alikeB xfy 1000 names4 ++ alikeB fy 900 names5 ++ alikeB xfx 700 names6 ++ alikeB yfx 500 names7 ++ alikeB yfx 400 names8 ++ alikeB xfy 200 names9 ++ alikeB fy 200 names10

theorem alike_at {w0 w : World} (hb : Below w0.heap.size w0 w) (ns : List ByteArray) (n : Nat) (hn : ns.length = n) (hs : n ≤ 100) (hz : ∀ s ∈ ns, s.size ≤ 100000) (k : ByteArray) (l : Int) :
    Calls Tryz.prog 45 #[.string k, .int .i64 l, .slice (some ⟨w.heap.size, 0, none⟩) n n] (w.alloc (.cells (ns.map Value.string).toArray 9)) fun e w' => ∃ a c, e = .returned (.slice a n c) ∧ Ops w' (.slice a n c) (alikeB k l ns) ∧ Below w.heap.size w w' ∧ Below w0.heap.size w0 w' := by
  refine (alike_walk k l (strs_laid w 9 ns n hn (by omega) hz) (by omega)).mono ?_
  rintro e w' ⟨r, rfl, h1, h2⟩
  have h3 : Below w.heap.size w w' := Below.trans (bel1' _ _) (h2.mono (by simp))
  obtain ⟨a, c, rfl, _⟩ := h1.form
  rw [List.length_map, hn] at h1 ⊢
  exact ⟨a, c, rfl, h1, h3, Ext.trans' hb h3⟩

theorem alike1 {w0 w : World} (hb : Below w0.heap.size w0 w) :
    Calls Tryz.prog 45 #[.string ⟨#[120, 102, 120]⟩, .int .i64 1200, .slice (some ⟨w.heap.size, 0, none⟩) 1 1] (w.alloc (.cells #[.string ⟨#[58, 45]⟩] 9)) fun e w' => ∃ a c, e = .returned (.slice a 1 c) ∧ Ops w' (.slice a 1 c) (alikeB xfx 1200 names1) ∧ Below w.heap.size w w' ∧ Below w0.heap.size w0 w' :=
  alike_at hb names1 1 rfl (by decide) (by decide) xfx 1200
theorem alike2 {w0 w : World} (hb : Below w0.heap.size w0 w) :
    Calls Tryz.prog 45 #[.string ⟨#[120, 102, 121]⟩, .int .i64 1100, .slice (some ⟨w.heap.size, 0, none⟩) 1 1] (w.alloc (.cells #[.string ⟨#[59]⟩] 9)) fun e w' => ∃ a c, e = .returned (.slice a 1 c) ∧ Ops w' (.slice a 1 c) (alikeB xfy 1100 names2) ∧ Below w.heap.size w w' ∧ Below w0.heap.size w0 w' :=
  alike_at hb names2 1 rfl (by decide) (by decide) xfy 1100
theorem alike3 {w0 w : World} (hb : Below w0.heap.size w0 w) :
    Calls Tryz.prog 45 #[.string ⟨#[120, 102, 121]⟩, .int .i64 1050, .slice (some ⟨w.heap.size, 0, none⟩) 1 1] (w.alloc (.cells #[.string ⟨#[45, 62]⟩] 9)) fun e w' => ∃ a c, e = .returned (.slice a 1 c) ∧ Ops w' (.slice a 1 c) (alikeB xfy 1050 names3) ∧ Below w.heap.size w w' ∧ Below w0.heap.size w0 w' :=
  alike_at hb names3 1 rfl (by decide) (by decide) xfy 1050
theorem alike4 {w0 w : World} (hb : Below w0.heap.size w0 w) :
    Calls Tryz.prog 45 #[.string ⟨#[120, 102, 121]⟩, .int .i64 1000, .slice (some ⟨w.heap.size, 0, none⟩) 1 1] (w.alloc (.cells #[.string ⟨#[44]⟩] 9)) fun e w' => ∃ a c, e = .returned (.slice a 1 c) ∧ Ops w' (.slice a 1 c) (alikeB xfy 1000 names4) ∧ Below w.heap.size w w' ∧ Below w0.heap.size w0 w' :=
  alike_at hb names4 1 rfl (by decide) (by decide) xfy 1000
theorem alike5 {w0 w : World} (hb : Below w0.heap.size w0 w) :
    Calls Tryz.prog 45 #[.string ⟨#[102, 121]⟩, .int .i64 900, .slice (some ⟨w.heap.size, 0, none⟩) 1 1] (w.alloc (.cells #[.string ⟨#[92, 43]⟩] 9)) fun e w' => ∃ a c, e = .returned (.slice a 1 c) ∧ Ops w' (.slice a 1 c) (alikeB fy 900 names5) ∧ Below w.heap.size w w' ∧ Below w0.heap.size w0 w' :=
  alike_at hb names5 1 rfl (by decide) (by decide) fy 900
theorem alike6 {w0 w : World} (hb : Below w0.heap.size w0 w) :
    Calls Tryz.prog 45 #[.string ⟨#[120, 102, 120]⟩, .int .i64 700, .slice (some ⟨w.heap.size, 0, none⟩) 16 16] (w.alloc (.cells #[.string ⟨#[61]⟩, .string ⟨#[92, 61]⟩, .string ⟨#[61, 61]⟩, .string ⟨#[92, 61, 61]⟩, .string ⟨#[64, 60]⟩, .string ⟨#[64, 62]⟩, .string ⟨#[64, 61, 60]⟩, .string ⟨#[64, 62, 61]⟩, .string ⟨#[61, 46, 46]⟩, .string ⟨#[105, 115]⟩, .string ⟨#[61, 58, 61]⟩, .string ⟨#[61, 92, 61]⟩, .string ⟨#[60]⟩, .string ⟨#[62]⟩, .string ⟨#[61, 60]⟩, .string ⟨#[62, 61]⟩] 9)) fun e w' => ∃ a c, e = .returned (.slice a 16 c) ∧ Ops w' (.slice a 16 c) (alikeB xfx 700 names6) ∧ Below w.heap.size w w' ∧ Below w0.heap.size w0 w' :=
  alike_at hb names6 16 rfl (by decide) (by decide) xfx 700
theorem alike7 {w0 w : World} (hb : Below w0.heap.size w0 w) :
    Calls Tryz.prog 45 #[.string ⟨#[121, 102, 120]⟩, .int .i64 500, .slice (some ⟨w.heap.size, 0, none⟩) 5 5] (w.alloc (.cells #[.string ⟨#[43]⟩, .string ⟨#[45]⟩, .string ⟨#[47, 92]⟩, .string ⟨#[92, 47]⟩, .string ⟨#[120, 111, 114]⟩] 9)) fun e w' => ∃ a c, e = .returned (.slice a 5 c) ∧ Ops w' (.slice a 5 c) (alikeB yfx 500 names7) ∧ Below w.heap.size w w' ∧ Below w0.heap.size w0 w' :=
  alike_at hb names7 5 rfl (by decide) (by decide) yfx 500
theorem alike8 {w0 w : World} (hb : Below w0.heap.size w0 w) :
    Calls Tryz.prog 45 #[.string ⟨#[121, 102, 120]⟩, .int .i64 400, .slice (some ⟨w.heap.size, 0, none⟩) 6 6] (w.alloc (.cells #[.string ⟨#[42]⟩, .string ⟨#[47, 47]⟩, .string ⟨#[109, 111, 100]⟩, .string ⟨#[114, 101, 109]⟩, .string ⟨#[62, 62]⟩, .string ⟨#[60, 60]⟩] 9)) fun e w' => ∃ a c, e = .returned (.slice a 6 c) ∧ Ops w' (.slice a 6 c) (alikeB yfx 400 names8) ∧ Below w.heap.size w w' ∧ Below w0.heap.size w0 w' :=
  alike_at hb names8 6 rfl (by decide) (by decide) yfx 400
theorem alike9 {w0 w : World} (hb : Below w0.heap.size w0 w) :
    Calls Tryz.prog 45 #[.string ⟨#[120, 102, 121]⟩, .int .i64 200, .slice (some ⟨w.heap.size, 0, none⟩) 1 1] (w.alloc (.cells #[.string ⟨#[94]⟩] 9)) fun e w' => ∃ a c, e = .returned (.slice a 1 c) ∧ Ops w' (.slice a 1 c) (alikeB xfy 200 names9) ∧ Below w.heap.size w w' ∧ Below w0.heap.size w0 w' :=
  alike_at hb names9 1 rfl (by decide) (by decide) xfy 200
theorem alike10 {w0 w : World} (hb : Below w0.heap.size w0 w) :
    Calls Tryz.prog 45 #[.string ⟨#[102, 121]⟩, .int .i64 200, .slice (some ⟨w.heap.size, 0, none⟩) 2 2] (w.alloc (.cells #[.string ⟨#[45]⟩, .string ⟨#[92]⟩] 9)) fun e w' => ∃ a c, e = .returned (.slice a 2 c) ∧ Ops w' (.slice a 2 c) (alikeB fy 200 names10) ∧ Below w.heap.size w w' ∧ Below w0.heap.size w0 w' :=
  alike_at hb names10 2 rfl (by decide) (by decide) fy 200
theorem parts_laid (w : World) (t : TypeId) (ps : List (Value × List O)) (n : Nat) (hn : ps.length = n) (h : n ≤ 100000) :
    Elems 1 (fun p => [p.1]) (w.alloc (.cells (ps.map (·.1)).toArray t)) (.slice (some ⟨w.heap.size, 0, none⟩) n n) ps := by
  subst hn
  refine ⟨_, _, rfl, Nat.le_refl _, by unfold maxLen; omega, Or.inr ⟨_, _, rfl, by simp, fun i x hx j u hu => ?_⟩⟩
  have hj : j = 0 := by have := (List.getElem?_eq_some_iff.1 hu).1; simp at this; exact this
  subst hj
  simp at hu
  subst hu
  rw [World.cell?_alloc_at _ _ _ _ rfl]
  simp [hx]
def parts (r1 r2 r3 r4 r5 r6 r7 r8 r9 r10 : Value) : List (Value × List O) := [(r1, alikeB xfx 1200 names1), (r2, alikeB xfy 1100 names2), (r3, alikeB xfy 1050 names3), (r4, alikeB xfy 1000 names4), (r5, alikeB fy 900 names5), (r6, alikeB xfx 700 names6), (r7, alikeB yfx 500 names7), (r8, alikeB yfx 400 names8), (r9, alikeB xfy 200 names9), (r10, alikeB fy 200 names10)]
theorem parts_flat (r1 r2 r3 r4 r5 r6 r7 r8 r9 r10 : Value) : (parts r1 r2 r3 r4 r5 r6 r7 r8 r9 r10).flatMap (·.2) = opsB := by
  simp only [parts, opsB, List.flatMap_cons, List.flatMap_nil, List.append_nil, List.append_assoc]
theorem plain_len : opsB.length = 35 := by decide +kernel
theorem parts_at (w : World) (r1 r2 r3 r4 r5 r6 r7 r8 r9 r10 : Value) : Elems 1 (fun p => [p.1]) (w.alloc (.cells #[r1, r2, r3, r4, r5, r6, r7, r8, r9, r10] 34)) (.slice (some ⟨w.heap.size, 0, none⟩) 10 10) (parts r1 r2 r3 r4 r5 r6 r7 r8 r9 r10) :=
  parts_laid w 34 (parts r1 r2 r3 r4 r5 r6 r7 r8 r9 r10) 10 rfl (by decide)
theorem concat_plain {w : World} {r1 r2 r3 r4 r5 r6 r7 r8 r9 r10 : Value} {v : Value} (h : Elems 1 (fun p => [p.1]) w v (parts r1 r2 r3 r4 r5 r6 r7 r8 r9 r10)) (hp : ∀ p ∈ parts r1 r2 r3 r4 r5 r6 r7 r8 r9 r10, Ops w p.1 p.2) :
    Calls Tryz.prog 44 #[v] w fun e w' => ∃ r, e = .returned r ∧ Ops w' r opsB ∧ Below w.heap.size w w' ∧ (∀ k, r.ownBlock = some k → w.heap.size ≤ k) := by
  have := concat_walk h hp (by simp [parts]) (by rw [parts_flat, plain_len]; omega)
  rw [parts_flat] at this
  exact this
set_option maxRecDepth 100000
set_option maxHeartbeats 1000000 in
theorem plain_walk (w : World) : Calls Tryz.prog 17 #[] w fun e w' => ∃ v, e = .returned (.agg #[v]) ∧ Ops w' v opsB ∧ Below w.heap.size w w' := by
  have hA := alike1 (w0 := w.alloc (.cells #[.slice none 0 0] 36)) (Below.refl _ _)
  have hsz : (w.alloc (.cells #[.slice none 0 0] 36)).heap.size = w.heap.size + 1 := by simp
  rw [hsz] at hA
  have HA := Lib.hid hA
  clear hA hsz
  go_enter Tryz.func17, Tryz.ntmps17
  (go_wp2_with fail; go_fit (HA.out); rintro e w1 ⟨a1, c1, rfl, h1, _, hb1⟩)
  have H1 := Lib.hid h1
  have HB1 : Hid (Below (w.alloc (.cells #[.slice none 0 0] 36)).heap.size (w.alloc (.cells #[.slice none 0 0] 36)) w1) := Lib.hid (by simpa using hb1)
  clear h1 hb1
  (go_wp2_with fail; go_fit (alike2 HB1.out); rintro e w2 ⟨a2, c2, rfl, h2, hc2, hb2⟩)
  have H2 := Lib.hid h2; have HC2 := Lib.hid hc2; have HB2 := Lib.hid hb2
  clear h2 hc2 hb2
  (go_wp2_with fail; go_fit (alike3 HB2.out); rintro e w3 ⟨a3, c3, rfl, h3, hc3, hb3⟩)
  have H3 := Lib.hid h3; have HC3 := Lib.hid hc3; have HB3 := Lib.hid hb3
  clear h3 hc3 hb3
  (go_wp2_with fail; go_fit (alike4 HB3.out); rintro e w4 ⟨a4, c4, rfl, h4, hc4, hb4⟩)
  have H4 := Lib.hid h4; have HC4 := Lib.hid hc4; have HB4 := Lib.hid hb4
  clear h4 hc4 hb4
  (go_wp2_with fail; go_fit (alike5 HB4.out); rintro e w5 ⟨a5, c5, rfl, h5, hc5, hb5⟩)
  have H5 := Lib.hid h5; have HC5 := Lib.hid hc5; have HB5 := Lib.hid hb5
  clear h5 hc5 hb5
  (go_wp2_with fail; go_fit (alike6 HB5.out); rintro e w6 ⟨a6, c6, rfl, h6, hc6, hb6⟩)
  have H6 := Lib.hid h6; have HC6 := Lib.hid hc6; have HB6 := Lib.hid hb6
  clear h6 hc6 hb6
  (go_wp2_with fail; go_fit (alike7 HB6.out); rintro e w7 ⟨a7, c7, rfl, h7, hc7, hb7⟩)
  have H7 := Lib.hid h7; have HC7 := Lib.hid hc7; have HB7 := Lib.hid hb7
  clear h7 hc7 hb7
  (go_wp2_with fail; go_fit (alike8 HB7.out); rintro e w8 ⟨a8, c8, rfl, h8, hc8, hb8⟩)
  have H8 := Lib.hid h8; have HC8 := Lib.hid hc8; have HB8 := Lib.hid hb8
  clear h8 hc8 hb8
  (go_wp2_with fail; go_fit (alike9 HB8.out); rintro e w9 ⟨a9, c9, rfl, h9, hc9, hb9⟩)
  have H9 := Lib.hid h9; have HC9 := Lib.hid hc9; have HB9 := Lib.hid hb9
  clear h9 hc9 hb9
  (go_wp2_with fail; go_fit (alike10 HB9.out); rintro e w10 ⟨a10, c10, rfl, h10, hc10, hb10⟩)
  have H10 := Lib.hid h10; have HC10 := Lib.hid hc10; have HB10 := Lib.hid hb10
  clear h10 hc10 hb10
  have O10 := Lib.hid H10.out
  have O1 := Lib.hid (((((((((H1.out.ext HC2.out).ext HC3.out).ext HC4.out).ext HC5.out).ext HC6.out).ext HC7.out).ext HC8.out).ext HC9.out).ext HC10.out)
  have O2 := Lib.hid ((((((((H2.out.ext HC3.out).ext HC4.out).ext HC5.out).ext HC6.out).ext HC7.out).ext HC8.out).ext HC9.out).ext HC10.out)
  have O3 := Lib.hid (((((((H3.out.ext HC4.out).ext HC5.out).ext HC6.out).ext HC7.out).ext HC8.out).ext HC9.out).ext HC10.out)
  have O4 := Lib.hid ((((((H4.out.ext HC5.out).ext HC6.out).ext HC7.out).ext HC8.out).ext HC9.out).ext HC10.out)
  have O5 := Lib.hid (((((H5.out.ext HC6.out).ext HC7.out).ext HC8.out).ext HC9.out).ext HC10.out)
  have O6 := Lib.hid ((((H6.out.ext HC7.out).ext HC8.out).ext HC9.out).ext HC10.out)
  have O7 := Lib.hid (((H7.out.ext HC8.out).ext HC9.out).ext HC10.out)
  have O8 := Lib.hid ((H8.out.ext HC9.out).ext HC10.out)
  have O9 := Lib.hid (H9.out.ext HC10.out)
  clear HA H1 H2 H3 H4 H5 H6 H7 H8 H9 H10 HC2 HC3 HC4 HC5 HC6 HC7 HC8 HC9 HC10 HB1 HB2 HB3 HB4 HB5 HB6 HB7 HB8 HB9
  have hpl := parts_at w10 (.slice a1 1 c1) (.slice a2 1 c2) (.slice a3 1 c3) (.slice a4 1 c4) (.slice a5 1 c5) (.slice a6 16 c6) (.slice a7 5 c7) (.slice a8 6 c8) (.slice a9 1 c9) (.slice a10 2 c10)
  have HPL := Lib.hid hpl
  clear hpl
  have HPO : Hid (∀ p ∈ (parts (.slice a1 1 c1) (.slice a2 1 c2) (.slice a3 1 c3) (.slice a4 1 c4) (.slice a5 1 c5) (.slice a6 16 c6) (.slice a7 5 c7) (.slice a8 6 c8) (.slice a9 1 c9) (.slice a10 2 c10)), Ops (w10.alloc (.cells #[.slice a1 1 c1, .slice a2 1 c2, .slice a3 1 c3, .slice a4 1 c4, .slice a5 1 c5, .slice a6 16 c6, .slice a7 5 c7, .slice a8 6 c8, .slice a9 1 c9, .slice a10 2 c10] 34)) p.1 p.2) := Lib.hid (by
    intro p hp
    simp only [parts, List.mem_cons, List.not_mem_nil, or_false] at hp
    rcases hp with rfl | rfl | rfl | rfl | rfl | rfl | rfl | rfl | rfl | rfl
    
    · exact O1.out.ext (bel1' _ _)
    · exact O2.out.ext (bel1' _ _)
    · exact O3.out.ext (bel1' _ _)
    · exact O4.out.ext (bel1' _ _)
    · exact O5.out.ext (bel1' _ _)
    · exact O6.out.ext (bel1' _ _)
    · exact O7.out.ext (bel1' _ _)
    · exact O8.out.ext (bel1' _ _)
    · exact O9.out.ext (bel1' _ _)
    · exact O10.out.ext (bel1' _ _))
  (go_wp2_with fail; go_fit (concat_plain HPL.out HPO.out); rintro e w11 ⟨r, rfl, h11, hb11, hf11⟩)
  obtain ⟨ar, cr, rfl, _⟩ := h11.form
  have hpl : opsB.length = 35 := plain_len
  rw [hpl] at h11 ⊢
  clear hpl
  have HO := Lib.hid h11
  have hbw : Below (w.alloc (.cells #[.slice none 0 0] 36)).heap.size (w.alloc (.cells #[.slice none 0 0] 36)) w11 := Ext.trans' (Ext.trans' HB10.out (bel1' _ _)) hb11
  have e1 : w11.cell? ⟨w.heap.size, 0, none⟩ = some (.slice none 0 0) := cell_later hbw (by simp)
  have f1 : w11.frozen? ⟨w.heap.size, 0, none⟩ = false := (hbw.frozen (p := ⟨w.heap.size, 0, none⟩) (by simp)).trans (by simp)
  have HBW := Lib.hid (Below.trans (bel1' w _) (hbw.mono (by simp)))
  have HF := Lib.hid hf11
  have HS10 : Hid (w.heap.size + 1 ≤ w10.heap.size) := Lib.hid (by have := HB10.out.size; simpa using this)
  clear hbw hb11 h11 hf11
  go_wp2
  (try simp only [Exit.inBlock, Exit.then])
  refine bodyPost_ret (v := .agg #[.slice ar 35 cr]) (by simp [results, Tryz.f17]; go_simp) rfl ⟨_, rfl, ?_, ?_⟩
  · refine HO.out.set _ _ (fun h => ?_)
    have h' := HF.out _ h
    simp at h'
    have := HS10.out
    omega
  · exact HBW.out.setCell (Nat.le_refl _) _
end Go.Proofs.YtljgkfdnmikpfaaGreatDoor
/- Operators: what Add does to a good table. Nothing here is walked. -/
namespace Go.Proofs.YtljgkfdnmikpfaaGreatDoor
open Go.Shelf Go.RowKit

def key (x : O) : List UInt8 × Int := (bl x.n, sideB (bl x.k))
theorem isAt_iff (n : List UInt8) (s : Int) (y : O) : isAt n s y = true ↔ key y = (n, s) := by
  simp [isAt, key]
theorem isAt_no (n : List UInt8) (s : Int) (y : O) : isAt n s y = false ↔ key y ≠ (n, s) := by
  rw [← Bool.not_eq_true, isAt_iff]
theorem place_neg (xs : List O) (n : List UInt8) (s : Int) : placeB xs n s < 0 ↔ ∀ x ∈ xs, key x ≠ (n, s) := by
  rcases place_cases xs n s with ⟨h1, h2⟩ | ⟨k, x, h1, h2, h3, _⟩
  · rw [h1]
    refine ⟨fun _ x hx => ?_, fun _ => by decide⟩
    obtain ⟨j, hj, rfl⟩ := List.getElem_of_mem hx
    exact (isAt_no _ _ _).1 (h2 j _ (List.getElem?_eq_getElem hj))
  · rw [h1]
    refine ⟨fun h => by omega, fun h => absurd ((isAt_iff _ _ _).1 h3) (h x (List.mem_of_getElem? h2))⟩
def mayO (x : O) : Bool := mayB (bl x.n) (bl x.k) x.l
theorem good_iff (xs : List O) : goodB xs = true ↔ xs.length ≤ 128 ∧ (∀ x ∈ xs, mayO x = true) ∧ (xs.map key).Nodup := by
  have hall : ((List.range xs.length).all fun k => okB (xs.take k) xs[k]!) = true ↔ ∀ (k : Nat) (x : O), xs[k]? = some x → okB (xs.take k) x = true := by
    rw [List.all_eq_true]
    constructor
    · intro h k x hx
      have hk := (List.getElem?_eq_some_iff.1 hx).1
      have := h k (List.mem_range.2 hk)
      rwa [List.getElem!_eq_getElem?_getD, hx] at this
    · intro h k hk
      have hk := List.mem_range.1 hk
      exact h k _ (by rw [List.getElem!_eq_getElem?_getD, List.getElem?_eq_getElem hk]; rfl)
  unfold goodB
  rw [Bool.and_eq_true, hall]
  simp only [decide_eq_true_eq]
  refine and_congr_right fun _ => ?_
  have hok : ∀ (pre : List O) (x : O), okB pre x = true ↔ mayO x = true ∧ ∀ y ∈ pre, key y ≠ key x := fun pre x => by
    unfold okB
    rw [Bool.and_eq_true, decide_eq_true_eq, place_neg]
    rfl
  constructor
  · intro h
    refine ⟨fun x hx => ?_, ?_⟩
    · obtain ⟨j, hj, rfl⟩ := List.getElem_of_mem hx
      exact ((hok _ _).1 (h j _ (List.getElem?_eq_getElem hj))).1
    · rw [List.nodup_iff_pairwise_ne, List.pairwise_map, List.pairwise_iff_getElem]
      intro i j hi hj hij
      exact ((hok _ _).1 (h j _ (List.getElem?_eq_getElem hj))).2 _ (List.mem_take_iff_getElem.2 ⟨i, by omega, rfl⟩)
  · rintro ⟨h1, h2⟩ k x hx
    refine (hok _ _).2 ⟨h1 x (List.mem_of_getElem? hx), fun y hy => ?_⟩
    obtain ⟨i, hi, rfl⟩ := List.mem_take_iff_getElem.1 hy
    obtain ⟨hk, rfl⟩ := List.getElem?_eq_some_iff.1 hx
    rw [List.nodup_iff_pairwise_ne, List.pairwise_map, List.pairwise_iff_getElem] at h2
    exact h2 i k (by omega) hk (by omega)
theorem nodup_key {xs : List O} (h : (xs.map key).Nodup) {x y : O} (hx : x ∈ xs) (hy : y ∈ xs) (e : key x = key y) : x = y := by
  obtain ⟨i, hi, rfl⟩ := List.getElem_of_mem hx
  obtain ⟨j, hj, rfl⟩ := List.getElem_of_mem hy
  rw [List.nodup_iff_pairwise_ne, List.pairwise_map, List.pairwise_iff_getElem] at h
  rcases Nat.lt_trichotomy i j with hlt | rfl | hlt
  · exact absurd e (h i j hi hj hlt)
  · rfl
  · exact absurd e.symm (h j i hj hi hlt)
theorem one_mem {xs : List O} (hg : goodB xs = true) {x : O} (hx : x ∈ xs) {n : List UInt8} {s : Int} (e : key x = (n, s)) : oneB xs n s = (x, true) := by
  rcases place_cases xs n s with ⟨h1, h2⟩ | ⟨k, y, h1, h2, h3, _⟩
  · exfalso
    have := (place_neg xs n s).1 (by rw [h1]; decide) x hx
    exact this e
  · have hy := nodup_key ((good_iff xs).1 hg).2.2 (List.mem_of_getElem? h2) hx (by rw [e]; exact (isAt_iff _ _ _).1 h3)
    subst hy
    unfold oneB
    rw [h1, hg]
    have h4 : ¬ ((k : Int) < 0) := by omega
    simp only [h4, decide_false, Bool.not_true, Bool.or_self, Int.toNat_natCast]
    rw [List.getElem!_eq_getElem?_getD, h2]
    rfl
theorem one_none {xs : List O} {n : List UInt8} {s : Int} (h : ∀ x ∈ xs, key x ≠ (n, s)) : oneB xs n s = (default, false) := by
  unfold oneB
  rw [decide_eq_true ((place_neg xs n s).2 h)]
  rfl
end Go.Proofs.YtljgkfdnmikpfaaGreatDoor
/- Terms in memory. Nothing here speaks of one program. -/
namespace Go.Proofs.YtljgkfdnmikpfaaGreatDoor
open Go.RowKit

abbrev BIG : Nat := 140737488351232
def I64 (n : Int) : Prop := -9223372036854775808 ≤ n ∧ n ≤ 9223372036854775807
mutual
/-- The value reads as this term. -/
def TmV (w : World) : Tm → Value → Prop
  | .mk k n s ts, v => ∃ (a : Option Addr) (c : Nat), v = .agg #[.int .i64 k, .int .i64 n, .string s, .slice a ts.length c] ∧ ts.length ≤ c ∧ c ≤ maxLen ∧ ts.length * 56 ≤ BIG ∧ s.size ≤ BIG ∧ I64 k ∧ I64 n ∧
      (ts = [] ∨ ∃ b off, a = some ⟨b, off, none⟩ ∧ b < w.heap.size ∧ TmRow w ts b off)
/-- These terms lie there, one behind the other. -/
def TmRow (w : World) : List Tm → Nat → Nat → Prop
  | [], _, _ => True
  | x :: r, b, off => (∃ c0 c1 c2 c3, w.cell? ⟨b, off, none⟩ = some c0 ∧ w.cell? ⟨b, off + 1, none⟩ = some c1 ∧ w.cell? ⟨b, off + 2, none⟩ = some c2 ∧ w.cell? ⟨b, off + 3, none⟩ = some c3 ∧ TmV w x (.agg #[c0, c1, c2, c3])) ∧ TmRow w r b (off + 4)
end
/-- The value reads as these terms. -/
def Tms (w : World) (v : Value) (l : List Tm) : Prop :=
  ∃ (a : Option Addr) (c : Nat), v = .slice a l.length c ∧ l.length ≤ c ∧ c ≤ maxLen ∧ l.length * 56 ≤ BIG ∧ (l = [] ∨ ∃ b off, a = some ⟨b, off, none⟩ ∧ b < w.heap.size ∧ TmRow w l b off)
theorem tmV_iff {w : World} {k n : Int} {s : ByteArray} {ts : List Tm} {v : Value} : TmV w (.mk k n s ts) v ↔ ∃ u, v = .agg #[.int .i64 k, .int .i64 n, .string s, u] ∧ s.size ≤ BIG ∧ I64 k ∧ I64 n ∧ Tms w u ts := by
  rw [TmV]
  constructor
  · rintro ⟨a, c, h1, h2, h3, h4, h5, h6, h7, h8⟩
    exact ⟨_, h1, h5, h6, h7, a, c, rfl, h2, h3, h4, h8⟩
  · rintro ⟨u, h1, h5, h6, h7, a, c, rfl, h2, h3, h4, h8⟩
    exact ⟨a, c, h1, h2, h3, h4, h5, h6, h7, h8⟩
theorem TmRow.get {w : World} : ∀ {l : List Tm} {b off : Nat}, TmRow w l b off → ∀ (i : Nat) (x : Tm), l[i]? = some x →
    ∃ c0 c1 c2 c3, w.cell? ⟨b, off + i * 4, none⟩ = some c0 ∧ w.cell? ⟨b, off + i * 4 + 1, none⟩ = some c1 ∧ w.cell? ⟨b, off + i * 4 + 2, none⟩ = some c2 ∧ w.cell? ⟨b, off + i * 4 + 3, none⟩ = some c3 ∧ TmV w x (.agg #[c0, c1, c2, c3])
  | [], b, off, _, i, x, hx => by simp at hx
  | y :: r, b, off, h, 0, x, hx => by
    simp at hx
    subst hx
    rw [TmRow] at h
    rw [Nat.zero_mul, Nat.add_zero]
    exact h.1
  | y :: r, b, off, h, i + 1, x, hx => by
    rw [TmRow] at h
    have := TmRow.get h.2 i x (by simpa using hx)
    rw [show off + (i + 1) * 4 = off + 4 + i * 4 by omega]
    exact this
theorem TmRow.mk {w : World} : ∀ {l : List Tm} {b off : Nat}, (∀ (i : Nat) (x : Tm), l[i]? = some x →
    ∃ c0 c1 c2 c3, w.cell? ⟨b, off + i * 4, none⟩ = some c0 ∧ w.cell? ⟨b, off + i * 4 + 1, none⟩ = some c1 ∧ w.cell? ⟨b, off + i * 4 + 2, none⟩ = some c2 ∧ w.cell? ⟨b, off + i * 4 + 3, none⟩ = some c3 ∧ TmV w x (.agg #[c0, c1, c2, c3])) → TmRow w l b off
  | [], b, off, _ => by rw [TmRow]; trivial
  | y :: r, b, off, h => by
    rw [TmRow]
    refine ⟨?_, TmRow.mk fun i x hx => ?_⟩
    · have := h 0 y rfl
      rw [Nat.zero_mul, Nat.add_zero] at this
      exact this
    · have := h (i + 1) x (by simpa using hx)
      rw [show off + (i + 1) * 4 = off + 4 + i * 4 by omega] at this
      exact this
mutual
theorem TmV.ext {w w' : World} (hb : Below w.heap.size w w') : ∀ (x : Tm) (v : Value), TmV w x v → TmV w' x v
  | .mk k n s ts, v, h => by
    rw [TmV] at h ⊢
    obtain ⟨a, c, h1, h2, h3, h4, h5, h6, h7, h8⟩ := h
    refine ⟨a, c, h1, h2, h3, h4, h5, h6, h7, ?_⟩
    rcases h8 with h8 | ⟨b, off, e1, e2, e3⟩
    · exact Or.inl h8
    · exact Or.inr ⟨b, off, e1, Nat.lt_of_lt_of_le e2 hb.size, TmRow.ext hb ts b off e3⟩
theorem TmRow.ext {w w' : World} (hb : Below w.heap.size w w') : ∀ (l : List Tm) (b off : Nat), TmRow w l b off → TmRow w' l b off
  | [], b, off, _ => by rw [TmRow]; trivial
  | x :: r, b, off, h => by
    rw [TmRow] at h ⊢
    obtain ⟨⟨c0, c1, c2, c3, h0, h1, h2, h3, h4⟩, h5⟩ := h
    exact ⟨⟨c0, c1, c2, c3, cell_later hb h0, cell_later hb h1, cell_later hb h2, cell_later hb h3, TmV.ext hb x _ h4⟩, TmRow.ext hb r b (off + 4) h5⟩
end
theorem Tms.ext {w w' : World} {v : Value} {l : List Tm} (h : Tms w v l) (hb : Below w.heap.size w w') : Tms w' v l := by
  obtain ⟨a, c, h1, h2, h3, h4, h5⟩ := h
  refine ⟨a, c, h1, h2, h3, h4, ?_⟩
  rcases h5 with h5 | ⟨b, off, e1, e2, e3⟩
  · exact Or.inl h5
  · exact Or.inr ⟨b, off, e1, Nat.lt_of_lt_of_le e2 hb.size, TmRow.ext hb l b off e3⟩
theorem Tms.nil (w : World) : Tms w (.slice none 0 0) [] := ⟨none, 0, rfl, Nat.le_refl _, Nat.zero_le _, by simp, Or.inl rfl⟩
/-- The i-th of them. -/
theorem Tms.get {w : World} {a : Option Addr} {m c : Nat} {l : List Tm} (h : Tms w (.slice a m c) l) {i : Nat} {x : Tm} (hx : l[i]? = some x) :
    ∃ b off k n s u, a = some ⟨b, off, none⟩ ∧ b < w.heap.size ∧ x.k = k ∧ x.n = n ∧ x.s = s ∧ w.cell? ⟨b, off + i * 4, none⟩ = some (.int .i64 k) ∧ w.cell? ⟨b, off + i * 4 + 1, none⟩ = some (.int .i64 n) ∧ w.cell? ⟨b, off + i * 4 + 2, none⟩ = some (.string s) ∧ w.cell? ⟨b, off + i * 4 + 3, none⟩ = some u ∧ Tms w u x.args ∧
      TmV w x (.agg #[.int .i64 k, .int .i64 n, .string s, u]) := by
  obtain ⟨a', c', e, h1, h2, h3, h4⟩ := h
  cases e
  rcases h4 with rfl | ⟨b, off, rfl, hb, hr⟩
  · simp at hx
  · obtain ⟨c0, c1, c2, c3, d0, d1, d2, d3, d4⟩ := hr.get i x hx
    cases x with
    | mk k n s ts =>
      obtain ⟨u, hu, g1, g2, g3, g4⟩ := tmV_iff.1 d4
      simp only [Value.agg.injEq] at hu
      have hu' := congrArg Array.toList hu
      simp only [List.cons.injEq, and_true] at hu'
      obtain ⟨rfl, rfl, rfl, rfl⟩ := hu'
      exact ⟨b, off, k, n, s, _, rfl, hb, rfl, rfl, rfl, d0, d1, d2, d3, g4, d4⟩
theorem Tms.len {w : World} {v : Value} {l : List Tm} (h : Tms w v l) : ∃ a c, v = .slice a l.length c ∧ l.length ≤ c ∧ c ≤ maxLen ∧ l.length * 56 ≤ BIG := by
  obtain ⟨a, c, h1, h2, h3, h4, _⟩ := h
  exact ⟨a, c, h1, h2, h3, h4⟩
end Go.Proofs.YtljgkfdnmikpfaaGreatDoor
/- Terms: small facts; a term as a parameter. -/
namespace Go.Proofs.YtljgkfdnmikpfaaGreatDoor
open Go.RowKit
set_option linter.unusedVariables false

abbrev box4 (k n : Int) (s : ByteArray) (u : Value) (ty : TypeId) : Obj := .cells #[.int .i64 k, .int .i64 n, .string s, u] ty
theorem mem_size {k n : Int} {s : ByteArray} {ts : List Tm} {y : Tm} {N : Nat} (h : sizeN (.mk k n s ts) ≤ N + 1) (hy : y ∈ ts) : sizeN y ≤ N := by
  have := sizes_mem hy
  rw [sizeN] at h
  omega
/-- A term that came in is laid anew as a parameter. -/
theorem box_cells (w : World) (ty : TypeId) (c0 c1 c2 c3 : Value) {wr : World} (hb : Below (w.alloc (.cells #[c0, c1, c2, c3] ty)).heap.size (w.alloc (.cells #[c0, c1, c2, c3] ty)) wr) :
    wr.cell? ⟨w.heap.size, 0, none⟩ = some c0 ∧ wr.cell? ⟨w.heap.size, 1, none⟩ = some c1 ∧ wr.cell? ⟨w.heap.size, 2, none⟩ = some c2 ∧ wr.cell? ⟨w.heap.size, 3, none⟩ = some c3 :=
  ⟨cell_later hb (by simp), cell_later hb (by simp), cell_later hb (by simp), cell_later hb (by simp)⟩
end Go.Proofs.YtljgkfdnmikpfaaGreatDoor
/- A row of the call's own, of elements of S cells each, reads as its elements; what is appended to it. Nothing here speaks of one program. -/
namespace Go.Proofs.YtljgkfdnmikpfaaGreatDoor
open Go.RowKit

section
variable {α : Type} {S : Nat} {cells : α → List Value}
theorem flat_len (hc : ∀ x, (cells x).length = S) (L : List α) : (L.flatMap cells).length = L.length * S := by
  induction L with
  | nil => simp
  | cons a r ih => rw [List.flatMap_cons, List.length_append, ih, hc, List.length_cons, Nat.add_mul, Nat.one_mul, Nat.add_comm]
theorem flat_get (hc : ∀ x, (cells x).length = S) : ∀ (L : List α) (i : Nat) (x : α), L[i]? = some x → ∀ j, j < S → (L.flatMap cells)[i * S + j]? = (cells x)[j]?
  | [], i, x, h, _, _ => by simp at h
  | a :: r, 0, x, h, j, hj => by
    simp at h
    subst h
    rw [List.flatMap_cons, Nat.zero_mul, Nat.zero_add, List.getElem?_append_left (by rw [hc]; exact hj)]
  | a :: r, i + 1, x, h, j, hj => by
    have e : (i + 1) * S + j = S + (i * S + j) := by rw [Nat.add_mul, Nat.one_mul]; omega
    rw [List.flatMap_cons, List.getElem?_append_right (by rw [hc, e]; omega), hc, e, Nat.add_sub_cancel_left]
    exact flat_get hc r i x (by simpa using h) j hj
/-- What the call owns reads as these. -/
theorem Elems.owned (hc : ∀ x, (cells x).length = S) {w : World} {B : Nat} {e : TypeId} {v : Value} {L : List α} (h : w.ownsRow B e S v L.length (L.flatMap cells)) : Elems S cells w v L := by
  rcases h.2 with ⟨rfl, h0⟩ | ⟨g, cap, cur, rfl, _, hg, h1, h2, h3, h4⟩
  · obtain rfl := List.length_eq_zero_iff.1 h0
    exact ⟨none, 0, rfl, Nat.le_refl _, Nat.zero_le _, Or.inl rfl⟩
  · refine ⟨_, cap, rfl, h1, h2, Or.inr ⟨g, 0, rfl, (Array.getElem?_eq_some_iff.1 hg).1, fun i x hx j u hu => ?_⟩⟩
    have hj : j < S := by have := (List.getElem?_eq_some_iff.1 hu).1; rwa [hc] at this
    have hi := (List.getElem?_eq_some_iff.1 hx).1
    have h5 := flat_get hc L i x hx j hj
    have hle : i * S + S ≤ L.length * S := by
      have : (i + 1) * S ≤ L.length * S := Nat.mul_le_mul_right _ hi
      rwa [Nat.add_mul, Nat.one_mul] at this
    rw [← h4, List.getElem?_take, if_pos (by omega), hu] at h5
    rw [Nat.zero_add, World.cell?, hg]
    simpa using h5
end
theorem cell_new (w : World) (cs : Array Value) (ty : TypeId) (j : Nat) (u : Value) (h : cs.toList[j]? = some u) : (w.alloc (.cells cs ty)).cell? ((⟨w.heap.size, 0, none⟩ : Addr).add j) = some u := by
  have h1 : (w.alloc (.cells cs ty)).heap[w.heap.size]? = some (.cells cs ty) := by
    show (w.heap.push _)[w.heap.size]? = _
    simp
  rw [add_plain, Nat.zero_add, World.cell?, h1]
  simpa using h
end Go.Proofs.YtljgkfdnmikpfaaGreatDoor
/- A row of terms of the call's own; a term's fields. Nothing here speaks of one program. -/
namespace Go.Proofs.YtljgkfdnmikpfaaGreatDoor
open Go.RowKit
set_option linter.unusedVariables false

theorem TmV.full {w : World} {x : Tm} {v : Value} (h : TmV w x v) : ∃ k n s a m c, v = .agg #[.int .i64 k, .int .i64 n, .string s, .slice a m c] := by
  cases x with
  | mk k n s ts =>
    obtain ⟨u, rfl, _, _, _, hu⟩ := tmV_iff.1 h
    obtain ⟨a, c, rfl, _⟩ := hu.len
    exact ⟨_, _, _, _, _, _, rfl⟩
/-- A term beside the value of its Args. -/
abbrev TmP := Tm × Value
def pCells (p : TmP) : List Value := [.int .i64 p.1.k, .int .i64 p.1.n, .string p.1.s, p.2]
def pVal (p : TmP) : Value := .agg #[.int .i64 p.1.k, .int .i64 p.1.n, .string p.1.s, p.2]
theorem pCells_len (p : TmP) : (pCells p).length = 4 := rfl
theorem TmV.pair {w : World} {x : Tm} {v : Value} (h : TmV w x v) : ∃ u, v = pVal (x, u) := by
  cases x with
  | mk k n s ts =>
    obtain ⟨u, rfl, _⟩ := tmV_iff.1 h
    exact ⟨u, rfl⟩
theorem pCells_one (L : List TmP) {w : World} (h : ∀ p ∈ L, TmV w p.1 (pVal p)) : ∀ u ∈ L.flatMap pCells, u.oneCell' = true := by
  intro u hu
  obtain ⟨p, hp, hx⟩ := List.mem_flatMap.1 hu
  have hv := h p hp
  obtain ⟨x, q⟩ := p
  cases x with
  | mk k n s ts =>
    obtain ⟨u', hu', _, _, _, hq⟩ := tmV_iff.1 hv
    have : u' = q := by
      simp only [pVal, Value.agg.injEq] at hu'
      have h2 := congrArg Array.toList hu'
      simp only [List.cons.injEq, and_true] at h2
      exact h2.2.2.2.symm
    subst this
    obtain ⟨a, c, rfl, _⟩ := hq.len
    simp [pCells] at hx
    rcases hx with rfl | rfl | rfl | rfl <;> rfl
def RowP (w : World) (base : Nat) (ty : TypeId) (v : Value) (ps : List TmP) : Prop := w.ownsRow base ty 4 v ps.length (ps.flatMap pCells)
/-- What the call owns reads as these terms. -/
theorem RowP.terms {w : World} {base : Nat} {ty : TypeId} {v : Value} {ps : List TmP} (h : RowP w base ty v ps) (hp : ∀ p ∈ ps, TmV w p.1 (pVal p)) (hl : ps.length * 56 ≤ BIG) : Tms w v (ps.map (·.1)) := by
  obtain ⟨a, c, rfl, h1, h2, h3⟩ := Elems.owned pCells_len h
  refine ⟨a, c, by rw [List.length_map], by rw [List.length_map]; exact h1, h2, by rw [List.length_map]; exact hl, ?_⟩
  rcases h3 with rfl | ⟨b, off, rfl, hb, hc⟩
  · left; rfl
  · refine Or.inr ⟨b, off, rfl, hb, TmRow.mk fun i x hx => ?_⟩
    rw [List.getElem?_map] at hx
    obtain ⟨p, hpi, rfl⟩ := Option.map_eq_some_iff.1 hx
    have hv := hp p (List.mem_of_getElem? hpi)
    exact ⟨_, _, _, _, hc i p hpi 0 _ rfl, by rw [Nat.add_assoc]; exact hc i p hpi 1 _ rfl, by rw [Nat.add_assoc]; exact hc i p hpi 2 _ rfl, by rw [Nat.add_assoc]; exact hc i p hpi 3 _ rfl, hv⟩
/-- The parts of a pair under the list's name. -/
theorem pair_kind {t a b : Tm} (h : pairT t = some (a, b)) : t.k = 2 ∧ t.s = dotS ∧ t.args = [a, b] := by
  obtain ⟨_, h1, h2, h3⟩ := pair_size h
  exact ⟨h2, h3, h1⟩
end Go.Proofs.YtljgkfdnmikpfaaGreatDoor
/- Package term: the makers, Comp, Size. -/
namespace Go.Proofs.YtljgkfdnmikpfaaGreatDoor
open Go.RowKit
set_option linter.unusedVariables false

theorem results_cell1 {fn : Func} {p : Tmp} {ty : TypeId} (h : fn.results = #[.cell p ty]) (tmps : Array Value) (P : Program) (w : World) :
    (results fn tmps).run P w = ((asAddr (tmps.getD p undef)).run P w).andThen fun a w₁ => (loadVar ty a).run P w₁ := by
  simp only [results, h]
  simp [Sem.run_bind, Result.andThen]
/-- The row that is read, beside the values of the Args. -/
theorem TmRow.pairs {w : World} : ∀ {l : List Tm} {b off : Nat}, TmRow w l b off → ∃ ps : List TmP, ps.map (·.1) = l ∧ (∀ p ∈ ps, TmV w p.1 (pVal p)) ∧ ∀ j u, (ps.flatMap pCells)[j]? = some u → w.cell? ⟨b, off + j, none⟩ = some u
  | [], b, off, _ => ⟨[], rfl, fun p h => by simp at h, fun j u h => by simp at h⟩
  | x :: r, b, off, h => by
    rw [TmRow] at h
    obtain ⟨⟨c0, c1, c2, c3, h0, h1, h2, h3, h4⟩, h5⟩ := h
    obtain ⟨ps, e1, e2, e3⟩ := TmRow.pairs h5
    obtain ⟨u, hu⟩ := h4.pair
    rw [hu] at h4
    simp only [pVal, Value.agg.injEq] at hu
    have h2' := congrArg Array.toList hu
    simp only [List.cons.injEq, and_true] at h2'
    obtain ⟨rfl, rfl, rfl, rfl⟩ := h2'
    refine ⟨(x, c3) :: ps, by simp [e1], fun p hp => ?_, fun j u hj => ?_⟩
    · rcases List.mem_cons.1 hp with rfl | hp
      · exact h4
      · exact e2 p hp
    · rw [List.flatMap_cons] at hj
      by_cases hlt : j < 4
      · rw [List.getElem?_append_left (by rw [pCells_len]; exact hlt)] at hj
        match j, hlt with
        | 0, _ => cases hj; exact h0
        | 1, _ => cases hj; exact h1
        | 2, _ => cases hj; exact h2
        | 3, _ => cases hj; exact h3
      · rw [List.getElem?_append_right (by rw [pCells_len]; omega), pCells_len] at hj
        have := e3 _ _ hj
        rw [show off + 4 + (j - 4) = off + j by omega] at this
        exact this
theorem Tms.pairs {w : World} {v : Value} {l : List Tm} (h : Tms w v l) : ∃ (ps : List TmP) (a : Option Addr) (c : Nat), v = .slice a l.length c ∧ ps.length = l.length ∧ ps.map (·.1) = l ∧ (∀ p ∈ ps, TmV w p.1 (pVal p)) ∧ l.length * 56 ≤ BIG ∧ (l.length = 0 ∨ ∃ ad, a = some ad ∧ ∀ j u, (ps.flatMap pCells)[j]? = some u → w.cell? (ad.add j) = some u) := by
  obtain ⟨a, c, h1, h2, h3, h4, h5⟩ := h
  rcases h5 with rfl | ⟨b, off, rfl, hb, hr⟩
  · exact ⟨[], a, c, h1, rfl, rfl, fun p h => by simp at h, h4, Or.inl rfl⟩
  · obtain ⟨ps, e1, e2, e3⟩ := hr.pairs
    exact ⟨ps, _, c, h1, by rw [← e1, List.length_map], e1, e2, h4, Or.inr ⟨_, rfl, fun j u hj => by rw [add_plain]; exact e3 j u hj⟩⟩
theorem infoTerm : (Tryz.prog.info? 27).map (fun i => (i.zero, i.size, i.bytes)) = some (some (.agg #[.int .i64 0, .int .i64 0, .string ⟨#[]⟩, .slice none 0 0]), 4, 56) := by kernel_rfl
theorem leaf_tm (w : World) {k n : Int} {s : ByteArray} (hk : I64 k) (hn : I64 n) (hs : s.size ≤ BIG) : TmV w (.mk k n s []) (.agg #[.int .i64 k, .int .i64 n, .string s, .slice none 0 0]) :=
  tmV_iff.2 ⟨_, rfl, hs, hk, hn, Tms.nil w⟩
theorem i64_0 : I64 0 := by unfold I64; omega
theorem i64_1 : I64 1 := by unfold I64; omega
theorem i64_2 : I64 2 := by unfold I64; omega
theorem var_at (w : World) (n : Int) : Calls Tryz.prog 20 #[.int .i64 n] w fun e w' => e = .returned (.agg #[.int .i64 0, .int .i64 n, .string ⟨#[]⟩, .slice none 0 0]) ∧ Below w.heap.size w w' := by
  go_enter Tryz.func20, Tryz.ntmps20
  go_wp2
  refine bodyPost_ret (v := .agg #[.int .i64 0, .int .i64 n, .string ⟨#[]⟩, .slice none 0 0]) (by rw [results_cell1 rfl]; go_simp) rfl ⟨rfl, ?_⟩
  exact bel1' _ _
theorem int_at (w : World) (n : Int) : Calls Tryz.prog 26 #[.int .i64 n] w fun e w' => e = .returned (.agg #[.int .i64 1, .int .i64 n, .string ⟨#[]⟩, .slice none 0 0]) ∧ Below w.heap.size w w' := by
  go_enter Tryz.func26, Tryz.ntmps26
  go_wp2
  refine bodyPost_ret (v := .agg #[.int .i64 1, .int .i64 n, .string ⟨#[]⟩, .slice none 0 0]) (by rw [results_cell1 rfl]; go_simp) rfl ⟨rfl, ?_⟩
  exact bel1' _ _
theorem atom_at (w : World) (s : ByteArray) : Calls Tryz.prog 28 #[.string s] w fun e w' => e = .returned (.agg #[.int .i64 2, .int .i64 0, .string s, .slice none 0 0]) ∧ Below w.heap.size w w' := by
  go_enter Tryz.func28, Tryz.ntmps28
  go_wp2
  refine bodyPost_ret (v := .agg #[.int .i64 2, .int .i64 0, .string s, .slice none 0 0]) (by rw [results_cell1 rfl]; go_simp) rfl ⟨rfl, ?_⟩
  exact bel1' _ _
theorem cso {w : World} {a b : Addr} {v : Value} (h : a ≠ b) : (w.setCell a v).cell? b = w.cell? b := by apply World.cell?_setCell_other; exact h
theorem css {w : World} {a : Addr} {u v : Value} (h : w.cell? a = some u) : (w.setCell a v).cell? a = some v := by apply World.cell?_setCell_same; exact h
/-- Four cells of a box set one behind the other. -/
def setFour (w : World) (B : Nat) (v0 v1 v2 v3 : Value) : World := (((w.setCell ⟨B, 0, none⟩ v0).setCell ⟨B, 1, none⟩ v1).setCell ⟨B, 2, none⟩ v2).setCell ⟨B, 3, none⟩ v3
theorem four_cells {w : World} {B : Nat} {a0 a1 a2 a3 : Value} (v0 v1 v2 v3 : Value) (c0 : w.cell? ⟨B, 0, none⟩ = some a0) (c1 : w.cell? ⟨B, 1, none⟩ = some a1) (c2 : w.cell? ⟨B, 2, none⟩ = some a2) (c3 : w.cell? ⟨B, 3, none⟩ = some a3) :
    (setFour w B v0 v1 v2 v3).cell? ⟨B, 0, none⟩ = some v0 ∧ (setFour w B v0 v1 v2 v3).cell? ⟨B, 1, none⟩ = some v1 ∧ (setFour w B v0 v1 v2 v3).cell? ⟨B, 2, none⟩ = some v2 ∧ (setFour w B v0 v1 v2 v3).cell? ⟨B, 3, none⟩ = some v3 := by
  have ne : ∀ i j : Nat, i ≠ j → (⟨B, i, none⟩ : Addr) ≠ ⟨B, j, none⟩ := fun i j h e => by
    simp only [Addr.mk.injEq] at e
    exact h e.2.1
  unfold setFour
  refine ⟨?_, ?_, ?_, ?_⟩
  · rw [cso (ne 3 0 (by omega)), cso (ne 2 0 (by omega)), cso (ne 1 0 (by omega)), css c0]
  · rw [cso (ne 3 1 (by omega)), cso (ne 2 1 (by omega)), css (u := a1) (by rw [cso (ne 0 1 (by omega))]; exact c1)]
  · rw [cso (ne 3 2 (by omega)), css (u := a2) (by rw [cso (ne 1 2 (by omega)), cso (ne 0 2 (by omega))]; exact c2)]
  · rw [css (u := a3) (by rw [cso (ne 2 3 (by omega)), cso (ne 1 3 (by omega)), cso (ne 0 3 (by omega))]; exact c3)]
theorem four_far (w : World) (B : Nat) (v0 v1 v2 v3 : Value) (b j : Nat) (h : b ≠ B) : (setFour w B v0 v1 v2 v3).cell? ⟨b, j, none⟩ = w.cell? ⟨b, j, none⟩ := by
  have ne : ∀ i, (⟨B, i, none⟩ : Addr) ≠ ⟨b, j, none⟩ := fun i e => by
    simp only [Addr.mk.injEq] at e
    exact h e.1.symm
  unfold setFour
  rw [cso (ne 3), cso (ne 2), cso (ne 1), cso (ne 0)]
theorem four_below {w0 w : World} {D B : Nat} (v0 v1 v2 v3 : Value) (h : Below D w0 w) (hB : D ≤ B) : Below D w0 (setFour w B v0 v1 v2 v3) :=
  (((h.setCell (p := ⟨B, 0, none⟩) hB v0).setCell (p := ⟨B, 1, none⟩) hB v1).setCell (p := ⟨B, 2, none⟩) hB v2).setCell (p := ⟨B, 3, none⟩) hB v3
theorem four_row {w : World} {base B n k : Nat} {e : TypeId} {v : Value} {xs : List Value} (v0 v1 v2 v3 : Value) (h : w.ownsRow base e k v n xs) (hB : B < base) : (setFour w B v0 v1 v2 v3).ownsRow base e k v n xs :=
  ownsRow_setCell_below (ownsRow_setCell_below (ownsRow_setCell_below (ownsRow_setCell_below h (a := ⟨B, 0, none⟩) hB v0) (a := ⟨B, 1, none⟩) hB v1) (a := ⟨B, 2, none⟩) hB v2) (a := ⟨B, 3, none⟩) hB v3
theorem four_kept {w w4 : World} {c0 c1 c2 c3 : Value} {ty : TypeId} (h : w4.heap[w.heap.size]? = (w.alloc (.cells #[c0, c1, c2, c3] ty)).heap[w.heap.size]?) :
    w4.cell? ⟨w.heap.size, 0, none⟩ = some c0 ∧ w4.cell? ⟨w.heap.size, 1, none⟩ = some c1 ∧ w4.cell? ⟨w.heap.size, 2, none⟩ = some c2 ∧ w4.cell? ⟨w.heap.size, 3, none⟩ = some c3 ∧ ∀ j, w4.frozen? ⟨w.heap.size, j, none⟩ = false := by
  refine ⟨?_, ?_, ?_, ?_, fun j => ?_⟩
  · rw [World.cell?_of_block (w := w.alloc (.cells #[c0, c1, c2, c3] ty)) h]; simp
  · rw [World.cell?_of_block (w := w.alloc (.cells #[c0, c1, c2, c3] ty)) h]; simp
  · rw [World.cell?_of_block (w := w.alloc (.cells #[c0, c1, c2, c3] ty)) h]; simp
  · rw [World.cell?_of_block (w := w.alloc (.cells #[c0, c1, c2, c3] ty)) h]; simp
  · rw [World.frozen?_of_block (w := w.alloc (.cells #[c0, c1, c2, c3] ty)) h]; simp
set_option maxHeartbeats 2000000 in
theorem comp_ps {w : World} {ao : Option Addr} {m c : Nat} (ps : List TmP) (s : ByteArray) (hpl : ps.length = m) (hbig : m * 56 ≤ BIG) (hone : ∀ u ∈ ps.flatMap pCells, u.oneCell' = true)
    (hsrc : m = 0 ∨ ∃ ad, ao = some ad ∧ ∀ j u, (ps.flatMap pCells)[j]? = some u → w.cell? (ad.add j) = some u) :
    Calls Tryz.prog 19 #[.string s, .slice ao m c] w fun e w' => ∃ a c', e = .returned (.agg #[.int .i64 2, .int .i64 0, .string s, .slice a m c']) ∧ RowP w' (w.heap.size + 1) 27 (.slice a m c') ps ∧ Below w.heap.size w w' := by
  obtain ⟨i0, hi0, hz0, hs0, hb0⟩ := info_parts infoTerm
  have hfl : (ps.flatMap pCells).length = m * 4 := by rw [flat_len pCells_len, hpl]
  have HPL := Lib.hid hpl
  unfold BIG at hbig
  obtain ⟨news, hnews⟩ : ∃ news, ps.flatMap pCells = news := ⟨_, rfl⟩
  rw [hnews] at hfl hone hsrc
  have HN := Lib.hid hnews
  have hsrc' : m = 0 ∨ ∃ ad, ao = some ad ∧ ∀ j u, news[j]? = some u → (w.alloc (.cells #[.int .i64 0, .int .i64 0, .string ⟨#[]⟩, .slice none 0 0] 27)).cell? (ad.add j) = some u := by
    rcases hsrc with h | ⟨ad, e, h⟩
    · exact Or.inl h
    · exact Or.inr ⟨ad, e, fun j u hj => Lib.cell?_alloc_some _ (h j u hj)⟩
  clear hpl hnews hsrc
  go_enter Tryz.func19, Tryz.ntmps19
  go_wp2_with (at_builtin; refine wpList_append_k rfl _ _ 25 rfl (w.heap.size + 1) 27 i0 (.agg #[.int .i64 0, .int .i64 0, .string ⟨#[]⟩, .slice none 0 0]) 4 56 Tryz.underlying25 hi0 hz0 hs0 (by decide) hb0 rfl (.slice none 0 0) 0 [] rfl (World.ownsRow_nil _ _ _ _) ao m c news rfl hfl hsrc' hone (by unfold maxLen; omega) (by omega) (by simp) m news (by omega) rfl ?_; intro a4 c4 w4 hown4 hgrow4 hat4; obtain ⟨e0, e1, e2, e3, g0⟩ := four_kept (hgrow4.block w.heap.size (by simp) (by simp [Value.ownBlock])))
  have hB : Below w.heap.size w w4 := (bel1' w _).grown hgrow4 (by simp) (fun q hq => by simp [Value.ownBlock] at hq)
  refine bodyPost_ret (v := .agg #[.int .i64 2, .int .i64 0, .string s, .slice a4 m c4]) (by rw [results_cell1 rfl]; go_simp) rfl ⟨a4, c4, rfl, ?_⟩
  have hF : Below w.heap.size w (setFour w4 w.heap.size (.int .i64 2) (.int .i64 0) (.string s) (.slice a4 m c4)) := four_below _ _ _ _ hB (Nat.le_refl _)
  refine ⟨?_, hF⟩
  unfold RowP
  rw [HPL.out, HN.out]
  exact four_row _ _ _ _ hown4 (by omega)
theorem comp_at {w : World} {v : Value} {l : List Tm} (s : ByteArray) (hs : s.size ≤ BIG) (h : Tms w v l) :
    Calls Tryz.prog 19 #[.string s, v] w fun e w' => ∃ a c, e = .returned (.agg #[.int .i64 2, .int .i64 0, .string s, .slice a l.length c]) ∧ TmV w' (.mk 2 0 s l) (.agg #[.int .i64 2, .int .i64 0, .string s, .slice a l.length c]) ∧ Below w.heap.size w w' := by
  obtain ⟨ps, ao, c, rfl, hpl, hpm, hpa, hbig, hsrc⟩ := h.pairs
  refine (comp_ps (c := c) ps s hpl hbig (pCells_one ps hpa) hsrc).mono ?_
  rintro e w' ⟨a, c', rfl, hR, hB⟩
  refine ⟨a, c', rfl, ?_, hB⟩
  have hT := hR.terms (fun p hp => TmV.ext hB _ _ (hpa p hp)) (by rw [hpl]; exact hbig)
  rw [hpm] at hT
  exact tmV_iff.2 ⟨_, rfl, hs, i64_2, i64_0, hT⟩
end Go.Proofs.YtljgkfdnmikpfaaGreatDoor
/- Package term: Size. -/
namespace Go.Proofs.YtljgkfdnmikpfaaGreatDoor
open Go.RowKit
set_option linter.unusedVariables false

theorem sizes_drop' : ∀ {ts : List Tm} {i : Nat} {y : Tm}, ts[i]? = some y → sizesN (ts.take (i + 1)) = sizesN (ts.take i) + sizeN y
  | x :: r, 0, y, h => by
    simp at h; subst h
    simp [sizesN]
  | x :: r, i + 1, y, h => by
    have := sizes_drop' (ts := r) (i := i) (y := y) (by simpa using h)
    simp only [List.take_succ_cons, sizesN, this]
    omega
  | [], i, y, h => by simp at h
theorem sizes_take' (ts : List Tm) (i : Nat) : sizesN (ts.take i) ≤ sizesN ts := by
  induction ts generalizing i with
  | nil => simp
  | cons x r ih =>
    cases i with
    | zero => simp [sizesN]
    | succ i =>
      simp only [List.take_succ_cons, sizesN]
      have := ih i
      omega
theorem TmV.four {w : World} {x : Tm} {v : Value} (h : TmV w x v) : ∃ k n s u, v = .agg #[.int .i64 k, .int .i64 n, .string s, u] := by
  obtain ⟨u, rfl⟩ := h.pair
  exact ⟨_, _, _, _, rfl⟩
set_option maxHeartbeats 2000000 in
set_option maxRecDepth 100000 in
theorem count_at : ∀ (N : Nat) (x : Tm), sizeN x ≤ N → ∀ (q : Nat), 1 ≤ q → q ≤ 1000000 → ∀ (w : World) (v : Value), TmV w x v →
    Calls Tryz.prog 106 #[v, .int .i64 q] w fun e w' => e = .returned (.int .i64 (min (sizeN x) q : Nat)) ∧ Below w.heap.size w w'
  | 0, x, h, q, hq1, hq, w, v, hv => by have := size_pos x; omega
  | N + 1, .mk k n s ts, h, q, hq1, hq, w, v, hv => by
    obtain ⟨u, rfl, hs, hk, hn, hu⟩ := tmV_iff.1 hv
    obtain ⟨a, c, rfl, h1, h2, h3⟩ := hu.len
    unfold BIG at h3
    obtain ⟨m, hm⟩ : ∃ m, ts.length = m := ⟨_, rfl⟩
    have IH := Lib.hid (fun (y : Tm) (hy : y ∈ ts) => count_at N y (mem_size h hy))
    have HU := Lib.hid hu
    have HM := Lib.hid hm
    rw [hm] at h1 h3 hu HU ⊢
    obtain ⟨r, hr⟩ : ∃ r, min (sizeN (.mk k n s ts)) q = r := ⟨_, rfl⟩
    rw [hr]
    have HR := Lib.hid (show min (sizesN ts + 1) q = r by rw [← hr, sizeN])
    clear hv hu hm hr h
    go_enter Tryz.func106, Tryz.ntmps106
    go_wp2_with fail
    go_loopw [5, 11] (fun z v wr => ∃ i t : Nat, i ≤ m ∧ v = .int .i64 i ∧ z = .int .i64 t ∧ Hid (t = min (sizesN (ts.take i) + 1) q) ∧ t ≤ q ∧ Hid (Below (w.alloc (.cells #[.int .i64 k, .int .i64 n, .string s, .slice a m c] 27)).heap.size (w.alloc (.cells #[.int .i64 k, .int .i64 n, .string s, .slice a m c] 27)) wr)) (fun _ v _ => m - (intOf v).toNat)
    case atStart => exact ⟨0, 1, Nat.zero_le _, rfl, rfl, Lib.hid (by simp [sizesN]; omega), by omega, Lib.hid (Below.refl _ _)⟩
    case round =>
      obtain ⟨i, t, hi, rfl, rfl, HT, ht, HB⟩ := hrel
      have HBW := Lib.hid (Ext.trans' (bel1' w _) HB.out)
      by_cases hil : i < m
      · obtain ⟨y, hy⟩ : ∃ y, ts[i]? = some y := ⟨_, List.getElem?_eq_getElem (by rw [HM.out]; exact hil)⟩
        have hst := sizes_take' ts (i + 1)
        have hds := sizes_drop' hy
        obtain ⟨b, off, k', n', s', u', rfl, hbb, _, _, _, c0, c1, c2, c3, htu, hty⟩ := (HU.out.ext HBW.out).get hy
        obtain ⟨au, cu, rfl, _⟩ := htu.len
        clear htu
        by_cases htq : t < q
        · obtain ⟨d, hd⟩ : ∃ d, q - t = d := ⟨_, rfl⟩
          have hqt : (q : Int) - t = d := by omega
          have htq' : ((t : Int) == q) = false := by apply beq_false_of_ne; omega
          have HNE := Lib.hid (show ¬ t = q by omega)
          have ih := IH.out y (List.mem_of_getElem? hy) d (by omega) (by omega) _ _ (TmV.ext (bel1' wr (box4 k' n' s' (.slice au y.args.length cu) 27)) _ _ hty)
          obtain ⟨z, hz⟩ : ∃ z, min (sizeN y) d = z := ⟨_, rfl⟩
          rw [hz] at ih
          have HN : Hid (t + z = min (sizesN (ts.take (i + 1)) + 1) q) := Lib.hid (by
            have := HT.out
            rw [hds]
            omega)
          have hzd : z ≤ d := by omega
          have hzq : t + z ≤ q := by omega
          clear hst hds hz hy hty hd HT
          (go_wp2_with fail; go_fit (ih); rintro e w2 ⟨rfl, b2⟩)
          have B2 := Lib.hid (Ext.trans' HB.out (Ext.trans' (bel1' _ _) b2))
          clear b2
          go_wp2
          go_roundw
          case rel => exact ⟨i + 1, t + z, by omega, by go_num, by go_num, HN, hzq, B2⟩
          case measure => simp [intOf]; omega
        · have hrt : q = r := by
            have a1 := HT.out
            have a2 := HR.out
            have a3 := sizes_take' ts i
            omega
          have htq2 : t = q := by omega
          subst hrt htq2
          clear hst hds hy hty
          go_wp2
          go_ret
          exact ⟨rfl, Ext.trans' HBW.out (bel1' _ _)⟩
      · have hrt : t = r := by
          have a1 := HT.out
          have a2 := HR.out
          rw [List.take_of_length_le (by rw [HM.out]; omega)] at a1
          omega
        subst hrt
        go_wp2
        go_ret
        exact ⟨rfl, HBW.out⟩
theorem size_at (x : Tm) (w : World) (v : Value) (hv : TmV w x v) : Calls Tryz.prog 66 #[v] w fun e w' => e = .returned (.int .i64 (min (sizeN x) 2001 : Nat)) ∧ Below w.heap.size w w' := by
  have C := fun w (h : TmV w x v) => count_at _ x (Nat.le_refl _) 2001 (by omega) (by omega) w v h
  obtain ⟨z, hz⟩ : ∃ z, min (sizeN x) 2001 = z := ⟨_, rfl⟩
  rw [hz] at C ⊢
  obtain ⟨k, n, s, u, rfl⟩ := hv.four
  have hv0 := TmV.ext (bel1' w (box4 k n s u 27)) _ _ hv
  clear hz hv
  go_enter Tryz.func66, Tryz.ntmps66
  (go_wp2_with fail; go_fit (C _ hv0); rintro e w1 ⟨rfl, b1⟩)
  have B1 := Lib.hid (Ext.trans' (bel1' w _) b1)
  clear b1
  go_wp2
  go_ret
  exact ⟨rfl, B1.out⟩
end Go.Proofs.YtljgkfdnmikpfaaGreatDoor
