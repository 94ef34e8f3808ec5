import Derived.Test.YtaojalicnnnkmaaGreatDoorHgaag
import Derived.Test.YtaojalicnnnkmaaGreatDoorHgaac
import Derived.Test.YtaojalicnnnkmaaGreatDoorHgaad
import Derived.Test.YtaojalicnnnkmaaGreatDoorHgaaf
import Derived.Deep.RegionHeld3
import Derived.Laws.StructEq
import Derived.Test.YtaojalicnnnkmaaGreatDoorHgaab
import Derived.Laws.ResultCell
import Derived.LoopTactic
set_option linter.unusedVariables false
set_option linter.unusedSimpArgs false
/- Operators: the plain ones. -/
namespace Go.Proofs.YtaojalicnnnkmaaGreatDoor
open Go.Shelf Go.RowKit

abbrev xfx : ByteArray := ⟨#[120, 102, 120]⟩
abbrev xfy : ByteArray := ⟨#[120, 102, 121]⟩
abbrev yfx : ByteArray := ⟨#[121, 102, 120]⟩
abbrev fy : ByteArray := ⟨#[102, 121]⟩
def names1 : List ByteArray := [⟨#[58, 45]⟩]
def names2 : List ByteArray := [⟨#[59]⟩]
def names3 : List ByteArray := [⟨#[45, 62]⟩]
def names4 : List ByteArray := [⟨#[44]⟩]
def names5 : List ByteArray := [⟨#[92, 43]⟩]
def names6 : List ByteArray := [⟨#[61]⟩, ⟨#[92, 61]⟩, ⟨#[61, 61]⟩, ⟨#[92, 61, 61]⟩, ⟨#[64, 60]⟩, ⟨#[64, 62]⟩, ⟨#[64, 61, 60]⟩, ⟨#[64, 62, 61]⟩, ⟨#[61, 46, 46]⟩, ⟨#[105, 115]⟩, ⟨#[61, 58, 61]⟩, ⟨#[61, 92, 61]⟩, ⟨#[60]⟩, ⟨#[62]⟩, ⟨#[61, 60]⟩, ⟨#[62, 61]⟩]
def names7 : List ByteArray := [⟨#[43]⟩, ⟨#[45]⟩, ⟨#[47, 92]⟩, ⟨#[92, 47]⟩, ⟨#[120, 111, 114]⟩]
def names8 : List ByteArray := [⟨#[42]⟩, ⟨#[47, 47]⟩, ⟨#[109, 111, 100]⟩, ⟨#[114, 101, 109]⟩, ⟨#[62, 62]⟩, ⟨#[60, 60]⟩]
def names9 : List ByteArray := [⟨#[94]⟩]
def names10 : List ByteArray := [⟨#[45]⟩, ⟨#[92]⟩]
def alikeB (k : ByteArray) (l : Int) (ns : List ByteArray) : List O := ns.map fun s => ⟨s, k, l⟩
def opsB : List O := alikeB xfx 1200 names1 ++ alikeB xfy 1100 names2 ++ alikeB xfy 1050 names3 ++ alikeB xfy 1000 names4 ++ alikeB fy 900 names5 ++ alikeB xfx 700 names6 ++ alikeB yfx 500 names7 ++ alikeB yfx 400 names8 ++ alikeB xfy 200 names9 ++ alikeB fy 200 names10

theorem alike_at {w0 w : World} (hb : Below w0.heap.size w0 w) (ns : List ByteArray) (n : Nat) (hn : ns.length = n) (hs : n ≤ 100) (hz : ∀ s ∈ ns, s.size ≤ 100000) (k : ByteArray) (l : Int) :
    Calls Tryz.prog 47 #[.string k, .int .i64 l, .slice (some ⟨w.heap.size, 0, none⟩) n n] (w.alloc (.cells (ns.map Value.string).toArray 9)) fun e w' => ∃ a c, e = .returned (.slice a n c) ∧ Ops w' (.slice a n c) (alikeB k l ns) ∧ Below w.heap.size w w' ∧ Below w0.heap.size w0 w' := by
  refine (alike_walk k l (strs_laid w 9 ns n hn (by omega) hz) (by omega)).mono ?_
  rintro e w' ⟨r, rfl, h1, h2⟩
  have h3 : Below w.heap.size w w' := Below.trans (bel1' _ _) (h2.mono (by simp))
  obtain ⟨a, c, rfl, _⟩ := h1.form
  rw [List.length_map, hn] at h1 ⊢
  exact ⟨a, c, rfl, h1, h3, Ext.trans' hb h3⟩

theorem alike1 {w0 w : World} (hb : Below w0.heap.size w0 w) :
    Calls Tryz.prog 47 #[.string ⟨#[120, 102, 120]⟩, .int .i64 1200, .slice (some ⟨w.heap.size, 0, none⟩) 1 1] (w.alloc (.cells #[.string ⟨#[58, 45]⟩] 9)) fun e w' => ∃ a c, e = .returned (.slice a 1 c) ∧ Ops w' (.slice a 1 c) (alikeB xfx 1200 names1) ∧ Below w.heap.size w w' ∧ Below w0.heap.size w0 w' :=
  alike_at hb names1 1 rfl (by decide) (by decide) xfx 1200
theorem alike2 {w0 w : World} (hb : Below w0.heap.size w0 w) :
    Calls Tryz.prog 47 #[.string ⟨#[120, 102, 121]⟩, .int .i64 1100, .slice (some ⟨w.heap.size, 0, none⟩) 1 1] (w.alloc (.cells #[.string ⟨#[59]⟩] 9)) fun e w' => ∃ a c, e = .returned (.slice a 1 c) ∧ Ops w' (.slice a 1 c) (alikeB xfy 1100 names2) ∧ Below w.heap.size w w' ∧ Below w0.heap.size w0 w' :=
  alike_at hb names2 1 rfl (by decide) (by decide) xfy 1100
theorem alike3 {w0 w : World} (hb : Below w0.heap.size w0 w) :
    Calls Tryz.prog 47 #[.string ⟨#[120, 102, 121]⟩, .int .i64 1050, .slice (some ⟨w.heap.size, 0, none⟩) 1 1] (w.alloc (.cells #[.string ⟨#[45, 62]⟩] 9)) fun e w' => ∃ a c, e = .returned (.slice a 1 c) ∧ Ops w' (.slice a 1 c) (alikeB xfy 1050 names3) ∧ Below w.heap.size w w' ∧ Below w0.heap.size w0 w' :=
  alike_at hb names3 1 rfl (by decide) (by decide) xfy 1050
theorem alike4 {w0 w : World} (hb : Below w0.heap.size w0 w) :
    Calls Tryz.prog 47 #[.string ⟨#[120, 102, 121]⟩, .int .i64 1000, .slice (some ⟨w.heap.size, 0, none⟩) 1 1] (w.alloc (.cells #[.string ⟨#[44]⟩] 9)) fun e w' => ∃ a c, e = .returned (.slice a 1 c) ∧ Ops w' (.slice a 1 c) (alikeB xfy 1000 names4) ∧ Below w.heap.size w w' ∧ Below w0.heap.size w0 w' :=
  alike_at hb names4 1 rfl (by decide) (by decide) xfy 1000
theorem alike5 {w0 w : World} (hb : Below w0.heap.size w0 w) :
    Calls Tryz.prog 47 #[.string ⟨#[102, 121]⟩, .int .i64 900, .slice (some ⟨w.heap.size, 0, none⟩) 1 1] (w.alloc (.cells #[.string ⟨#[92, 43]⟩] 9)) fun e w' => ∃ a c, e = .returned (.slice a 1 c) ∧ Ops w' (.slice a 1 c) (alikeB fy 900 names5) ∧ Below w.heap.size w w' ∧ Below w0.heap.size w0 w' :=
  alike_at hb names5 1 rfl (by decide) (by decide) fy 900
theorem alike6 {w0 w : World} (hb : Below w0.heap.size w0 w) :
    Calls Tryz.prog 47 #[.string ⟨#[120, 102, 120]⟩, .int .i64 700, .slice (some ⟨w.heap.size, 0, none⟩) 16 16] (w.alloc (.cells #[.string ⟨#[61]⟩, .string ⟨#[92, 61]⟩, .string ⟨#[61, 61]⟩, .string ⟨#[92, 61, 61]⟩, .string ⟨#[64, 60]⟩, .string ⟨#[64, 62]⟩, .string ⟨#[64, 61, 60]⟩, .string ⟨#[64, 62, 61]⟩, .string ⟨#[61, 46, 46]⟩, .string ⟨#[105, 115]⟩, .string ⟨#[61, 58, 61]⟩, .string ⟨#[61, 92, 61]⟩, .string ⟨#[60]⟩, .string ⟨#[62]⟩, .string ⟨#[61, 60]⟩, .string ⟨#[62, 61]⟩] 9)) fun e w' => ∃ a c, e = .returned (.slice a 16 c) ∧ Ops w' (.slice a 16 c) (alikeB xfx 700 names6) ∧ Below w.heap.size w w' ∧ Below w0.heap.size w0 w' :=
  alike_at hb names6 16 rfl (by decide) (by decide) xfx 700
theorem alike7 {w0 w : World} (hb : Below w0.heap.size w0 w) :
    Calls Tryz.prog 47 #[.string ⟨#[121, 102, 120]⟩, .int .i64 500, .slice (some ⟨w.heap.size, 0, none⟩) 5 5] (w.alloc (.cells #[.string ⟨#[43]⟩, .string ⟨#[45]⟩, .string ⟨#[47, 92]⟩, .string ⟨#[92, 47]⟩, .string ⟨#[120, 111, 114]⟩] 9)) fun e w' => ∃ a c, e = .returned (.slice a 5 c) ∧ Ops w' (.slice a 5 c) (alikeB yfx 500 names7) ∧ Below w.heap.size w w' ∧ Below w0.heap.size w0 w' :=
  alike_at hb names7 5 rfl (by decide) (by decide) yfx 500
theorem alike8 {w0 w : World} (hb : Below w0.heap.size w0 w) :
    Calls Tryz.prog 47 #[.string ⟨#[121, 102, 120]⟩, .int .i64 400, .slice (some ⟨w.heap.size, 0, none⟩) 6 6] (w.alloc (.cells #[.string ⟨#[42]⟩, .string ⟨#[47, 47]⟩, .string ⟨#[109, 111, 100]⟩, .string ⟨#[114, 101, 109]⟩, .string ⟨#[62, 62]⟩, .string ⟨#[60, 60]⟩] 9)) fun e w' => ∃ a c, e = .returned (.slice a 6 c) ∧ Ops w' (.slice a 6 c) (alikeB yfx 400 names8) ∧ Below w.heap.size w w' ∧ Below w0.heap.size w0 w' :=
  alike_at hb names8 6 rfl (by decide) (by decide) yfx 400
theorem alike9 {w0 w : World} (hb : Below w0.heap.size w0 w) :
    Calls Tryz.prog 47 #[.string ⟨#[120, 102, 121]⟩, .int .i64 200, .slice (some ⟨w.heap.size, 0, none⟩) 1 1] (w.alloc (.cells #[.string ⟨#[94]⟩] 9)) fun e w' => ∃ a c, e = .returned (.slice a 1 c) ∧ Ops w' (.slice a 1 c) (alikeB xfy 200 names9) ∧ Below w.heap.size w w' ∧ Below w0.heap.size w0 w' :=
  alike_at hb names9 1 rfl (by decide) (by decide) xfy 200
theorem alike10 {w0 w : World} (hb : Below w0.heap.size w0 w) :
    Calls Tryz.prog 47 #[.string ⟨#[102, 121]⟩, .int .i64 200, .slice (some ⟨w.heap.size, 0, none⟩) 2 2] (w.alloc (.cells #[.string ⟨#[45]⟩, .string ⟨#[92]⟩] 9)) fun e w' => ∃ a c, e = .returned (.slice a 2 c) ∧ Ops w' (.slice a 2 c) (alikeB fy 200 names10) ∧ Below w.heap.size w w' ∧ Below w0.heap.size w0 w' :=
  alike_at hb names10 2 rfl (by decide) (by decide) fy 200
theorem parts_laid (w : World) (t : TypeId) (ps : List (Value × List O)) (n : Nat) (hn : ps.length = n) (h : n ≤ 100000) :
    Elems 1 (fun p => [p.1]) (w.alloc (.cells (ps.map (·.1)).toArray t)) (.slice (some ⟨w.heap.size, 0, none⟩) n n) ps := by
  subst hn
  refine ⟨_, _, rfl, Nat.le_refl _, by unfold maxLen; omega, Or.inr ⟨_, _, rfl, by simp, fun i x hx j u hu => ?_⟩⟩
  have hj : j = 0 := by have := (List.getElem?_eq_some_iff.1 hu).1; simp at this; exact this
  subst hj
  simp at hu
  subst hu
  rw [World.cell?_alloc_at _ _ _ _ rfl]
  simp [hx]
def parts (r1 r2 r3 r4 r5 r6 r7 r8 r9 r10 : Value) : List (Value × List O) := [(r1, alikeB xfx 1200 names1), (r2, alikeB xfy 1100 names2), (r3, alikeB xfy 1050 names3), (r4, alikeB xfy 1000 names4), (r5, alikeB fy 900 names5), (r6, alikeB xfx 700 names6), (r7, alikeB yfx 500 names7), (r8, alikeB yfx 400 names8), (r9, alikeB xfy 200 names9), (r10, alikeB fy 200 names10)]
theorem parts_flat (r1 r2 r3 r4 r5 r6 r7 r8 r9 r10 : Value) : (parts r1 r2 r3 r4 r5 r6 r7 r8 r9 r10).flatMap (·.2) = opsB := by
  simp only [parts, opsB, List.flatMap_cons, List.flatMap_nil, List.append_nil, List.append_assoc]
theorem plain_len : opsB.length = 35 := by decide +kernel
theorem parts_at (w : World) (r1 r2 r3 r4 r5 r6 r7 r8 r9 r10 : Value) : Elems 1 (fun p => [p.1]) (w.alloc (.cells #[r1, r2, r3, r4, r5, r6, r7, r8, r9, r10] 65)) (.slice (some ⟨w.heap.size, 0, none⟩) 10 10) (parts r1 r2 r3 r4 r5 r6 r7 r8 r9 r10) :=
  parts_laid w 65 (parts r1 r2 r3 r4 r5 r6 r7 r8 r9 r10) 10 rfl (by decide)
theorem concat_plain {w : World} {r1 r2 r3 r4 r5 r6 r7 r8 r9 r10 : Value} {v : Value} (h : Elems 1 (fun p => [p.1]) w v (parts r1 r2 r3 r4 r5 r6 r7 r8 r9 r10)) (hp : ∀ p ∈ parts r1 r2 r3 r4 r5 r6 r7 r8 r9 r10, Ops w p.1 p.2) :
    Calls Tryz.prog 46 #[v] w fun e w' => ∃ r, e = .returned r ∧ Ops w' r opsB ∧ Below w.heap.size w w' ∧ (∀ k, r.ownBlock = some k → w.heap.size ≤ k) := by
  have := concat_walk h hp (by simp [parts]) (by rw [parts_flat, plain_len]; omega)
  rw [parts_flat] at this
  exact this
set_option maxRecDepth 100000
set_option maxHeartbeats 1000000 in
theorem plain_walk (w : World) : Calls Tryz.prog 29 #[] w fun e w' => ∃ v, e = .returned (.agg #[v]) ∧ Ops w' v opsB ∧ Below w.heap.size w w' := by
  have hA := alike1 (w0 := w.alloc (.cells #[.slice none 0 0] 67)) (Below.refl _ _)
  have hsz : (w.alloc (.cells #[.slice none 0 0] 67)).heap.size = w.heap.size + 1 := by simp
  rw [hsz] at hA
  have HA := Lib.hid hA
  clear hA hsz
  go_enter Tryz.func29, Tryz.ntmps29
  (go_wp2_with fail; go_fit (HA.out); rintro e w1 ⟨a1, c1, rfl, h1, _, hb1⟩)
  have H1 := Lib.hid h1
  have HB1 : Hid (Below (w.alloc (.cells #[.slice none 0 0] 67)).heap.size (w.alloc (.cells #[.slice none 0 0] 67)) w1) := Lib.hid (by simpa using hb1)
  clear h1 hb1
  (go_wp2_with fail; go_fit (alike2 HB1.out); rintro e w2 ⟨a2, c2, rfl, h2, hc2, hb2⟩)
  have H2 := Lib.hid h2; have HC2 := Lib.hid hc2; have HB2 := Lib.hid hb2
  clear h2 hc2 hb2
  (go_wp2_with fail; go_fit (alike3 HB2.out); rintro e w3 ⟨a3, c3, rfl, h3, hc3, hb3⟩)
  have H3 := Lib.hid h3; have HC3 := Lib.hid hc3; have HB3 := Lib.hid hb3
  clear h3 hc3 hb3
  (go_wp2_with fail; go_fit (alike4 HB3.out); rintro e w4 ⟨a4, c4, rfl, h4, hc4, hb4⟩)
  have H4 := Lib.hid h4; have HC4 := Lib.hid hc4; have HB4 := Lib.hid hb4
  clear h4 hc4 hb4
  (go_wp2_with fail; go_fit (alike5 HB4.out); rintro e w5 ⟨a5, c5, rfl, h5, hc5, hb5⟩)
  have H5 := Lib.hid h5; have HC5 := Lib.hid hc5; have HB5 := Lib.hid hb5
  clear h5 hc5 hb5
  (go_wp2_with fail; go_fit (alike6 HB5.out); rintro e w6 ⟨a6, c6, rfl, h6, hc6, hb6⟩)
  have H6 := Lib.hid h6; have HC6 := Lib.hid hc6; have HB6 := Lib.hid hb6
  clear h6 hc6 hb6
  (go_wp2_with fail; go_fit (alike7 HB6.out); rintro e w7 ⟨a7, c7, rfl, h7, hc7, hb7⟩)
  have H7 := Lib.hid h7; have HC7 := Lib.hid hc7; have HB7 := Lib.hid hb7
  clear h7 hc7 hb7
  (go_wp2_with fail; go_fit (alike8 HB7.out); rintro e w8 ⟨a8, c8, rfl, h8, hc8, hb8⟩)
  have H8 := Lib.hid h8; have HC8 := Lib.hid hc8; have HB8 := Lib.hid hb8
  clear h8 hc8 hb8
  (go_wp2_with fail; go_fit (alike9 HB8.out); rintro e w9 ⟨a9, c9, rfl, h9, hc9, hb9⟩)
  have H9 := Lib.hid h9; have HC9 := Lib.hid hc9; have HB9 := Lib.hid hb9
  clear h9 hc9 hb9
  (go_wp2_with fail; go_fit (alike10 HB9.out); rintro e w10 ⟨a10, c10, rfl, h10, hc10, hb10⟩)
  have H10 := Lib.hid h10; have HC10 := Lib.hid hc10; have HB10 := Lib.hid hb10
  clear h10 hc10 hb10
  have O10 := Lib.hid H10.out
  have O1 := Lib.hid (((((((((H1.out.ext HC2.out).ext HC3.out).ext HC4.out).ext HC5.out).ext HC6.out).ext HC7.out).ext HC8.out).ext HC9.out).ext HC10.out)
  have O2 := Lib.hid ((((((((H2.out.ext HC3.out).ext HC4.out).ext HC5.out).ext HC6.out).ext HC7.out).ext HC8.out).ext HC9.out).ext HC10.out)
  have O3 := Lib.hid (((((((H3.out.ext HC4.out).ext HC5.out).ext HC6.out).ext HC7.out).ext HC8.out).ext HC9.out).ext HC10.out)
  have O4 := Lib.hid ((((((H4.out.ext HC5.out).ext HC6.out).ext HC7.out).ext HC8.out).ext HC9.out).ext HC10.out)
  have O5 := Lib.hid (((((H5.out.ext HC6.out).ext HC7.out).ext HC8.out).ext HC9.out).ext HC10.out)
  have O6 := Lib.hid ((((H6.out.ext HC7.out).ext HC8.out).ext HC9.out).ext HC10.out)
  have O7 := Lib.hid (((H7.out.ext HC8.out).ext HC9.out).ext HC10.out)
  have O8 := Lib.hid ((H8.out.ext HC9.out).ext HC10.out)
  have O9 := Lib.hid (H9.out.ext HC10.out)
  clear HA H1 H2 H3 H4 H5 H6 H7 H8 H9 H10 HC2 HC3 HC4 HC5 HC6 HC7 HC8 HC9 HC10 HB1 HB2 HB3 HB4 HB5 HB6 HB7 HB8 HB9
  have hpl := parts_at w10 (.slice a1 1 c1) (.slice a2 1 c2) (.slice a3 1 c3) (.slice a4 1 c4) (.slice a5 1 c5) (.slice a6 16 c6) (.slice a7 5 c7) (.slice a8 6 c8) (.slice a9 1 c9) (.slice a10 2 c10)
  have HPL := Lib.hid hpl
  clear hpl
  have HPO : Hid (∀ p ∈ (parts (.slice a1 1 c1) (.slice a2 1 c2) (.slice a3 1 c3) (.slice a4 1 c4) (.slice a5 1 c5) (.slice a6 16 c6) (.slice a7 5 c7) (.slice a8 6 c8) (.slice a9 1 c9) (.slice a10 2 c10)), Ops (w10.alloc (.cells #[.slice a1 1 c1, .slice a2 1 c2, .slice a3 1 c3, .slice a4 1 c4, .slice a5 1 c5, .slice a6 16 c6, .slice a7 5 c7, .slice a8 6 c8, .slice a9 1 c9, .slice a10 2 c10] 65)) p.1 p.2) := Lib.hid (by
    intro p hp
    simp only [parts, List.mem_cons, List.not_mem_nil, or_false] at hp
    rcases hp with rfl | rfl | rfl | rfl | rfl | rfl | rfl | rfl | rfl | rfl
    
    · exact O1.out.ext (bel1' _ _)
    · exact O2.out.ext (bel1' _ _)
    · exact O3.out.ext (bel1' _ _)
    · exact O4.out.ext (bel1' _ _)
    · exact O5.out.ext (bel1' _ _)
    · exact O6.out.ext (bel1' _ _)
    · exact O7.out.ext (bel1' _ _)
    · exact O8.out.ext (bel1' _ _)
    · exact O9.out.ext (bel1' _ _)
    · exact O10.out.ext (bel1' _ _))
  (go_wp2_with fail; go_fit (concat_plain HPL.out HPO.out); rintro e w11 ⟨r, rfl, h11, hb11, hf11⟩)
  obtain ⟨ar, cr, rfl, _⟩ := h11.form
  have hpl : opsB.length = 35 := plain_len
  rw [hpl] at h11 ⊢
  clear hpl
  have HO := Lib.hid h11
  have hbw : Below (w.alloc (.cells #[.slice none 0 0] 67)).heap.size (w.alloc (.cells #[.slice none 0 0] 67)) w11 := Ext.trans' (Ext.trans' HB10.out (bel1' _ _)) hb11
  have e1 : w11.cell? ⟨w.heap.size, 0, none⟩ = some (.slice none 0 0) := cell_later hbw (by simp)
  have f1 : w11.frozen? ⟨w.heap.size, 0, none⟩ = false := (hbw.frozen (p := ⟨w.heap.size, 0, none⟩) (by simp)).trans (by simp)
  have HBW := Lib.hid (Below.trans (bel1' w _) (hbw.mono (by simp)))
  have HF := Lib.hid hf11
  have HS10 : Hid (w.heap.size + 1 ≤ w10.heap.size) := Lib.hid (by have := HB10.out.size; simpa using this)
  clear hbw hb11 h11 hf11
  go_wp2
  (try simp only [Exit.inBlock, Exit.then])
  refine bodyPost_ret (v := .agg #[.slice ar 35 cr]) (by simp [results, Tryz.f29]; go_simp) rfl ⟨_, rfl, ?_, ?_⟩
  · refine HO.out.set _ _ (fun h => ?_)
    have h' := HF.out _ h
    simp at h'
    have := HS10.out
    omega
  · exact HBW.out.setCell (Nat.le_refl _) _
end Go.Proofs.YtaojalicnnnkmaaGreatDoor
/- The project's reader in memory: its operators, what is not read yet, its variables. -/
namespace Go.Proofs.YtaojalicnnnkmaaGreatDoor
open Go.RowKit
set_option linter.unusedVariables false

abbrev tkVal (q : TokP) : Value := .agg #[.int .i64 (q.1.kind : Int), .string ⟨q.1.text.toArray⟩, .int .i64 (q.1.n : Int), .bool q.1.opens, .int .i64 (q.2 : Int)]
def nmCells (p : NmP) : List Value := [.string ⟨p.1.toArray⟩, .int .i64 (p.2 : Int)]
theorem nmCells_len (p : NmP) : (nmCells p).length = 2 := rfl
def Nms (w : World) (v : Value) (l : List NmP) : Prop := Elems 2 nmCells w v l
abbrev preO (xs : List O) (n : List UInt8) : O × Bool := oneB xs n 1
abbrev betO (xs : List O) (n : List UInt8) : O × Bool := oneB xs n 2
abbrev TERMX (xs : List O) := TERM (preO xs) (betO xs)
/-- A token that a text may have. -/
def tokOk (q : TokP) : Prop := q.1.n ≤ 9223372036854775807 ∧ q.1.text.length ≤ 5000 ∧ q.2 ≤ 4096
/-- Nothing runs over. -/
def Nice (s : RS) : Prop := s.next + s.rest.length ≤ 2000 ∧ s.names.length ≤ s.next ∧ (∀ q ∈ s.rest, tokOk q) ∧ ∀ p ∈ s.names, p.2 < s.next
theorem Nice.drop {s : RS} (h : Nice s) : Nice (dropR s) := by
  obtain ⟨h1, h2, h3, h4⟩ := h
  have := dropS_le s
  exact ⟨by show s.next + (dropR s).rest.length ≤ 2000; omega, h2, fun q hq => h3 q (List.mem_of_mem_tail hq), h4⟩
theorem Nice.head {s : RS} (h : Nice s) : tokOk (headR s) := by
  unfold headR
  cases hr : s.rest with
  | nil => exact ⟨by decide, by decide, by decide⟩
  | cons a r => exact h.2.2.1 a (by rw [hr]; exact List.mem_cons_self)
theorem Nice.next {s : RS} (h : Nice (dropR s)) (hne : s.rest ≠ []) (hs : Nice s) : Nice { dropR s with next := (dropR s).next + 1 } := by
  obtain ⟨h1, h2, h3, h4⟩ := h
  have hd := dropS_lt hne
  have h0 := hs.1
  have en : (dropR s).next = s.next := rfl
  refine ⟨?_, ?_, h3, fun p hp => ?_⟩
  · show (dropR s).next + 1 + (dropR s).rest.length ≤ 2000
    omega
  · show (dropR s).names.length ≤ (dropR s).next + 1
    omega
  · have := h4 p hp
    show p.2 < (dropR s).next + 1
    omega
theorem Nice.var {s : RS} (name : List UInt8) (h : Nice (dropR s)) (hne : s.rest ≠ []) (hs : Nice s) : Nice (varR name (dropR s)).2 := by
  obtain ⟨g1, g2, g3, g4⟩ := Nice.next h hne hs
  have h2 := h.2.1
  unfold varR
  split
  · exact h
  · refine ⟨g1, ?_, g3, fun p hp => ?_⟩
    · simp only
      split
      · omega
      · rw [List.length_append, List.length_singleton]; omega
    · simp only at hp
      split at hp
      · exact g4 p hp
      · rcases List.mem_append.1 hp with hp | hp
        · exact g4 p hp
        · simp at hp
          subst hp
          show (dropR s).next < (dropR s).next + 1
          omega

theorem Elems.stay {α : Type} {S : Nat} {cells : α → List Value} {w w' : World} {v : Value} {xs : List α} (h : Elems S cells w v xs) (hb : Stays w w') : Elems S cells w' v xs := by
  obtain ⟨a, cap, h1, h2, h3, h6⟩ := h
  refine ⟨a, cap, h1, h2, h3, ?_⟩
  rcases h6 with h6 | ⟨b, off, e1, e2, e3⟩
  · exact Or.inl h6
  · exact Or.inr ⟨b, off, e1, Nat.lt_of_lt_of_le e2 hb.1, fun i x hx j u hu => hb.2 _ _ (e3 i x hx j u hu)⟩
/-- The reader lies there, in block rb. D: blocks that are not looked at for anything else; M, some of them: blocks that turn. -/
structure St (D M : Nat → Bool) (w : World) (rb : Nat) (xs : List O) (s : RS) : Prop where
  mb : M rb = true
  md : ∀ k, M k = true → D k = true
  old : Old D w
  co : ∃ vo, w.cell? ⟨rb, 0, none⟩ = some vo ∧ Ops (hide D w) vo xs
  cl : ∃ vl, w.cell? ⟨rb, 1, none⟩ = some vl ∧ Toks (hide D w) vl s.rest
  c2 : w.cell? ⟨rb, 2, none⟩ = some (.int .i64 (s.next : Int))
  c3 : ∃ vn, w.cell? ⟨rb, 3, none⟩ = some vn ∧ w.ownsRow (rb + 1) 179 2 vn s.names.length (s.names.flatMap nmCells) ∧ ∀ k, vn.ownBlock = some k → M k = true
  fz : ∀ j, w.frozen? ⟨rb, j, none⟩ = false
  nice : Nice s
theorem St.lt {D M : Nat → Bool} {w : World} {rb : Nat} {xs : List O} {s : RS} (h : St D M w rb xs s) : rb < w.heap.size := World.block_lt_of_cell? _ _ h.c2
/-- Of the old blocks only those of M have turned; of them the same are not looked at, the same turn. -/
structure Turn (D M D' M' : Nat → Bool) (w w' : World) : Prop where
  size : w.heap.size ≤ w'.heap.size
  dd : ∀ k, k < w.heap.size → D' k = D k
  mm : ∀ k, k < w.heap.size → M' k = M k
  kept : ∀ k, k < w.heap.size → M k = false → w'.heap[k]? = w.heap[k]?
  ot : Below 0 w w'
theorem Turn.refl (D M : Nat → Bool) (w : World) : Turn D M D M w w := ⟨Nat.le_refl _, fun _ _ => rfl, fun _ _ => rfl, fun _ _ _ => rfl, Below.refl _ _⟩
theorem Turn.trans {D M D' M' D2 M2 : Nat → Bool} {a b c : World} (h : Turn D M D' M' a b) (g : Turn D' M' D2 M2 b c) : Turn D M D2 M2 a c :=
  ⟨Nat.le_trans h.size g.size, fun k hk => (g.dd k (Nat.lt_of_lt_of_le hk h.size)).trans (h.dd k hk), fun k hk => (g.mm k (Nat.lt_of_lt_of_le hk h.size)).trans (h.mm k hk),
    fun k hk hm => (g.kept k (Nat.lt_of_lt_of_le hk h.size) ((h.mm k hk).trans hm)).trans (h.kept k hk hm), h.ot.trans g.ot⟩
theorem Turn.below {D M : Nat → Bool} {w w' : World} (h : Below w.heap.size w w') : Turn D M D M w w' := ⟨h.size, fun _ _ => rfl, fun _ _ => rfl, fun k hk _ => h.block k hk, h.mono (Nat.zero_le _)⟩
theorem Turn.stays {D M D' M' : Nat → Bool} {w w' : World} (h : Turn D M D' M' w w') (md : ∀ k, M k = true → D k = true) : Stays (hide D w) (hide D' w') :=
  Stays.hide h.size fun k hk hd => ⟨(h.dd k hk).trans hd, h.kept k hk (by cases hm : M k with | false => rfl | true => rw [md k hm] at hd; cases hd)⟩
theorem Turn.cell {D M D' M' : Nat → Bool} {w w' : World} (h : Turn D M D' M' w w') {b j : Nat} {v : Value} (hm : M b = false) (hc : w.cell? ⟨b, j, none⟩ = some v) : w'.cell? ⟨b, j, none⟩ = some v := by
  rw [World.cell?_of_block (h.kept b (World.block_lt_of_cell? _ _ hc) hm)]; exact hc
theorem Turn.froz {D M D' M' : Nat → Bool} {w w' : World} (h : Turn D M D' M' w w') {b j : Nat} (hb : b < w.heap.size) (hm : M b = false) (hc : w.frozen? ⟨b, j, none⟩ = false) : w'.frozen? ⟨b, j, none⟩ = false := by
  rw [World.frozen?_of_block (h.kept b hb hm)]; exact hc
/-- As many blocks as lie below n and don't turn are as they were. -/
theorem Turn.bel {D M D' M' : Nat → Bool} {w w' : World} (h : Turn D M D' M' w w') {n : Nat} (hn : n ≤ w.heap.size) (hm : ∀ k, k < n → M k = false) : Below n w w' :=
  ⟨h.ot.os, h.ot.tape, h.ot.output, h.size, fun k hk => h.kept k (Nat.lt_of_lt_of_le hk hn) (hm k hk)⟩
/-- A block of one's own that turns in the end. -/
theorem Turn.set {D M D' M' : Nat → Bool} {w w' : World} (h : Turn D M D' M' w w') (a : Addr) (u : Value) (ha : w.heap.size ≤ a.block ∨ M a.block = true) : Turn D M D' M' w (w'.setCell a u) :=
  ⟨Nat.le_trans h.size (by simp [World.setCell]), h.dd, h.mm, fun k hk hm => (Below.heap_setCell w' a u k (fun e => by
    rcases ha with ha | ha
    · omega
    · rw [e, ha] at hm; cases hm)).trans (h.kept k hk hm), h.ot.setCell (Nat.zero_le _) u⟩
theorem row_at {w w' : World} {B k n : Nat} {e : TypeId} {v : Value} {xs : List Value} (h : w.ownsRow B e k v n xs) (hb : ∀ g, v.ownBlock = some g → w'.heap[g]? = w.heap[g]?) : w'.ownsRow B e k v n xs := by
  obtain ⟨h0, h1⟩ := h
  refine ⟨h0, ?_⟩
  rcases h1 with h1 | ⟨g, cap, cur, rfl, hg, hh, h2⟩
  · exact Or.inl h1
  · exact Or.inr ⟨g, cap, cur, rfl, hg, by rw [hb g rfl]; exact hh, h2⟩
theorem row_in {w : World} {B k n : Nat} {e : TypeId} {v : Value} {xs : List Value} (h : w.ownsRow B e k v n xs) {g : Nat} (hg : v.ownBlock = some g) : B ≤ g ∧ g < w.heap.size := by
  rcases h.2 with ⟨rfl, _⟩ | ⟨g', cap, cur, rfl, h1, h2, _⟩
  · cases hg
  · cases hg
    exact ⟨h1, (Array.getElem?_eq_some_iff.1 h2).1⟩
/-- It lies there still. -/
theorem St.step {D M D' : Nat → Bool} {w w' : World} {rb : Nat} {xs : List O} {s : RS} (h : St D M w rb xs s) (hs : Stays (hide D w) (hide D' w')) (md : ∀ k, M k = true → D' k = true) (ho : Old D' w') (hk : ∀ k, k < w.heap.size → M k = true → w'.heap[k]? = w.heap[k]?) : St D' M w' rb xs s := by
  have hr := hk rb h.lt h.mb
  obtain ⟨vo, o1, o2⟩ := h.co
  obtain ⟨vl, l1, l2⟩ := h.cl
  obtain ⟨vn, n1, n2, n3⟩ := h.c3
  exact { mb := h.mb, md := md, old := ho, co := ⟨vo, by rw [World.cell?_of_block hr]; exact o1, Elems.stay o2 hs⟩, cl := ⟨vl, by rw [World.cell?_of_block hr]; exact l1, Elems.stay l2 hs⟩
          c2 := by rw [World.cell?_of_block hr]; exact h.c2
          c3 := ⟨vn, by rw [World.cell?_of_block hr]; exact n1, row_at n2 (fun g hg => hk g (row_in n2 hg).2 (n3 g hg)), n3⟩
          fz := fun j => by rw [World.frozen?_of_block hr]; exact h.fz j, nice := h.nice }
theorem St.later {D M : Nat → Bool} {w w' : World} {rb : Nat} {xs : List O} {s : RS} (h : St D M w rb xs s) (hb : Below w.heap.size w w') : St D M w' rb xs s :=
  h.step (Stays.below hb fun _ _ h => h) h.md (h.old.mono hb.size) fun k hk _ => hb.block k hk
/-- One more block is not looked at. -/
def plusB (D : Nat → Bool) (b : Nat) : Nat → Bool := fun k => k == b || D k
theorem plusB_self (D : Nat → Bool) (b : Nat) : plusB D b b = true := by simp [plusB]
theorem plusB_of {D : Nat → Bool} {b k : Nat} (h : D k = true) : plusB D b k = true := by simp [plusB, h]
theorem plusB_ne {D : Nat → Bool} {b k : Nat} (h : k ≠ b) : plusB D b k = D k := by simp [plusB, h]
theorem St.box {D M : Nat → Bool} {w w' : World} {rb : Nat} {xs : List O} {s : RS} (h : St D M w rb xs s) (hb : Below w.heap.size w w') {b : Nat} (h1 : w.heap.size ≤ b) (h2 : b < w'.heap.size) : St (plusB D b) M w' rb xs s :=
  h.step (Stays.below hb fun k hk hd => (plusB_ne (by omega)).trans hd) (fun k hm => plusB_of (h.md k hm)) (fun k hk => (plusB_ne (by omega)).trans (h.old k (Nat.le_trans hb.size hk))) fun k hk _ => hb.block k hk
/-- A block that is not looked at, and isn't the reader's, turns. -/
theorem St.put {D M : Nat → Bool} {w : World} {rb : Nat} {xs : List O} {s : RS} (h : St D M w rb xs s) (a : Addr) (u : Value) (hd : D a.block = true) (hm : M a.block = false) : St D M (w.setCell a u) rb xs s :=
  h.step (Stays.set a u hd) h.md (h.old.mono (by simp [World.setCell])) fun k _ hk => Below.heap_setCell w a u k (fun e => by rw [e, hm] at hk; cases hk)
/-- A box of one's own is looked at no more. -/
theorem Turn.box {D M D' M' : Nat → Bool} {w w' : World} {b : Nat} (h : Turn (plusB D b) M D' M' w w') (hb : w.heap.size ≤ b) : Turn D M D' M' w w' :=
  ⟨h.size, fun k hk => (h.dd k hk).trans (plusB_ne (by omega)), h.mm, h.kept, h.ot⟩
theorem Turn.into {D M : Nat → Bool} {w w' : World} (h : Below w.heap.size w w') {b : Nat} (hb : w.heap.size ≤ b) : Turn D M (plusB D b) M w w' :=
  ⟨h.size, fun k hk => plusB_ne (by omega), fun _ _ => rfl, fun k hk _ => h.block k hk, h.mono (Nat.zero_le _)⟩
/-- A box of one's own with these values. -/
structure Box (w : World) (b : Nat) (vs : List Value) : Prop where
  cells : ∀ j u, vs[j]? = some u → w.cell? ⟨b, j, none⟩ = some u
  fz : ∀ j, w.frozen? ⟨b, j, none⟩ = false
  lt : b < w.heap.size
theorem box_new (w : World) (cs : Array Value) (ty : TypeId) : ∃ w1, w.alloc (.cells cs ty) = w1 ∧ Below w.heap.size w w1 ∧ w1.heap.size = w.heap.size + 1 ∧ Box w1 w.heap.size cs.toList := by
  refine ⟨_, rfl, bel1' _ _, by simp, fun j u h => ?_, fun j => by simp, by simp⟩
  have := cell_new w cs ty j u h
  rw [add_plain, Nat.zero_add] at this
  exact this
theorem Box.ext {w w' : World} {b : Nat} {vs : List Value} (h : Box w b vs) (hb : Below w.heap.size w w') : Box w' b vs :=
  ⟨fun j u hu => cell_later hb (h.cells j u hu), fun j => (hb.frozen (p := ⟨b, j, none⟩) h.lt).trans (h.fz j), Nat.lt_of_lt_of_le h.lt hb.size⟩
theorem Box.turn {D M D' M' : Nat → Bool} {w w' : World} {b : Nat} {vs : List Value} (h : Box w b vs) (ht : Turn D M D' M' w w') (hm : M b = false) : Box w' b vs :=
  ⟨fun j u hu => ht.cell hm (h.cells j u hu), fun j => ht.froz h.lt hm (h.fz j), Nat.lt_of_lt_of_le h.lt ht.size⟩
theorem Box.far {w : World} {b c k : Nat} {u : Value} {vs : List Value} (h : Box w b vs) (hne : b ≠ c) : Box (w.setCell ⟨c, k, none⟩ u) b vs :=
  ⟨fun j v hv => by
    rw [World.cell?_setCell_other]
    · exact h.cells j v hv
    · intro e; injection e with e _ _; exact hne e.symm, fun j => by rw [World.frozen?_setCell]; exact h.fz j, by have := h.lt; simpa [World.setCell] using this⟩
theorem Box.set {w : World} {b k : Nat} {u : Value} {vs : List Value} (h : Box w b vs) (hk : k < vs.length) : Box (w.setCell ⟨b, k, none⟩ u) b (vs.set k u) :=
  ⟨fun j v hv => by
    by_cases hj : j = k
    · subst hj
      rw [List.getElem?_set_self hk] at hv
      injection hv with hv
      subst hv
      exact css (h.cells j _ (List.getElem?_eq_getElem hk))
    · rw [List.getElem?_set_ne (by omega)] at hv
      rw [World.cell?_setCell_other]
      · exact h.cells j v hv
      · intro e; injection e with _ e _; exact hj e.symm, fun j => by rw [World.frozen?_setCell]; exact h.fz j, by have := h.lt; simpa [World.setCell] using this⟩
theorem Box.five {w : World} {b : Nat} {v0 v1 v2 v3 v4 : Value} (h : Box w b [v0, v1, v2, v3, v4]) : w.cell? ⟨b, 0, none⟩ = some v0 ∧ w.cell? ⟨b, 1, none⟩ = some v1 ∧ w.cell? ⟨b, 2, none⟩ = some v2 ∧ w.cell? ⟨b, 3, none⟩ = some v3 ∧ w.cell? ⟨b, 4, none⟩ = some v4 ∧ ∀ j, w.frozen? ⟨b, j, none⟩ = false :=
  ⟨h.cells 0 _ rfl, h.cells 1 _ rfl, h.cells 2 _ rfl, h.cells 3 _ rfl, h.cells 4 _ rfl, h.fz⟩
theorem Box.four {w : World} {b : Nat} {v0 v1 v2 v3 : Value} (h : Box w b [v0, v1, v2, v3]) : w.cell? ⟨b, 0, none⟩ = some v0 ∧ w.cell? ⟨b, 1, none⟩ = some v1 ∧ w.cell? ⟨b, 2, none⟩ = some v2 ∧ w.cell? ⟨b, 3, none⟩ = some v3 ∧ ∀ j, w.frozen? ⟨b, j, none⟩ = false :=
  ⟨h.cells 0 _ rfl, h.cells 1 _ rfl, h.cells 2 _ rfl, h.cells 3 _ rfl, h.fz⟩
theorem Box.three {w : World} {b : Nat} {v0 v1 v2 : Value} (h : Box w b [v0, v1, v2]) : w.cell? ⟨b, 0, none⟩ = some v0 ∧ w.cell? ⟨b, 1, none⟩ = some v1 ∧ w.cell? ⟨b, 2, none⟩ = some v2 ∧ ∀ j, w.frozen? ⟨b, j, none⟩ = false :=
  ⟨h.cells 0 _ rfl, h.cells 1 _ rfl, h.cells 2 _ rfl, h.fz⟩
/-- One's own box is looked at again. -/
theorem St.unbox {D M : Nat → Bool} {w : World} {rb b : Nat} {xs : List O} {s : RS} (h : St (plusB D b) M w rb xs s) (md : ∀ k, M k = true → D k = true) (ho : Old D w) : St D M w rb xs s :=
  h.step (Stays.less fun k hk => by
    by_cases e : k = b
    · rw [e, plusB_self] at hk; cases hk
    · rwa [plusB_ne e] at hk) md ho fun _ _ _ => rfl
abbrev set3 (w : World) (b : Nat) (u0 u1 u2 : Value) : World := ((w.setCell ⟨b, 0, none⟩ u0).setCell ⟨b, 1, none⟩ u1).setCell ⟨b, 2, none⟩ u2
abbrev set4 (w : World) (b : Nat) (u0 u1 u2 u3 : Value) : World := (set3 w b u0 u1 u2).setCell ⟨b, 3, none⟩ u3
abbrev set5 (w : World) (b : Nat) (u0 u1 u2 u3 u4 : Value) : World := (set4 w b u0 u1 u2 u3).setCell ⟨b, 4, none⟩ u4
theorem St.put3 {D M : Nat → Bool} {w : World} {rb : Nat} {xs : List O} {s : RS} (h : St D M w rb xs s) {b : Nat} (hd : D b = true) (hm : M b = false) (u0 u1 u2 : Value) : St D M (set3 w b u0 u1 u2) rb xs s :=
  ((h.put ⟨b, 0, none⟩ u0 hd hm).put ⟨b, 1, none⟩ u1 hd hm).put ⟨b, 2, none⟩ u2 hd hm
theorem St.put4 {D M : Nat → Bool} {w : World} {rb : Nat} {xs : List O} {s : RS} (h : St D M w rb xs s) {b : Nat} (hd : D b = true) (hm : M b = false) (u0 u1 u2 u3 : Value) : St D M (set4 w b u0 u1 u2 u3) rb xs s :=
  (h.put3 hd hm u0 u1 u2).put ⟨b, 3, none⟩ u3 hd hm
theorem St.put5 {D M : Nat → Bool} {w : World} {rb : Nat} {xs : List O} {s : RS} (h : St D M w rb xs s) {b : Nat} (hd : D b = true) (hm : M b = false) (u0 u1 u2 u3 u4 : Value) : St D M (set5 w b u0 u1 u2 u3 u4) rb xs s :=
  (h.put4 hd hm u0 u1 u2 u3).put ⟨b, 4, none⟩ u4 hd hm
theorem Turn.set3 {D M D' M' : Nat → Bool} {w w' : World} (h : Turn D M D' M' w w') {b : Nat} (hb : w.heap.size ≤ b ∨ M b = true) (u0 u1 u2 : Value) : Turn D M D' M' w (Go.Proofs.YtaojalicnnnkmaaGreatDoor.set3 w' b u0 u1 u2) :=
  ((h.set ⟨b, 0, none⟩ u0 hb).set ⟨b, 1, none⟩ u1 hb).set ⟨b, 2, none⟩ u2 hb
theorem Turn.set4 {D M D' M' : Nat → Bool} {w w' : World} (h : Turn D M D' M' w w') {b : Nat} (hb : w.heap.size ≤ b ∨ M b = true) (u0 u1 u2 u3 : Value) : Turn D M D' M' w (Go.Proofs.YtaojalicnnnkmaaGreatDoor.set4 w' b u0 u1 u2 u3) :=
  (h.set3 hb u0 u1 u2).set ⟨b, 3, none⟩ u3 hb
theorem Turn.set5 {D M D' M' : Nat → Bool} {w w' : World} (h : Turn D M D' M' w w') {b : Nat} (hb : w.heap.size ≤ b ∨ M b = true) (u0 u1 u2 u3 u4 : Value) : Turn D M D' M' w (Go.Proofs.YtaojalicnnnkmaaGreatDoor.set5 w' b u0 u1 u2 u3 u4) :=
  (h.set4 hb u0 u1 u2 u3).set ⟨b, 4, none⟩ u4 hb
theorem Old.out {D M : Nat → Bool} {w : World} {rb : Nat} {xs : List O} {s : RS} (h : St D M w rb xs s) {k : Nat} (hk : w.heap.size ≤ k) : M k = false := by
  cases hm : M k with
  | false => rfl
  | true => have := h.md k hm; rw [h.old k hk] at this; cases this
/-- Where the reader's parts lie. -/
theorem St.parts {D M : Nat → Bool} {w : World} {rb : Nat} {xs : List O} {s : RS} (h : St D M w rb xs s) : ∃ vo vl vn, w.cell? ⟨rb, 0, none⟩ = some vo ∧ w.cell? ⟨rb, 1, none⟩ = some vl ∧ w.cell? ⟨rb, 2, none⟩ = some (.int .i64 (s.next : Int)) ∧ w.cell? ⟨rb, 3, none⟩ = some vn ∧ (∀ j, w.frozen? ⟨rb, j, none⟩ = false) ∧ Ops (hide D w) vo xs ∧ Toks (hide D w) vl s.rest ∧ w.ownsRow (rb + 1) 179 2 vn s.names.length (s.names.flatMap nmCells) ∧ ∀ k, vn.ownBlock = some k → M k = true := by
  obtain ⟨vo, o1, o2⟩ := h.co
  obtain ⟨vl, l1, l2⟩ := h.cl
  obtain ⟨vn, n1, n2, n3⟩ := h.c3
  exact ⟨vo, vl, vn, o1, l1, h.c2, n1, h.fz, o2, l2, n2, n3⟩
theorem take_rest {w : World} {v : Value} {x : TokP} {r : List TokP} (h : Toks w v (x :: r)) : ∃ b off c, v = .slice (some ⟨b, off, none⟩) (r.length + 1) c ∧ r.length + 1 ≤ c ∧ c ≤ maxLen ∧ b < w.heap.size ∧ Toks w (.slice (some ⟨b, off + 5, none⟩) r.length (c - 1)) r ∧
    w.cell? ⟨b, off, none⟩ = some (.int .i64 (x.1.kind : Int)) ∧ w.cell? ⟨b, off + 1, none⟩ = some (.string ⟨x.1.text.toArray⟩) ∧ w.cell? ⟨b, off + 2, none⟩ = some (.int .i64 (x.1.n : Int)) ∧ w.cell? ⟨b, off + 3, none⟩ = some (.bool x.1.opens) ∧ w.cell? ⟨b, off + 4, none⟩ = some (.int .i64 (x.2 : Int)) := by
  obtain ⟨a, c, e, h1, h2, h3⟩ := h
  rcases h3 with h3 | ⟨b, off, rfl, hb, hc⟩
  · cases h3
  · rw [List.length_cons] at e h1
    refine ⟨b, off, c, e, h1, h2, hb, ⟨_, c - 1, rfl, by omega, by unfold maxLen at *; omega, Or.inr ⟨b, off + 5, rfl, hb, fun i y hy j u hu => ?_⟩⟩, ?_, ?_, ?_, ?_, ?_⟩
    · have := hc (i + 1) y (by simpa using hy) j u hu
      rw [show off + 5 + (i * 5 + j) = off + ((i + 1) * 5 + j) by omega]
      exact this
    · simpa using hc 0 x rfl 0 _ rfl
    · simpa using hc 0 x rfl 1 _ rfl
    · simpa using hc 0 x rfl 2 _ rfl
    · simpa using hc 0 x rfl 3 _ rfl
    · simpa using hc 0 x rfl 4 _ rfl
theorem toks_none {w : World} {v : Value} (h : Toks w v []) : ∃ a c, v = .slice a 0 c ∧ c ≤ maxLen := by
  obtain ⟨a, c, e, h1, h2, _⟩ := h
  exact ⟨a, c, e, h2⟩
end Go.Proofs.YtaojalicnnnkmaaGreatDoor
/- The project's reader: next, take, takes. -/
namespace Go.Proofs.YtaojalicnnnkmaaGreatDoor
open Go.RowKit
set_option linter.unusedVariables false

theorem far_cell {w : World} {b j c k : Nat} {u : Value} (hne : b ≠ c) : (w.setCell ⟨c, k, none⟩ u).cell? ⟨b, j, none⟩ = w.cell? ⟨b, j, none⟩ := by
  rw [World.cell?_setCell_other]
  intro e; injection e with e _ _; exact hne e.symm
theorem near_cell {w : World} {rb j k : Nat} {u : Value} (hk : j ≠ k) : (w.setCell ⟨rb, k, none⟩ u).cell? ⟨rb, j, none⟩ = w.cell? ⟨rb, j, none⟩ := by
  rw [World.cell?_setCell_other]
  intro e; injection e with _ e _; exact hk e.symm
theorem bel5 {w w1 : World} (h : Below w.heap.size w w1) {b : Nat} (hb : w.heap.size ≤ b) (u0 u1 u2 u3 u4 : Value) : Below w.heap.size w (((((w1.setCell ⟨b, 0, none⟩ u0).setCell ⟨b, 1, none⟩ u1).setCell ⟨b, 2, none⟩ u2).setCell ⟨b, 3, none⟩ u3).setCell ⟨b, 4, none⟩ u4) :=
  (((((h).setCell (p := ⟨b, 0, none⟩) hb _).setCell (p := ⟨b, 1, none⟩) hb _).setCell (p := ⟨b, 2, none⟩) hb _).setCell (p := ⟨b, 3, none⟩) hb _).setCell (p := ⟨b, 4, none⟩) hb _
set_option maxHeartbeats 1000000 in
theorem next_at {D M : Nat → Bool} {w : World} {rb : Nat} {xs : List O} {s : RS} (h : St D M w rb xs s) :
    Calls Tryz.prog 82 #[.pointer (some ⟨rb, 0, none⟩)] w fun e w' => e = .returned (tkVal (headR s)) ∧ Below w.heap.size w w' := by
  obtain ⟨w1, hw1, hb1, hz1, hx1⟩ := box_new w #[.int .i64 0, .string ⟨#[]⟩, .int .i64 0, .bool false, .int .i64 0] 125
  obtain ⟨r0, r1, r2, r3, r4, rf⟩ := hx1.five
  obtain ⟨_, vl, _, _, l1, _, _, _, _, l2, _⟩ := (h.later hb1).parts
  have l2 : Toks w1 vl s.rest := Elems.stay l2 (Stays.unhide D w1)
  cases hr : s.rest with
  | nil =>
    rw [hr] at l2
    obtain ⟨a, c, rfl, hc⟩ := toks_none l2
    rw [show headR s = zTok by unfold headR; rw [hr]; rfl]
    clear l2 hr h
    go_enter Tryz.func82, Tryz.ntmps82
    go_wp2_with fail
    (try rw [hw1])
    clear hw1
    go_wp2
    refine bodyPost_ret (v := tkVal zTok) (by rw [results_cell1 rfl]; go_simp; (try simp [zTok])) rfl ⟨rfl, ?_⟩
    exact bel5 hb1 (Nat.le_refl _) _ _ _ _ _
  | cons x r =>
    rw [hr] at l2
    obtain ⟨b, off, c, rfl, h1, h2, hb, _, d0, d1, d2, d3, d4⟩ := take_rest l2
    rw [show headR s = x by unfold headR; rw [hr]; rfl]
    unfold maxLen at h2
    obtain ⟨n, hn⟩ : ∃ n, r.length = n := ⟨_, rfl⟩
    rw [hn] at l1 h1
    clear l2 hr h hn
    have hn0 : ((n : Int) + 1 == 0) = false := beq_false_of_ne (by omega)
    go_enter Tryz.func82, Tryz.ntmps82
    go_wp2_with fail
    (try rw [hw1])
    clear hw1
    go_wp2
    refine bodyPost_ret (v := tkVal x) (by rw [results_cell1 rfl]; go_simp) rfl ⟨rfl, ?_⟩
    exact bel5 hb1 (Nat.le_refl _) _ _ _ _ _
/-- What a call that reads leaves. -/
def TakeSt (D M : Nat → Bool) (w w' : World) (rb : Nat) (xs : List O) (s : RS) : Prop := St D M w' rb xs s ∧ Turn D M D M w w'
theorem St.pass {D M : Nat → Bool} {w : World} {rb : Nat} {xs : List O} {s : RS} {vl : Value} (h : St D M w rb xs s) (hv : Toks (hide D w) vl (dropR s).rest) : St D M (w.setCell ⟨rb, 1, none⟩ vl) rb xs (dropR s) := by
  have hs : Stays (hide D w) (hide D (w.setCell ⟨rb, 1, none⟩ vl)) := Stays.set _ _ (h.md rb h.mb)
  obtain ⟨vo, o1, o2⟩ := h.co
  obtain ⟨vl0, l1, l2⟩ := h.cl
  obtain ⟨vn, n1, n2, n3⟩ := h.c3
  exact { mb := h.mb, md := h.md, old := h.old.mono (by simp [World.setCell])
          co := ⟨vo, by rw [near_cell (by decide)]; exact o1, Elems.stay o2 hs⟩
          cl := ⟨vl, css l1, Elems.stay hv hs⟩
          c2 := by rw [near_cell (by decide)]; exact h.c2
          c3 := ⟨vn, by rw [near_cell (by decide)]; exact n1, row_at n2 (fun g hg => Below.heap_setCell w _ _ g (fun e => by have := (row_in n2 hg).1; simp only at e; omega)), n3⟩
          fz := fun j => by rw [World.frozen?_setCell]; exact h.fz j
          nice := h.nice.drop }
set_option maxHeartbeats 1000000 in
theorem take_at {D M : Nat → Bool} {w : World} {rb : Nat} {xs : List O} {s : RS} (h : St D M w rb xs s) :
    Calls Tryz.prog 66 #[.pointer (some ⟨rb, 0, none⟩)] w fun e w' => e = .returned (tkVal (headR s)) ∧ TakeSt D M w w' rb xs (dropR s) := by
  have HN := Lib.hid (fun wq hq => next_at (h.later (w' := wq) hq))
  obtain ⟨q, hq⟩ : ∃ q, headR s = q := ⟨_, rfl⟩
  rw [hq] at HN ⊢
  obtain ⟨w1, hw1, hb1, hz1, hx1⟩ := box_new w #[.int .i64 0, .string ⟨#[]⟩, .int .i64 0, .bool false, .int .i64 0] 125
  have hlt := h.lt
  have H := Lib.hid h
  have HD : Hid (∀ s', dropR s = s' → _) := Lib.hid (fun s' (e : dropR s = s') => e)
  obtain ⟨s', hs'⟩ : ∃ s', dropR s = s' := ⟨_, rfl⟩
  rw [hs']
  have HS' := Lib.hid hs'
  clear h hq hs' HD
  go_enter Tryz.func66, Tryz.ntmps66
  go_wp2_with fail
  (try rw [hw1])
  clear hw1
  (go_wp2_with fail; go_fit (HN.out _ hb1); rintro e w2 ⟨rfl, hb2⟩)
  obtain ⟨w3, hw3, hb3, hz3, hx3⟩ := box_new w2 #[.int .i64 (q.1.kind : Int), .string ⟨q.1.text.toArray⟩, .int .i64 (q.1.n : Int), .bool q.1.opens, .int .i64 (q.2 : Int)] 125
  obtain ⟨r0, r1, r2, r3, r4, rf⟩ := ((hx1.ext hb2).ext hb3).five
  obtain ⟨d0, d1, d2, d3, d4, df⟩ := hx3.five
  have HB3 := Lib.hid (Ext.trans' (Ext.trans' hb1 hb2) hb3)
  have hsz := hb2.size
  have hne : rb ≠ w.heap.size := by omega
  have hne2 : rb ≠ w2.heap.size := by omega
  have hne3 : w.heap.size ≠ w2.heap.size := by omega
  have HX := Lib.hid ((hx1.ext hb2).ext hb3)
  obtain ⟨_, vl, _, _, l1, _, _, hf, _, l2, _⟩ := (H.out.box HB3.out (Nat.le_refl _) HX.out.lt).parts
  clear hb1 hb2 hb3 HN hx1 hx3
  cases hr : s.rest with
  | nil =>
    have e : s' = s := by rw [← HS'.out]; unfold dropR; rw [hr]; cases s; simp only at hr; subst hr; rfl
    rw [hr] at l2
    obtain ⟨a, c, rfl, hc⟩ := toks_none l2
    have HE := Lib.hid e
    clear l2 hr e
    go_wp2_with fail
    (try rw [hw3])
    clear hw3
    go_wp2
    have hB := bel5 HB3.out (Nat.le_refl w.heap.size) (.int .i64 (q.1.kind : Int)) (.string ⟨q.1.text.toArray⟩) (.int .i64 (q.1.n : Int)) (.bool q.1.opens) (.int .i64 (q.2 : Int))
    refine bodyPost_ret (v := tkVal q) (by rw [results_cell1 rfl]; go_simp) rfl ⟨rfl, ?_⟩
    rw [HE.out]
    exact ⟨H.out.later hB, Turn.below hB⟩
  | cons x r =>
    rw [hr] at l2
    obtain ⟨b, off, c, rfl, h1, h2, hb, ht, _⟩ := take_rest l2
    have HT := Lib.hid ht
    have hrr : (dropR s).rest = r := by unfold dropR; rw [hr]; rfl
    have HR := Lib.hid hrr
    unfold maxLen at h2
    obtain ⟨n, hn⟩ : ∃ n, r.length = n := ⟨_, rfl⟩
    rw [hn] at l1 h1 HT
    have hB : M w.heap.size = false := Old.out H.out (Nat.le_refl _)
    have HF := Lib.hid (fun (vl' : Value) (hv : Toks (hide (plusB D w.heap.size) w3) vl' r) => (((H.out.box HB3.out (Nat.le_refl _) HX.out.lt).pass (vl := vl') (by rw [hrr]; exact hv)).put5 (plusB_self D _) hB (.int .i64 (q.1.kind : Int)) (.string ⟨q.1.text.toArray⟩) (.int .i64 (q.1.n : Int)) (.bool q.1.opens) (.int .i64 (q.2 : Int))).unbox H.out.md)
    have HT2 := Lib.hid (fun (vl' : Value) => ((Turn.below (D := D) (M := M) HB3.out).set ⟨rb, 1, none⟩ vl' (Or.inr H.out.mb)).set5 (b := w.heap.size) (Or.inl (Nat.le_refl _)) (.int .i64 (q.1.kind : Int)) (.string ⟨q.1.text.toArray⟩) (.int .i64 (q.1.n : Int)) (.bool q.1.opens) (.int .i64 (q.2 : Int)))
    have HO := Lib.hid (fun (vl' : Value) => H.out.old.mono (HT2.out vl').size)
    have HLR := Lib.hid hn
    clear l2 hr hn ht hrr HR
    by_cases hc1 : c = 1
    · subst hc1
      obtain rfl : n = 0 := by omega
      have HNil : Hid (Toks (hide (plusB D w.heap.size) w3) (.slice (some ⟨b, off, none⟩) 0 0) r) := Lib.hid (by
        have hr0 : r = [] := List.length_eq_zero_iff.1 HLR.out
        subst hr0
        exact ⟨_, 0, rfl, Nat.zero_le _, Nat.zero_le _, Or.inl rfl⟩)
      go_wp2_with fail
      (try rw [hw3])
      clear hw3
      go_wp2
      refine bodyPost_ret (v := tkVal q) (by rw [results_cell1 rfl]; go_simp) rfl ⟨rfl, ?_⟩
      rw [← HS'.out]
      exact ⟨HF.out _ HNil.out (HO.out _), HT2.out _⟩
    · go_wp2_with fail
      (try rw [hw3])
      clear hw3
      go_wp2
      refine bodyPost_ret (v := tkVal q) (by rw [results_cell1 rfl]; go_simp) rfl ⟨rfl, ?_⟩
      rw [← HS'.out]
      exact ⟨HF.out _ HT.out (HO.out _), HT2.out _⟩
def takesS (t : List UInt8) (s : RS) : RS := if isMark t (headR s) then dropR s else s
theorem takesR_yes {t : List UInt8} {s : RS} (h : isMark t (headR s) = true) : takesR t s = some (takesS t s) := by
  unfold takesR takesS
  rw [if_pos h, if_pos h]
theorem takesR_no {t : List UInt8} {s : RS} (h : isMark t (headR s) = false) : takesR t s = none ∧ takesS t s = s := by
  unfold takesR takesS
  rw [h]
  exact ⟨rfl, rfl⟩
set_option maxHeartbeats 1000000 in
theorem takes_at {D M : Nat → Bool} {w : World} {rb : Nat} {xs : List O} {s : RS} (h : St D M w rb xs s) (t : List UInt8) :
    Calls Tryz.prog 117 #[.pointer (some ⟨rb, 0, none⟩), .string ⟨t.toArray⟩] w fun e w' => e = .returned (.bool (isMark t (headR s))) ∧ TakeSt D M w w' rb xs (takesS t s) := by
  have HN := Lib.hid (next_at h)
  have HTk := Lib.hid (fun wq (hq : Below w.heap.size w wq) => take_at (h.later (w' := wq) hq))
  obtain ⟨q, hq⟩ : ∃ q, headR s = q := ⟨_, rfl⟩
  have HQ := Lib.hid hq
  rw [hq] at HN HTk ⊢
  obtain ⟨sd, hsd⟩ : ∃ sd, takesS t s = sd := ⟨_, rfl⟩
  have HSD := Lib.hid hsd
  have H := Lib.hid h
  obtain ⟨m, hm⟩ : ∃ m, isMark t q = m := ⟨_, rfl⟩
  have HM := Lib.hid hm
  rw [hsd, hm]
  clear h hq hsd hm
  go_enter Tryz.func117, Tryz.ntmps117
  (go_wp2_with fail; go_fit (HN.out); rintro e w2 ⟨rfl, hb2⟩)
  obtain ⟨w3, hw3, hb3, hz3, hx3⟩ := box_new w2 #[.int .i64 (q.1.kind : Int), .string ⟨q.1.text.toArray⟩, .int .i64 (q.1.n : Int), .bool q.1.opens, .int .i64 (q.2 : Int)] 125
  obtain ⟨d0, d1, d2, d3, d4, df⟩ := hx3.five
  have HB3 := Lib.hid (Ext.trans' hb2 hb3)
  clear hb2 hb3 hx3
  by_cases hk : q.1.kind = 5
  · by_cases ht : q.1.text = t
    · have hm : isMark t q = true := by unfold isMark; rw [hk, ht]; simp
      have HE : Hid (sd = dropR s) := Lib.hid (by rw [← HSD.out]; unfold takesS; rw [HQ.out, if_pos hm])
      obtain rfl : m = true := HM.out.symm.trans hm
      have hk' : ((q.1.kind : Int) == 5) = true := by rw [hk]; rfl
      have ht' : (q.1.text == t) = true := by rw [ht]; exact beq_self_eq_true _
      clear hk ht hm
      go_wp2_with fail
      (try rw [hw3])
      clear hw3
      (go_wp2_with fail; go_fit (HTk.out _ HB3.out); rintro e w4 ⟨rfl, h4⟩)
      go_wp2
      go_ret
      rw [HE.out]
      exact ⟨rfl, h4.1, (Turn.below HB3.out).trans h4.2⟩
    · have hm : isMark t q = false := by unfold isMark; rw [hk]; simp [ht]
      have HE : Hid (sd = s) := Lib.hid (by rw [← HSD.out]; unfold takesS; rw [HQ.out, hm]; rfl)
      obtain rfl : m = false := HM.out.symm.trans hm
      have hk' : ((q.1.kind : Int) == 5) = true := by rw [hk]; rfl
      have ht' : (q.1.text == t) = false := beq_false_of_ne ht
      clear hk ht hm
      go_wp2_with fail
      (try rw [hw3])
      clear hw3
      go_wp2
      go_ret
      rw [HE.out]
      exact ⟨rfl, H.out.later HB3.out, Turn.below HB3.out⟩
  · have hm : isMark t q = false := by unfold isMark; simp [hk]
    have HE : Hid (sd = s) := Lib.hid (by rw [← HSD.out]; unfold takesS; rw [HQ.out, hm]; rfl)
    obtain rfl : m = false := HM.out.symm.trans hm
    have hk' : ((q.1.kind : Int) == 5) = false := beq_false_of_ne (by omega)
    clear hk hm
    go_wp2_with fail
    (try rw [hw3])
    clear hw3
    go_wp2
    go_ret
    rw [HE.out]
    exact ⟨rfl, H.out.later HB3.out, Turn.below HB3.out⟩
end Go.Proofs.YtaojalicnnnkmaaGreatDoor
/- The project's reader: between. -/
namespace Go.Proofs.YtaojalicnnnkmaaGreatDoor
open Go.RowKit
set_option linter.unusedVariables false

theorem Below.set3 {B : Nat} {w w' : World} (h : Below B w w') {b : Nat} (hb : B ≤ b) (u0 u1 u2 : Value) : Below B w (Go.Proofs.YtaojalicnnnkmaaGreatDoor.set3 w' b u0 u1 u2) :=
  ((h.setCell (p := ⟨b, 0, none⟩) hb _).setCell (p := ⟨b, 1, none⟩) hb _).setCell (p := ⟨b, 2, none⟩) hb _
theorem Below.set4 {B : Nat} {w w' : World} (h : Below B w w') {b : Nat} (hb : B ≤ b) (u0 u1 u2 u3 : Value) : Below B w (Go.Proofs.YtaojalicnnnkmaaGreatDoor.set4 w' b u0 u1 u2 u3) :=
  (Below.set3 h hb u0 u1 u2).setCell (p := ⟨b, 3, none⟩) hb _
theorem far3 {w : World} {b j c : Nat} {v : Value} (h : w.cell? ⟨b, j, none⟩ = some v) (hne : b ≠ c) (u0 u1 u2 : Value) : (set3 w c u0 u1 u2).cell? ⟨b, j, none⟩ = some v := by
  rw [far_cell hne, far_cell hne, far_cell hne]; exact h
theorem far4 {w : World} {b j c : Nat} {v : Value} (h : w.cell? ⟨b, j, none⟩ = some v) (hne : b ≠ c) (u0 u1 u2 u3 : Value) : (set4 w c u0 u1 u2 u3).cell? ⟨b, j, none⟩ = some v := by
  rw [far_cell hne]; exact far3 h hne _ _ _
theorem Ops.bare {D : Nat → Bool} {w : World} {v : Value} {xs : List O} (h : Ops (hide D w) v xs) : Ops w v xs := Elems.stay h (Stays.unhide D w)
set_option maxHeartbeats 2000000 in
theorem between_yes {D M : Nat → Bool} {w : World} {rb : Nat} {xs : List O} {s : RS} (h : St D M w rb xs s) (q : TokP) (hq : headR s = q) (ho : opKind q = true) :
    Calls Tryz.prog 80 #[.pointer (some ⟨rb, 0, none⟩)] w fun e w' => e = .returned (.tuple #[oVal (oneB xs q.1.text 2).1, .bool (oneB xs q.1.text 2).2]) ∧ Below w.heap.size w w' := by
  have HN := Lib.hid (fun wq hq => next_at (h.later (w' := wq) hq))
  rw [hq] at HN
  have HI := Lib.hid (fun wq (hb : Below w.heap.size w wq) (v : Value) (hv : Ops wq v xs) => in_walk hv ⟨q.1.text.toArray⟩)
  obtain ⟨⟨⟨yn, yk, yl⟩, yg⟩, hy⟩ : ∃ y, oneB xs q.1.text 2 = y := ⟨_, rfl⟩
  rw [show bl (⟨q.1.text.toArray⟩ : ByteArray) = q.1.text from rfl, hy] at HI
  rw [hy]
  obtain ⟨w1, hw1, hb1, hz1, hx1⟩ := box_new w #[.string ⟨#[]⟩, .string ⟨#[]⟩, .int .i64 0] 93
  have H := Lib.hid h
  have hlt := h.lt
  have HK := Lib.hid ho
  clear h hq hy ho
  go_enter Tryz.func80, Tryz.ntmps80
  go_wp2_with fail
  (try rw [hw1])
  clear hw1
  (go_wp2_with fail; go_fit (HN.out _ hb1); rintro e w2 ⟨rfl, hb2⟩)
  obtain ⟨w3, hw3, hb3, hz3, hx3⟩ := box_new w2 #[.int .i64 (q.1.kind : Int), .string ⟨q.1.text.toArray⟩, .int .i64 (q.1.n : Int), .bool q.1.opens, .int .i64 (q.2 : Int)] 125
  obtain ⟨r0, r1, r2, rf⟩ := ((hx1.ext hb2).ext hb3).three
  obtain ⟨d0, d1, d2, d3, d4, df⟩ := hx3.five
  have HB3 := Lib.hid (Ext.trans' (Ext.trans' hb1 hb2) hb3)
  obtain ⟨vo, _, _, p0, _, _, _, _, po, _⟩ := (H.out.later HB3.out).parts
  have PO := Lib.hid po.bare
  have hsz := hb2.size
  have hne : rb ≠ w.heap.size := by omega
  have hne2 : rb ≠ w2.heap.size := by omega
  have hne3 : w2.heap.size ≠ w.heap.size := by omega
  have HX := Lib.hid ((hx1.ext hb2).ext hb3)
  clear hb1 hb2 hb3 HN hx1 hx3 po
  have hk : ((q.1.kind : Int) == 1) = true ∨ (((q.1.kind : Int) == 1) = false ∧ ((q.1.kind : Int) == 2) = true) ∨ (((q.1.kind : Int) == 1) = false ∧ ((q.1.kind : Int) == 2) = false ∧ ((q.1.kind : Int) == 5) = true ∧ (q.1.text == [44]) = true) := by
    have hk := HK.out
    unfold opKind isMark at hk
    by_cases h1 : q.1.kind = 1
    · left; rw [h1]; rfl
    by_cases h2 : q.1.kind = 2
    · right; left; rw [h2]; exact ⟨rfl, rfl⟩
    by_cases h5 : q.1.kind = 5
    · right; right; rw [h5]; rw [h5] at hk; simpa using hk
    · simp [h1, h2, h5] at hk
  rcases hk with hk1 | ⟨hk1, hk2⟩ | ⟨hk1, hk2, hk5, hkt⟩
  all_goals
    go_wp2_with fail
    (try rw [hw3])
    clear hw3
    go_wp2_with fail
    refine wp_region_held_drew (S := fun w' => w'.cell? ⟨rb, 0, none⟩ = some vo ∧ w'.cell? ⟨w2.heap.size, 1, none⟩ = some (.string ⟨q.1.text.toArray⟩)) (by kernel_rfl) (⟨p0, d1⟩) (fun hHeld => ?_)
    first | (refine held_t (i := 0) hHeld ?_; apply Exists.intro; refine ⟨fun wq hq => ?_, ?_⟩; (focus ((try dsimp only at hq); go_simp; (first | done | with_reducible rfl | fail)))) | refine held_s (i := 0) hHeld ?_ | fail
    first | (refine held_t (i := 1) hHeld ?_; apply Exists.intro; refine ⟨fun wq hq => ?_, ?_⟩; (focus ((try dsimp only at hq); go_simp; (first | done | with_reducible rfl | fail)))) | refine held_s (i := 1) hHeld ?_ | fail
    first | (refine held_t (i := 2) hHeld ?_; apply Exists.intro; refine ⟨fun wq hq => ?_, ?_⟩; (focus ((try dsimp only at hq); go_simp; (first | done | with_reducible rfl | fail)))) | refine held_s (i := 2) hHeld ?_ | fail
    first | (refine held_t (i := 3) hHeld ?_; apply Exists.intro; refine ⟨fun wq hq => ?_, ?_⟩; (focus ((try dsimp only at hq); go_simp; (first | done | with_reducible rfl | fail)))) | refine held_s (i := 3) hHeld ?_ | fail
    first | (refine held_t (i := 4) hHeld ?_; apply Exists.intro; refine ⟨fun wq hq => ?_, ?_⟩; (focus ((try dsimp only at hq); go_simp; (first | done | with_reducible rfl | fail)))) | refine held_s (i := 4) hHeld ?_ | fail
    first | (refine held_t (i := 5) hHeld ?_; apply Exists.intro; refine ⟨fun wq hq => ?_, ?_⟩; (focus ((try dsimp only at hq); go_simp; (first | done | with_reducible rfl | fail)))) | refine held_s (i := 5) hHeld ?_ | fail
    try simp only [Act.put, List.setIfInBounds_toArray, List.set_cons_zero, List.set_cons_succ]
    refine held_c 6 fun K hK => ?_
    go_simp
    (go_at_call 100; refine (HI.out _ (Ext.trans' HB3.out (Below.refl _ _).drew) _ (PO.out.ext (Below.refl _ _).drew)).mono ?_; rintro e w4 ⟨rfl, hb4⟩; obtain ⟨e0, e1, e2, ef⟩ := ((HX.out.ext (Below.refl _ _).drew).ext hb4).three; have HB4 := Lib.hid (Ext.trans' (Ext.trans' HB3.out (Below.refl _ _).drew) hb4))
    refine hK.out _ _ (⟨cell_later hb4 hHeld.1, cell_later hb4 hHeld.2⟩) (fun hHeld => ?_)
    clear hK K
    try simp only [Act.put, List.setIfInBounds_toArray, List.set_cons_zero, List.set_cons_succ]
    first | (refine held_t (i := 7) hHeld ?_; apply Exists.intro; refine ⟨fun wq hq => ?_, ?_⟩; (focus ((try dsimp only at hq); go_simp; (first | done | with_reducible rfl | fail)))) | refine held_s (i := 7) hHeld ?_ | fail
    first | (refine held_t (i := 8) hHeld ?_; apply Exists.intro; refine ⟨fun wq hq => ?_, ?_⟩; (focus ((try dsimp only at hq); go_simp; (first | done | with_reducible rfl | fail)))) | refine held_s (i := 8) hHeld ?_ | fail
    try simp only [Act.put, List.setIfInBounds_toArray, List.set_cons_zero, List.set_cons_succ]
    refine held_c 9 fun K hK => ?_
    go_simp
    skip
    refine hK.out _ _ (⟨far3 hHeld.1 hne _ _ _, far3 hHeld.2 hne3 _ _ _⟩) (fun hHeld => ?_)
    clear hK K
    try simp only [Act.put, List.setIfInBounds_toArray, List.set_cons_zero, List.set_cons_succ]
    first | (refine held_t (i := 10) hHeld ?_; apply Exists.intro; refine ⟨fun wq hq => ?_, ?_⟩; (focus ((try dsimp only at hq); go_simp; (first | done | with_reducible rfl | fail)))) | refine held_s (i := 10) hHeld ?_ | fail
    try simp only [Act.put, List.setIfInBounds_toArray, List.set_cons_zero, List.set_cons_succ]
    refine wpAnyH_done (by kernel_rfl) ?_ _
    go_wp2
    refine bodyPost_ret (v := .tuple #[.agg #[.string yn, .string yk, .int .i64 yl], .bool yg]) (by rw [results_cell_tmp rfl]; go_simp) rfl ⟨rfl, Below.set3 HB4.out (Nat.le_refl _) _ _ _⟩
set_option maxHeartbeats 1000000 in
theorem between_no {D M : Nat → Bool} {w : World} {rb : Nat} {xs : List O} {s : RS} (h : St D M w rb xs s) (q : TokP) (hq : headR s = q) (ho : opKind q = false) :
    Calls Tryz.prog 80 #[.pointer (some ⟨rb, 0, none⟩)] w fun e w' => e = .returned (.tuple #[.agg #[.string ⟨#[]⟩, .string ⟨#[]⟩, .int .i64 0], .bool false]) ∧ Below w.heap.size w w' := by
  have HN := Lib.hid (fun wq hq => next_at (h.later (w' := wq) hq))
  rw [hq] at HN
  obtain ⟨w1, hw1, hb1, hz1, hx1⟩ := box_new w #[.string ⟨#[]⟩, .string ⟨#[]⟩, .int .i64 0] 93
  have HK := Lib.hid ho
  clear h hq ho
  go_enter Tryz.func80, Tryz.ntmps80
  go_wp2_with fail
  (try rw [hw1])
  clear hw1
  (go_wp2_with fail; go_fit (HN.out _ hb1); rintro e w2 ⟨rfl, hb2⟩)
  obtain ⟨w3, hw3, hb3, hz3, hx3⟩ := box_new w2 #[.int .i64 (q.1.kind : Int), .string ⟨q.1.text.toArray⟩, .int .i64 (q.1.n : Int), .bool q.1.opens, .int .i64 (q.2 : Int)] 125
  obtain ⟨r0, r1, r2, rf⟩ := ((hx1.ext hb2).ext hb3).three
  obtain ⟨d0, d1, d2, d3, d4, df⟩ := hx3.five
  have HB3 := Lib.hid (Ext.trans' (Ext.trans' hb1 hb2) hb3)
  clear hb1 hb2 hb3 HN hx1 hx3
  have hk : ((q.1.kind : Int) == 1) = false ∧ ((q.1.kind : Int) == 2) = false ∧ (((q.1.kind : Int) == 5) = false ∨ (((q.1.kind : Int) == 5) = true ∧ (q.1.text == [44]) = false)) := by
    have hk := HK.out
    unfold opKind isMark at hk
    simp only [Bool.or_eq_false_iff, Bool.and_eq_false_iff, beq_eq_false_iff_ne] at hk
    obtain ⟨h1, h2, h3⟩ := hk
    refine ⟨beq_false_of_ne (by omega), beq_false_of_ne (by omega), ?_⟩
    by_cases h5 : q.1.kind = 5
    · right
      rcases h3 with h3 | h3
      · exact absurd h5 h3
      · exact ⟨by rw [h5]; rfl, beq_false_of_ne h3⟩
    · left; exact beq_false_of_ne (by omega)
  obtain ⟨hk1, hk2, hk5 | ⟨hk5, hkt⟩⟩ := hk
  all_goals
    go_wp2_with fail
    (try rw [hw3])
    clear hw3
    go_wp2
    refine bodyPost_ret (v := .tuple #[.agg #[.string ⟨#[]⟩, .string ⟨#[]⟩, .int .i64 0], .bool false]) (by rw [results_cell_tmp rfl]; go_simp) rfl ⟨rfl, Below.set3 HB3.out (Nat.le_refl _) _ _ _⟩
theorem between_at {D M : Nat → Bool} {w : World} {rb : Nat} {xs : List O} {s : RS} (h : St D M w rb xs s) :
    Calls Tryz.prog 80 #[.pointer (some ⟨rb, 0, none⟩)] w fun e w' => e = .returned (.tuple #[oVal (betweenR (betO xs) (headR s)).1, .bool (betweenR (betO xs) (headR s)).2]) ∧ Below w.heap.size w w' := by
  unfold betweenR
  cases ho : opKind (headR s) with
  | true => exact between_yes h _ rfl ho
  | false => exact between_no h _ rfl ho
end Go.Proofs.YtaojalicnnnkmaaGreatDoor
