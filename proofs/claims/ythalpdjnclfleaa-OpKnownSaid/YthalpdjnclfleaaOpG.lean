/- Operators: the plain ones. -/
import Derived.Test.YthalpdjnclfleaaOpF
namespace Go.Proofs.Ythalpdjnclfleaa
open Go.Shelf Go.RowKit

abbrev xfx : ByteArray := ⟨#[120, 102, 120]⟩
abbrev xfy : ByteArray := ⟨#[120, 102, 121]⟩
abbrev yfx : ByteArray := ⟨#[121, 102, 120]⟩
abbrev fy : ByteArray := ⟨#[102, 121]⟩
def names1 : List ByteArray := [⟨#[58, 45]⟩]
def names2 : List ByteArray := [⟨#[59]⟩]
def names3 : List ByteArray := [⟨#[45, 62]⟩]
def names4 : List ByteArray := [⟨#[44]⟩]
def names5 : List ByteArray := [⟨#[92, 43]⟩]
def names6 : List ByteArray := [⟨#[61]⟩, ⟨#[92, 61]⟩, ⟨#[61, 61]⟩, ⟨#[92, 61, 61]⟩, ⟨#[64, 60]⟩, ⟨#[64, 62]⟩, ⟨#[64, 61, 60]⟩, ⟨#[64, 62, 61]⟩, ⟨#[61, 46, 46]⟩, ⟨#[105, 115]⟩, ⟨#[61, 58, 61]⟩, ⟨#[61, 92, 61]⟩, ⟨#[60]⟩, ⟨#[62]⟩, ⟨#[61, 60]⟩, ⟨#[62, 61]⟩]
def names7 : List ByteArray := [⟨#[43]⟩, ⟨#[45]⟩, ⟨#[47, 92]⟩, ⟨#[92, 47]⟩, ⟨#[120, 111, 114]⟩]
def names8 : List ByteArray := [⟨#[42]⟩, ⟨#[47, 47]⟩, ⟨#[109, 111, 100]⟩, ⟨#[114, 101, 109]⟩, ⟨#[62, 62]⟩, ⟨#[60, 60]⟩]
def names9 : List ByteArray := [⟨#[94]⟩]
def names10 : List ByteArray := [⟨#[45]⟩, ⟨#[92]⟩]
def alikeB (k : ByteArray) (l : Int) (ns : List ByteArray) : List O := ns.map fun s => ⟨s, k, l⟩
def plainB : List O := alikeB xfx 1200 names1 ++ alikeB xfy 1100 names2 ++ alikeB xfy 1050 names3 ++ alikeB xfy 1000 names4 ++ alikeB fy 900 names5 ++ alikeB xfx 700 names6 ++ alikeB yfx 500 names7 ++ alikeB yfx 400 names8 ++ alikeB xfy 200 names9 ++ alikeB fy 200 names10

theorem alike_at {w0 w : World} (hb : Below w0.heap.size w0 w) (ns : List ByteArray) (n : Nat) (hn : ns.length = n) (hs : n ≤ 100) (hz : ∀ s ∈ ns, s.size ≤ 100000) (k : ByteArray) (l : Int) :
    Calls Try.prog 22 #[.string k, .int .i64 l, .slice (some ⟨w.heap.size, 0, none⟩) n n] (w.alloc (.cells (ns.map Value.string).toArray 9)) fun e w' => ∃ a c, e = .returned (.slice a n c) ∧ Ops w' (.slice a n c) (alikeB k l ns) ∧ Below w.heap.size w w' ∧ Below w0.heap.size w0 w' := by
  refine (alike_walk k l (strs_laid w 9 ns n hn (by omega) hz) (by omega)).mono ?_
  rintro e w' ⟨r, rfl, h1, h2⟩
  have h3 : Below w.heap.size w w' := Below.trans (bel1' _ _) (h2.mono (by simp))
  obtain ⟨a, c, rfl, _⟩ := h1.form
  rw [List.length_map, hn] at h1 ⊢
  exact ⟨a, c, rfl, h1, h3, Ext.trans' hb h3⟩

theorem alike1 {w0 w : World} (hb : Below w0.heap.size w0 w) :
    Calls Try.prog 22 #[.string ⟨#[120, 102, 120]⟩, .int .i64 1200, .slice (some ⟨w.heap.size, 0, none⟩) 1 1] (w.alloc (.cells #[.string ⟨#[58, 45]⟩] 9)) fun e w' => ∃ a c, e = .returned (.slice a 1 c) ∧ Ops w' (.slice a 1 c) (alikeB xfx 1200 names1) ∧ Below w.heap.size w w' ∧ Below w0.heap.size w0 w' :=
  alike_at hb names1 1 rfl (by decide) (by decide) xfx 1200
theorem alike2 {w0 w : World} (hb : Below w0.heap.size w0 w) :
    Calls Try.prog 22 #[.string ⟨#[120, 102, 121]⟩, .int .i64 1100, .slice (some ⟨w.heap.size, 0, none⟩) 1 1] (w.alloc (.cells #[.string ⟨#[59]⟩] 9)) fun e w' => ∃ a c, e = .returned (.slice a 1 c) ∧ Ops w' (.slice a 1 c) (alikeB xfy 1100 names2) ∧ Below w.heap.size w w' ∧ Below w0.heap.size w0 w' :=
  alike_at hb names2 1 rfl (by decide) (by decide) xfy 1100
theorem alike3 {w0 w : World} (hb : Below w0.heap.size w0 w) :
    Calls Try.prog 22 #[.string ⟨#[120, 102, 121]⟩, .int .i64 1050, .slice (some ⟨w.heap.size, 0, none⟩) 1 1] (w.alloc (.cells #[.string ⟨#[45, 62]⟩] 9)) fun e w' => ∃ a c, e = .returned (.slice a 1 c) ∧ Ops w' (.slice a 1 c) (alikeB xfy 1050 names3) ∧ Below w.heap.size w w' ∧ Below w0.heap.size w0 w' :=
  alike_at hb names3 1 rfl (by decide) (by decide) xfy 1050
theorem alike4 {w0 w : World} (hb : Below w0.heap.size w0 w) :
    Calls Try.prog 22 #[.string ⟨#[120, 102, 121]⟩, .int .i64 1000, .slice (some ⟨w.heap.size, 0, none⟩) 1 1] (w.alloc (.cells #[.string ⟨#[44]⟩] 9)) fun e w' => ∃ a c, e = .returned (.slice a 1 c) ∧ Ops w' (.slice a 1 c) (alikeB xfy 1000 names4) ∧ Below w.heap.size w w' ∧ Below w0.heap.size w0 w' :=
  alike_at hb names4 1 rfl (by decide) (by decide) xfy 1000
theorem alike5 {w0 w : World} (hb : Below w0.heap.size w0 w) :
    Calls Try.prog 22 #[.string ⟨#[102, 121]⟩, .int .i64 900, .slice (some ⟨w.heap.size, 0, none⟩) 1 1] (w.alloc (.cells #[.string ⟨#[92, 43]⟩] 9)) fun e w' => ∃ a c, e = .returned (.slice a 1 c) ∧ Ops w' (.slice a 1 c) (alikeB fy 900 names5) ∧ Below w.heap.size w w' ∧ Below w0.heap.size w0 w' :=
  alike_at hb names5 1 rfl (by decide) (by decide) fy 900
theorem alike6 {w0 w : World} (hb : Below w0.heap.size w0 w) :
    Calls Try.prog 22 #[.string ⟨#[120, 102, 120]⟩, .int .i64 700, .slice (some ⟨w.heap.size, 0, none⟩) 16 16] (w.alloc (.cells #[.string ⟨#[61]⟩, .string ⟨#[92, 61]⟩, .string ⟨#[61, 61]⟩, .string ⟨#[92, 61, 61]⟩, .string ⟨#[64, 60]⟩, .string ⟨#[64, 62]⟩, .string ⟨#[64, 61, 60]⟩, .string ⟨#[64, 62, 61]⟩, .string ⟨#[61, 46, 46]⟩, .string ⟨#[105, 115]⟩, .string ⟨#[61, 58, 61]⟩, .string ⟨#[61, 92, 61]⟩, .string ⟨#[60]⟩, .string ⟨#[62]⟩, .string ⟨#[61, 60]⟩, .string ⟨#[62, 61]⟩] 9)) fun e w' => ∃ a c, e = .returned (.slice a 16 c) ∧ Ops w' (.slice a 16 c) (alikeB xfx 700 names6) ∧ Below w.heap.size w w' ∧ Below w0.heap.size w0 w' :=
  alike_at hb names6 16 rfl (by decide) (by decide) xfx 700
theorem alike7 {w0 w : World} (hb : Below w0.heap.size w0 w) :
    Calls Try.prog 22 #[.string ⟨#[121, 102, 120]⟩, .int .i64 500, .slice (some ⟨w.heap.size, 0, none⟩) 5 5] (w.alloc (.cells #[.string ⟨#[43]⟩, .string ⟨#[45]⟩, .string ⟨#[47, 92]⟩, .string ⟨#[92, 47]⟩, .string ⟨#[120, 111, 114]⟩] 9)) fun e w' => ∃ a c, e = .returned (.slice a 5 c) ∧ Ops w' (.slice a 5 c) (alikeB yfx 500 names7) ∧ Below w.heap.size w w' ∧ Below w0.heap.size w0 w' :=
  alike_at hb names7 5 rfl (by decide) (by decide) yfx 500
theorem alike8 {w0 w : World} (hb : Below w0.heap.size w0 w) :
    Calls Try.prog 22 #[.string ⟨#[121, 102, 120]⟩, .int .i64 400, .slice (some ⟨w.heap.size, 0, none⟩) 6 6] (w.alloc (.cells #[.string ⟨#[42]⟩, .string ⟨#[47, 47]⟩, .string ⟨#[109, 111, 100]⟩, .string ⟨#[114, 101, 109]⟩, .string ⟨#[62, 62]⟩, .string ⟨#[60, 60]⟩] 9)) fun e w' => ∃ a c, e = .returned (.slice a 6 c) ∧ Ops w' (.slice a 6 c) (alikeB yfx 400 names8) ∧ Below w.heap.size w w' ∧ Below w0.heap.size w0 w' :=
  alike_at hb names8 6 rfl (by decide) (by decide) yfx 400
theorem alike9 {w0 w : World} (hb : Below w0.heap.size w0 w) :
    Calls Try.prog 22 #[.string ⟨#[120, 102, 121]⟩, .int .i64 200, .slice (some ⟨w.heap.size, 0, none⟩) 1 1] (w.alloc (.cells #[.string ⟨#[94]⟩] 9)) fun e w' => ∃ a c, e = .returned (.slice a 1 c) ∧ Ops w' (.slice a 1 c) (alikeB xfy 200 names9) ∧ Below w.heap.size w w' ∧ Below w0.heap.size w0 w' :=
  alike_at hb names9 1 rfl (by decide) (by decide) xfy 200
theorem alike10 {w0 w : World} (hb : Below w0.heap.size w0 w) :
    Calls Try.prog 22 #[.string ⟨#[102, 121]⟩, .int .i64 200, .slice (some ⟨w.heap.size, 0, none⟩) 2 2] (w.alloc (.cells #[.string ⟨#[45]⟩, .string ⟨#[92]⟩] 9)) fun e w' => ∃ a c, e = .returned (.slice a 2 c) ∧ Ops w' (.slice a 2 c) (alikeB fy 200 names10) ∧ Below w.heap.size w w' ∧ Below w0.heap.size w0 w' :=
  alike_at hb names10 2 rfl (by decide) (by decide) fy 200
theorem parts_laid (w : World) (t : TypeId) (ps : List (Value × List O)) (n : Nat) (hn : ps.length = n) (h : n ≤ 100000) :
    Elems 1 (fun p => [p.1]) (w.alloc (.cells (ps.map (·.1)).toArray t)) (.slice (some ⟨w.heap.size, 0, none⟩) n n) ps := by
  subst hn
  refine ⟨_, _, rfl, Nat.le_refl _, by unfold maxLen; omega, Or.inr ⟨_, _, rfl, by simp, fun i x hx j u hu => ?_⟩⟩
  have hj : j = 0 := by have := (List.getElem?_eq_some_iff.1 hu).1; simp at this; exact this
  subst hj
  simp at hu
  subst hu
  rw [World.cell?_alloc_at _ _ _ _ rfl]
  simp [hx]
def parts (r1 r2 r3 r4 r5 r6 r7 r8 r9 r10 : Value) : List (Value × List O) := [(r1, alikeB xfx 1200 names1), (r2, alikeB xfy 1100 names2), (r3, alikeB xfy 1050 names3), (r4, alikeB xfy 1000 names4), (r5, alikeB fy 900 names5), (r6, alikeB xfx 700 names6), (r7, alikeB yfx 500 names7), (r8, alikeB yfx 400 names8), (r9, alikeB xfy 200 names9), (r10, alikeB fy 200 names10)]
theorem parts_flat (r1 r2 r3 r4 r5 r6 r7 r8 r9 r10 : Value) : (parts r1 r2 r3 r4 r5 r6 r7 r8 r9 r10).flatMap (·.2) = plainB := by
  simp only [parts, plainB, List.flatMap_cons, List.flatMap_nil, List.append_nil, List.append_assoc]
theorem plain_len : plainB.length = 35 := by decide +kernel
theorem parts_at (w : World) (r1 r2 r3 r4 r5 r6 r7 r8 r9 r10 : Value) : Elems 1 (fun p => [p.1]) (w.alloc (.cells #[r1, r2, r3, r4, r5, r6, r7, r8, r9, r10] 23)) (.slice (some ⟨w.heap.size, 0, none⟩) 10 10) (parts r1 r2 r3 r4 r5 r6 r7 r8 r9 r10) :=
  parts_laid w 23 (parts r1 r2 r3 r4 r5 r6 r7 r8 r9 r10) 10 rfl (by decide)
theorem concat_plain {w : World} {r1 r2 r3 r4 r5 r6 r7 r8 r9 r10 : Value} {v : Value} (h : Elems 1 (fun p => [p.1]) w v (parts r1 r2 r3 r4 r5 r6 r7 r8 r9 r10)) (hp : ∀ p ∈ parts r1 r2 r3 r4 r5 r6 r7 r8 r9 r10, Ops w p.1 p.2) :
    Calls Try.prog 21 #[v] w fun e w' => ∃ r, e = .returned r ∧ Ops w' r plainB ∧ Below w.heap.size w w' ∧ (∀ k, r.ownBlock = some k → w.heap.size ≤ k) := by
  have := concat_walk h hp (by simp [parts]) (by rw [parts_flat, plain_len]; omega)
  rw [parts_flat] at this
  exact this
set_option maxRecDepth 100000
set_option maxHeartbeats 1000000 in
theorem plain_walk (w : World) : Calls Try.prog 8 #[] w fun e w' => ∃ v, e = .returned (.agg #[v]) ∧ Ops w' v plainB ∧ Below w.heap.size w w' := by
  have hA := alike1 (w0 := w.alloc (.cells #[.slice none 0 0] 25)) (Below.refl _ _)
  have hsz : (w.alloc (.cells #[.slice none 0 0] 25)).heap.size = w.heap.size + 1 := by simp
  rw [hsz] at hA
  have HA := Lib.hid hA
  clear hA hsz
  go_enter Try.func8, Try.ntmps8
  (go_wp2_with fail; go_fit (HA.out); rintro e w1 ⟨a1, c1, rfl, h1, _, hb1⟩)
  have H1 := Lib.hid h1
  have HB1 : Hid (Below (w.alloc (.cells #[.slice none 0 0] 25)).heap.size (w.alloc (.cells #[.slice none 0 0] 25)) w1) := Lib.hid (by simpa using hb1)
  clear h1 hb1
  (go_wp2_with fail; go_fit (alike2 HB1.out); rintro e w2 ⟨a2, c2, rfl, h2, hc2, hb2⟩)
  have H2 := Lib.hid h2; have HC2 := Lib.hid hc2; have HB2 := Lib.hid hb2
  clear h2 hc2 hb2
  (go_wp2_with fail; go_fit (alike3 HB2.out); rintro e w3 ⟨a3, c3, rfl, h3, hc3, hb3⟩)
  have H3 := Lib.hid h3; have HC3 := Lib.hid hc3; have HB3 := Lib.hid hb3
  clear h3 hc3 hb3
  (go_wp2_with fail; go_fit (alike4 HB3.out); rintro e w4 ⟨a4, c4, rfl, h4, hc4, hb4⟩)
  have H4 := Lib.hid h4; have HC4 := Lib.hid hc4; have HB4 := Lib.hid hb4
  clear h4 hc4 hb4
  (go_wp2_with fail; go_fit (alike5 HB4.out); rintro e w5 ⟨a5, c5, rfl, h5, hc5, hb5⟩)
  have H5 := Lib.hid h5; have HC5 := Lib.hid hc5; have HB5 := Lib.hid hb5
  clear h5 hc5 hb5
  (go_wp2_with fail; go_fit (alike6 HB5.out); rintro e w6 ⟨a6, c6, rfl, h6, hc6, hb6⟩)
  have H6 := Lib.hid h6; have HC6 := Lib.hid hc6; have HB6 := Lib.hid hb6
  clear h6 hc6 hb6
  (go_wp2_with fail; go_fit (alike7 HB6.out); rintro e w7 ⟨a7, c7, rfl, h7, hc7, hb7⟩)
  have H7 := Lib.hid h7; have HC7 := Lib.hid hc7; have HB7 := Lib.hid hb7
  clear h7 hc7 hb7
  (go_wp2_with fail; go_fit (alike8 HB7.out); rintro e w8 ⟨a8, c8, rfl, h8, hc8, hb8⟩)
  have H8 := Lib.hid h8; have HC8 := Lib.hid hc8; have HB8 := Lib.hid hb8
  clear h8 hc8 hb8
  (go_wp2_with fail; go_fit (alike9 HB8.out); rintro e w9 ⟨a9, c9, rfl, h9, hc9, hb9⟩)
  have H9 := Lib.hid h9; have HC9 := Lib.hid hc9; have HB9 := Lib.hid hb9
  clear h9 hc9 hb9
  (go_wp2_with fail; go_fit (alike10 HB9.out); rintro e w10 ⟨a10, c10, rfl, h10, hc10, hb10⟩)
  have H10 := Lib.hid h10; have HC10 := Lib.hid hc10; have HB10 := Lib.hid hb10
  clear h10 hc10 hb10
  have O10 := Lib.hid H10.out
  have O1 := Lib.hid (((((((((H1.out.ext HC2.out).ext HC3.out).ext HC4.out).ext HC5.out).ext HC6.out).ext HC7.out).ext HC8.out).ext HC9.out).ext HC10.out)
  have O2 := Lib.hid ((((((((H2.out.ext HC3.out).ext HC4.out).ext HC5.out).ext HC6.out).ext HC7.out).ext HC8.out).ext HC9.out).ext HC10.out)
  have O3 := Lib.hid (((((((H3.out.ext HC4.out).ext HC5.out).ext HC6.out).ext HC7.out).ext HC8.out).ext HC9.out).ext HC10.out)
  have O4 := Lib.hid ((((((H4.out.ext HC5.out).ext HC6.out).ext HC7.out).ext HC8.out).ext HC9.out).ext HC10.out)
  have O5 := Lib.hid (((((H5.out.ext HC6.out).ext HC7.out).ext HC8.out).ext HC9.out).ext HC10.out)
  have O6 := Lib.hid ((((H6.out.ext HC7.out).ext HC8.out).ext HC9.out).ext HC10.out)
  have O7 := Lib.hid (((H7.out.ext HC8.out).ext HC9.out).ext HC10.out)
  have O8 := Lib.hid ((H8.out.ext HC9.out).ext HC10.out)
  have O9 := Lib.hid (H9.out.ext HC10.out)
  clear HA H1 H2 H3 H4 H5 H6 H7 H8 H9 H10 HC2 HC3 HC4 HC5 HC6 HC7 HC8 HC9 HC10 HB1 HB2 HB3 HB4 HB5 HB6 HB7 HB8 HB9
  have hpl := parts_at w10 (.slice a1 1 c1) (.slice a2 1 c2) (.slice a3 1 c3) (.slice a4 1 c4) (.slice a5 1 c5) (.slice a6 16 c6) (.slice a7 5 c7) (.slice a8 6 c8) (.slice a9 1 c9) (.slice a10 2 c10)
  have HPL := Lib.hid hpl
  clear hpl
  have HPO : Hid (∀ p ∈ (parts (.slice a1 1 c1) (.slice a2 1 c2) (.slice a3 1 c3) (.slice a4 1 c4) (.slice a5 1 c5) (.slice a6 16 c6) (.slice a7 5 c7) (.slice a8 6 c8) (.slice a9 1 c9) (.slice a10 2 c10)), Ops (w10.alloc (.cells #[.slice a1 1 c1, .slice a2 1 c2, .slice a3 1 c3, .slice a4 1 c4, .slice a5 1 c5, .slice a6 16 c6, .slice a7 5 c7, .slice a8 6 c8, .slice a9 1 c9, .slice a10 2 c10] 23)) p.1 p.2) := Lib.hid (by
    intro p hp
    simp only [parts, List.mem_cons, List.not_mem_nil, or_false] at hp
    rcases hp with rfl | rfl | rfl | rfl | rfl | rfl | rfl | rfl | rfl | rfl
    
    · exact O1.out.ext (bel1' _ _)
    · exact O2.out.ext (bel1' _ _)
    · exact O3.out.ext (bel1' _ _)
    · exact O4.out.ext (bel1' _ _)
    · exact O5.out.ext (bel1' _ _)
    · exact O6.out.ext (bel1' _ _)
    · exact O7.out.ext (bel1' _ _)
    · exact O8.out.ext (bel1' _ _)
    · exact O9.out.ext (bel1' _ _)
    · exact O10.out.ext (bel1' _ _))
  (go_wp2_with fail; go_fit (concat_plain HPL.out HPO.out); rintro e w11 ⟨r, rfl, h11, hb11, hf11⟩)
  obtain ⟨ar, cr, rfl, _⟩ := h11.form
  have hpl : plainB.length = 35 := plain_len
  rw [hpl] at h11 ⊢
  clear hpl
  have HO := Lib.hid h11
  have hbw : Below (w.alloc (.cells #[.slice none 0 0] 25)).heap.size (w.alloc (.cells #[.slice none 0 0] 25)) w11 := Ext.trans' (Ext.trans' HB10.out (bel1' _ _)) hb11
  have e1 : w11.cell? ⟨w.heap.size, 0, none⟩ = some (.slice none 0 0) := cell_later hbw (by simp)
  have f1 : w11.frozen? ⟨w.heap.size, 0, none⟩ = false := (hbw.frozen (p := ⟨w.heap.size, 0, none⟩) (by simp)).trans (by simp)
  have HBW := Lib.hid (Below.trans (bel1' w _) (hbw.mono (by simp)))
  have HF := Lib.hid hf11
  have HS10 : Hid (w.heap.size + 1 ≤ w10.heap.size) := Lib.hid (by have := HB10.out.size; simpa using this)
  clear hbw hb11 h11 hf11
  go_wp2
  (try simp only [Exit.inBlock, Exit.then])
  refine bodyPost_ret (v := .agg #[.slice ar 35 cr]) (by simp [results, Try.f8]; go_simp) rfl ⟨_, rfl, ?_, ?_⟩
  · refine HO.out.set _ _ (fun h => ?_)
    have h' := HF.out _ h
    simp at h'
    have := HS10.out
    omega
  · exact HBW.out.setCell (Nat.le_refl _) _
end Go.Proofs.Ythalpdjnclfleaa
