/- Two, One, Cmp at every name: the program's and the document's. -/
import Derived.Test.YtcpfhjdjooakcaaDoorR2
namespace Go.Proofs.YtcpfhjdjooakcaaDoor
open Go.RowKit
set_option linter.unusedVariables false
set_option maxRecDepth 100000
theorem other {s t : ByteArray} (h : ¬ s = t) : (s.toList == t.toList) = false := by
  rw [Lib.toList_data, Lib.toList_data]
  exact beq_false_of_ne (fun e => h (bl_inj e))

def twoS (s : ByteArray) (a b : Int) : Int × Int := if s = ⟨#[43]⟩ then ex (a + b) else if s = ⟨#[45]⟩ then ex (a - b) else if s = ⟨#[42]⟩ then ex (a * b) else if s = ⟨#[47, 47]⟩ then quo a b else if s = ⟨#[114, 101, 109]⟩ then rmd a b else if s = ⟨#[109, 111, 100]⟩ then mdl a b else if s = ⟨#[47, 92]⟩ then (bits .and .i64 a b, 0) else if s = ⟨#[92, 47]⟩ then (bits .or .i64 a b, 0) else if s = ⟨#[120, 111, 114]⟩ then (bits .xor .i64 a b, 0) else if s = ⟨#[62, 62]⟩ then shr a b else if s = ⟨#[60, 60]⟩ then shl a b else if s = ⟨#[109, 105, 110]⟩ then (mn a b, 0) else if s = ⟨#[109, 97, 120]⟩ then (mx a b, 0) else if s = ⟨#[94]⟩ then power a b else (0, 1)
theorem two_else {s : ByteArray} {a b : Int} {w : World} (h0 : ¬ s = ⟨#[43]⟩) (h1 : ¬ s = ⟨#[45]⟩) (h2 : ¬ s = ⟨#[42]⟩) (h3 : ¬ s = ⟨#[47, 47]⟩) (h4 : ¬ s = ⟨#[114, 101, 109]⟩) (h5 : ¬ s = ⟨#[109, 111, 100]⟩) (h6 : ¬ s = ⟨#[47, 92]⟩) (h7 : ¬ s = ⟨#[92, 47]⟩) (h8 : ¬ s = ⟨#[120, 111, 114]⟩) (h9 : ¬ s = ⟨#[62, 62]⟩) (h10 : ¬ s = ⟨#[60, 60]⟩) (h11 : ¬ s = ⟨#[109, 105, 110]⟩) (h12 : ¬ s = ⟨#[109, 97, 120]⟩) (h13 : ¬ s = ⟨#[94]⟩) : Calls Tryd.prog 15 #[.string s, .int .i64 a, .int .i64 b] w fun e w' => e = Ret2 (0, 1) ∧ w = w' := by
  have g0 : (s.toList == [43]) = false := by have := other h0; rw [Lib.toList_data ⟨#[43]⟩] at this; exact this
  have g1 : (s.toList == [45]) = false := by have := other h1; rw [Lib.toList_data ⟨#[45]⟩] at this; exact this
  have g2 : (s.toList == [42]) = false := by have := other h2; rw [Lib.toList_data ⟨#[42]⟩] at this; exact this
  have g3 : (s.toList == [47, 47]) = false := by have := other h3; rw [Lib.toList_data ⟨#[47, 47]⟩] at this; exact this
  have g4 : (s.toList == [114, 101, 109]) = false := by have := other h4; rw [Lib.toList_data ⟨#[114, 101, 109]⟩] at this; exact this
  have g5 : (s.toList == [109, 111, 100]) = false := by have := other h5; rw [Lib.toList_data ⟨#[109, 111, 100]⟩] at this; exact this
  have g6 : (s.toList == [47, 92]) = false := by have := other h6; rw [Lib.toList_data ⟨#[47, 92]⟩] at this; exact this
  have g7 : (s.toList == [92, 47]) = false := by have := other h7; rw [Lib.toList_data ⟨#[92, 47]⟩] at this; exact this
  have g8 : (s.toList == [120, 111, 114]) = false := by have := other h8; rw [Lib.toList_data ⟨#[120, 111, 114]⟩] at this; exact this
  have g9 : (s.toList == [62, 62]) = false := by have := other h9; rw [Lib.toList_data ⟨#[62, 62]⟩] at this; exact this
  have g10 : (s.toList == [60, 60]) = false := by have := other h10; rw [Lib.toList_data ⟨#[60, 60]⟩] at this; exact this
  have g11 : (s.toList == [109, 105, 110]) = false := by have := other h11; rw [Lib.toList_data ⟨#[109, 105, 110]⟩] at this; exact this
  have g12 : (s.toList == [109, 97, 120]) = false := by have := other h12; rw [Lib.toList_data ⟨#[109, 97, 120]⟩] at this; exact this
  have g13 : (s.toList == [94]) = false := by have := other h13; rw [Lib.toList_data ⟨#[94]⟩] at this; exact this
  clear h0 h1 h2 h3 h4 h5 h6 h7 h8 h9 h10 h11 h12 h13
  go_enter Tryd.func15, Tryd.ntmps15
  go_wp2
  go_ret2
  exact ⟨rfl, rfl⟩

theorem r_else {s : ByteArray} {a b : Int} {w : World} (h0 : ¬ s = ⟨#[43]⟩) (h1 : ¬ s = ⟨#[45]⟩) (h2 : ¬ s = ⟨#[42]⟩) (h3 : ¬ s = ⟨#[47, 47]⟩) (h4 : ¬ s = ⟨#[114, 101, 109]⟩) (h5 : ¬ s = ⟨#[109, 111, 100]⟩) (h6 : ¬ s = ⟨#[47, 92]⟩) (h7 : ¬ s = ⟨#[92, 47]⟩) (h8 : ¬ s = ⟨#[120, 111, 114]⟩) (h9 : ¬ s = ⟨#[62, 62]⟩) (h10 : ¬ s = ⟨#[60, 60]⟩) (h11 : ¬ s = ⟨#[109, 105, 110]⟩) (h12 : ¬ s = ⟨#[109, 97, 120]⟩) (h13 : ¬ s = ⟨#[94]⟩) : Calls Tryd.prog 17 #[.string s, .int .i64 a, .int .i64 b] w fun e w' => e = Ret2 (0, 1) ∧ w = w' := by
  have g0 : (s.toList == [43]) = false := by have := other h0; rw [Lib.toList_data ⟨#[43]⟩] at this; exact this
  have g1 : (s.toList == [45]) = false := by have := other h1; rw [Lib.toList_data ⟨#[45]⟩] at this; exact this
  have g2 : (s.toList == [42]) = false := by have := other h2; rw [Lib.toList_data ⟨#[42]⟩] at this; exact this
  have g3 : (s.toList == [47, 47]) = false := by have := other h3; rw [Lib.toList_data ⟨#[47, 47]⟩] at this; exact this
  have g4 : (s.toList == [114, 101, 109]) = false := by have := other h4; rw [Lib.toList_data ⟨#[114, 101, 109]⟩] at this; exact this
  have g5 : (s.toList == [109, 111, 100]) = false := by have := other h5; rw [Lib.toList_data ⟨#[109, 111, 100]⟩] at this; exact this
  have g6 : (s.toList == [47, 92]) = false := by have := other h6; rw [Lib.toList_data ⟨#[47, 92]⟩] at this; exact this
  have g7 : (s.toList == [92, 47]) = false := by have := other h7; rw [Lib.toList_data ⟨#[92, 47]⟩] at this; exact this
  have g8 : (s.toList == [120, 111, 114]) = false := by have := other h8; rw [Lib.toList_data ⟨#[120, 111, 114]⟩] at this; exact this
  have g9 : (s.toList == [62, 62]) = false := by have := other h9; rw [Lib.toList_data ⟨#[62, 62]⟩] at this; exact this
  have g10 : (s.toList == [60, 60]) = false := by have := other h10; rw [Lib.toList_data ⟨#[60, 60]⟩] at this; exact this
  have g11 : (s.toList == [109, 105, 110]) = false := by have := other h11; rw [Lib.toList_data ⟨#[109, 105, 110]⟩] at this; exact this
  have g12 : (s.toList == [109, 97, 120]) = false := by have := other h12; rw [Lib.toList_data ⟨#[109, 97, 120]⟩] at this; exact this
  have g13 : (s.toList == [94]) = false := by have := other h13; rw [Lib.toList_data ⟨#[94]⟩] at this; exact this
  clear h0 h1 h2 h3 h4 h5 h6 h7 h8 h9 h10 h11 h12 h13
  go_enter Tryd.func17, Tryd.ntmps17
  go_wp2
  go_ret2
  exact ⟨rfl, rfl⟩
theorem r_quo {a b : Int} {w : World} (ha : R a) (hb : R b) : Calls Tryd.prog 17 #[.string ⟨#[47, 47]⟩, .int .i64 a, .int .i64 b] w fun e w' => e = Ret2 (quo a b) ∧ w = w' := by
  have H := @d_quo a b w ha hb
  generalize quo a b = y at H
  obtain ⟨y1, y2⟩ := y
  go_enter Tryd.func17, Tryd.ntmps17
  go_wp2_with (go_at_call 37; go_fit (H); rintro e w' ⟨rfl, rfl⟩)
  go_ret2
  exact ⟨rfl, rfl⟩
theorem r_rem {a b : Int} {w : World} (ha : R a) (hb : R b) : Calls Tryd.prog 17 #[.string ⟨#[114, 101, 109]⟩, .int .i64 a, .int .i64 b] w fun e w' => e = Ret2 (rmd a b) ∧ w = w' := by
  have H := @d_rem a b w ha hb
  generalize rmd a b = y at H
  obtain ⟨y1, y2⟩ := y
  go_enter Tryd.func17, Tryd.ntmps17
  go_wp2_with (go_at_call 37; go_fit (H); rintro e w' ⟨rfl, rfl⟩)
  go_ret2
  exact ⟨rfl, rfl⟩
theorem r_mod {a b : Int} {w : World} (ha : R a) (hb : R b) : Calls Tryd.prog 17 #[.string ⟨#[109, 111, 100]⟩, .int .i64 a, .int .i64 b] w fun e w' => e = Ret2 (mdl a b) ∧ w = w' := by
  have H := @d_mod a b w ha hb
  generalize mdl a b = y at H
  obtain ⟨y1, y2⟩ := y
  go_enter Tryd.func17, Tryd.ntmps17
  go_wp2_with (go_at_call 37; go_fit (H); rintro e w' ⟨rfl, rfl⟩)
  go_ret2
  exact ⟨rfl, rfl⟩
theorem r_shr {a b : Int} {w : World} (ha : R a) (hb : R b) : Calls Tryd.prog 17 #[.string ⟨#[62, 62]⟩, .int .i64 a, .int .i64 b] w fun e w' => e = Ret2 (shr a b) ∧ w = w' := by
  have H := @s_shr a b w ha hb
  generalize shr a b = y at H
  obtain ⟨y1, y2⟩ := y
  go_enter Tryd.func17, Tryd.ntmps17
  go_wp2_with (go_at_call 38; go_fit (H); rintro e w' ⟨rfl, rfl⟩)
  go_ret2
  exact ⟨rfl, rfl⟩
theorem r_shl {a b : Int} {w : World} (ha : R a) (hb : R b) : Calls Tryd.prog 17 #[.string ⟨#[60, 60]⟩, .int .i64 a, .int .i64 b] w fun e w' => e = Ret2 (shl a b) ∧ w = w' := by
  have H := @s_shl a b w ha hb
  generalize shl a b = y at H
  obtain ⟨y1, y2⟩ := y
  go_enter Tryd.func17, Tryd.ntmps17
  go_wp2_with (go_at_call 38; go_fit (H); rintro e w' ⟨rfl, rfl⟩)
  go_ret2
  exact ⟨rfl, rfl⟩
theorem r_pow {a b : Int} {w : World} (ha : R a) (hb : R b) : Calls Tryd.prog 17 #[.string ⟨#[94]⟩, .int .i64 a, .int .i64 b] w fun e w' => e = Ret2 (power a b) ∧ w = w' := by
  have H := @r_power a b w ha hb
  generalize power a b = y at H
  obtain ⟨y1, y2⟩ := y
  go_enter Tryd.func17, Tryd.ntmps17
  go_wp2_with (go_at_call 39; go_fit (H); rintro e w' ⟨rfl, rfl⟩)
  go_ret2
  exact ⟨rfl, rfl⟩
theorem r_and {a b : Int} {w : World} : Calls Tryd.prog 17 #[.string ⟨#[47, 92]⟩, .int .i64 a, .int .i64 b] w fun e w' => e = Ret2 ((bits .and .i64 a b, 0)) ∧ w = w' := by
  go_enter Tryd.func17, Tryd.ntmps17
  go_wp2
  go_ret2
  exact ⟨rfl, rfl⟩
theorem r_or {a b : Int} {w : World} : Calls Tryd.prog 17 #[.string ⟨#[92, 47]⟩, .int .i64 a, .int .i64 b] w fun e w' => e = Ret2 ((bits .or .i64 a b, 0)) ∧ w = w' := by
  go_enter Tryd.func17, Tryd.ntmps17
  go_wp2
  go_ret2
  exact ⟨rfl, rfl⟩
theorem r_xor {a b : Int} {w : World} : Calls Tryd.prog 17 #[.string ⟨#[120, 111, 114]⟩, .int .i64 a, .int .i64 b] w fun e w' => e = Ret2 ((bits .xor .i64 a b, 0)) ∧ w = w' := by
  go_enter Tryd.func17, Tryd.ntmps17
  go_wp2
  go_ret2
  exact ⟨rfl, rfl⟩
theorem r_min {a b : Int} {w : World} : Calls Tryd.prog 17 #[.string ⟨#[109, 105, 110]⟩, .int .i64 a, .int .i64 b] w fun e w' => e = Ret2 ((mn a b, 0)) ∧ w = w' := by
  unfold mn
  by_cases h : b < a
  · rw [if_pos h]
    go_enter Tryd.func17, Tryd.ntmps17
    go_wp2
    go_ret2
    exact ⟨rfl, rfl⟩
  · rw [if_neg h]
    go_enter Tryd.func17, Tryd.ntmps17
    go_wp2
    go_ret2
    exact ⟨rfl, rfl⟩
theorem r_max {a b : Int} {w : World} : Calls Tryd.prog 17 #[.string ⟨#[109, 97, 120]⟩, .int .i64 a, .int .i64 b] w fun e w' => e = Ret2 ((mx a b, 0)) ∧ w = w' := by
  unfold mx
  by_cases h : a < b
  · rw [if_pos h]
    go_enter Tryd.func17, Tryd.ntmps17
    go_wp2
    go_ret2
    exact ⟨rfl, rfl⟩
  · rw [if_neg h]
    go_enter Tryd.func17, Tryd.ntmps17
    go_wp2
    go_ret2
    exact ⟨rfl, rfl⟩
theorem two_any (s : ByteArray) {a b : Int} {w : World} (ha : R a) (hb : R b) : Calls Tryd.prog 15 #[.string s, .int .i64 a, .int .i64 b] w fun e w' => e = Ret2 (twoS s a b) ∧ w = w' := by
  unfold twoS
  by_cases h0 : s = ⟨#[43]⟩
  · rw [if_pos h0]; subst h0; exact two_add ha hb
  rw [if_neg h0]
  by_cases h1 : s = ⟨#[45]⟩
  · rw [if_pos h1]; subst h1; exact two_sub ha hb
  rw [if_neg h1]
  by_cases h2 : s = ⟨#[42]⟩
  · rw [if_pos h2]; subst h2; exact two_mul ha hb
  rw [if_neg h2]
  by_cases h3 : s = ⟨#[47, 47]⟩
  · rw [if_pos h3]; subst h3; exact two_quo ha hb
  rw [if_neg h3]
  by_cases h4 : s = ⟨#[114, 101, 109]⟩
  · rw [if_pos h4]; subst h4; exact two_rem ha hb
  rw [if_neg h4]
  by_cases h5 : s = ⟨#[109, 111, 100]⟩
  · rw [if_pos h5]; subst h5; exact two_mod ha hb
  rw [if_neg h5]
  by_cases h6 : s = ⟨#[47, 92]⟩
  · rw [if_pos h6]; subst h6; exact two_and
  rw [if_neg h6]
  by_cases h7 : s = ⟨#[92, 47]⟩
  · rw [if_pos h7]; subst h7; exact two_or
  rw [if_neg h7]
  by_cases h8 : s = ⟨#[120, 111, 114]⟩
  · rw [if_pos h8]; subst h8; exact two_xor
  rw [if_neg h8]
  by_cases h9 : s = ⟨#[62, 62]⟩
  · rw [if_pos h9]; subst h9; exact two_shr ha hb
  rw [if_neg h9]
  by_cases h10 : s = ⟨#[60, 60]⟩
  · rw [if_pos h10]; subst h10; exact two_shl ha hb
  rw [if_neg h10]
  by_cases h11 : s = ⟨#[109, 105, 110]⟩
  · rw [if_pos h11]; subst h11; exact two_min
  rw [if_neg h11]
  by_cases h12 : s = ⟨#[109, 97, 120]⟩
  · rw [if_pos h12]; subst h12; exact two_max
  rw [if_neg h12]
  by_cases h13 : s = ⟨#[94]⟩
  · rw [if_pos h13]; subst h13; exact two_pow ha hb
  rw [if_neg h13]
  exact two_else h0 h1 h2 h3 h4 h5 h6 h7 h8 h9 h10 h11 h12 h13
theorem r_any (s : ByteArray) {a b : Int} {w : World} (ha : R a) (hb : R b) : Calls Tryd.prog 17 #[.string s, .int .i64 a, .int .i64 b] w fun e w' => e = Ret2 (twoS s a b) ∧ w = w' := by
  unfold twoS
  by_cases h0 : s = ⟨#[43]⟩
  · rw [if_pos h0]; subst h0; exact r_add ha hb
  rw [if_neg h0]
  by_cases h1 : s = ⟨#[45]⟩
  · rw [if_pos h1]; subst h1; exact r_sub ha hb
  rw [if_neg h1]
  by_cases h2 : s = ⟨#[42]⟩
  · rw [if_pos h2]; subst h2; exact r_mul ha hb
  rw [if_neg h2]
  by_cases h3 : s = ⟨#[47, 47]⟩
  · rw [if_pos h3]; subst h3; exact r_quo ha hb
  rw [if_neg h3]
  by_cases h4 : s = ⟨#[114, 101, 109]⟩
  · rw [if_pos h4]; subst h4; exact r_rem ha hb
  rw [if_neg h4]
  by_cases h5 : s = ⟨#[109, 111, 100]⟩
  · rw [if_pos h5]; subst h5; exact r_mod ha hb
  rw [if_neg h5]
  by_cases h6 : s = ⟨#[47, 92]⟩
  · rw [if_pos h6]; subst h6; exact r_and
  rw [if_neg h6]
  by_cases h7 : s = ⟨#[92, 47]⟩
  · rw [if_pos h7]; subst h7; exact r_or
  rw [if_neg h7]
  by_cases h8 : s = ⟨#[120, 111, 114]⟩
  · rw [if_pos h8]; subst h8; exact r_xor
  rw [if_neg h8]
  by_cases h9 : s = ⟨#[62, 62]⟩
  · rw [if_pos h9]; subst h9; exact r_shr ha hb
  rw [if_neg h9]
  by_cases h10 : s = ⟨#[60, 60]⟩
  · rw [if_pos h10]; subst h10; exact r_shl ha hb
  rw [if_neg h10]
  by_cases h11 : s = ⟨#[109, 105, 110]⟩
  · rw [if_pos h11]; subst h11; exact r_min
  rw [if_neg h11]
  by_cases h12 : s = ⟨#[109, 97, 120]⟩
  · rw [if_pos h12]; subst h12; exact r_max
  rw [if_neg h12]
  by_cases h13 : s = ⟨#[94]⟩
  · rw [if_pos h13]; subst h13; exact r_pow ha hb
  rw [if_neg h13]
  exact r_else h0 h1 h2 h3 h4 h5 h6 h7 h8 h9 h10 h11 h12 h13
def sg (a : Int) : Int := if a < 0 then -1 else if 0 < a then 1 else 0
def oneS (s : ByteArray) (a : Int) : Int × Int := if s = ⟨#[45]⟩ then ex (0 - a) else if s = ⟨#[43]⟩ then (a, 0) else if s = ⟨#[97, 98, 115]⟩ then (if a < 0 then ex (0 - a) else (a, 0)) else if s = ⟨#[115, 105, 103, 110]⟩ then (sg a, 0) else if s = ⟨#[92]⟩ then (-1 - a, 0) else (0, 1)
theorem one_else {s : ByteArray} {a : Int} {w : World} (h0 : ¬ s = ⟨#[45]⟩) (h1 : ¬ s = ⟨#[43]⟩) (h2 : ¬ s = ⟨#[97, 98, 115]⟩) (h3 : ¬ s = ⟨#[115, 105, 103, 110]⟩) (h4 : ¬ s = ⟨#[92]⟩) : Calls Tryd.prog 12 #[.string s, .int .i64 a] w fun e w' => e = Ret2 (0, 1) ∧ w = w' := by
  have g0 : (s.toList == [45]) = false := by have := other h0; rw [Lib.toList_data ⟨#[45]⟩] at this; exact this
  have g1 : (s.toList == [43]) = false := by have := other h1; rw [Lib.toList_data ⟨#[43]⟩] at this; exact this
  have g2 : (s.toList == [97, 98, 115]) = false := by have := other h2; rw [Lib.toList_data ⟨#[97, 98, 115]⟩] at this; exact this
  have g3 : (s.toList == [115, 105, 103, 110]) = false := by have := other h3; rw [Lib.toList_data ⟨#[115, 105, 103, 110]⟩] at this; exact this
  have g4 : (s.toList == [92]) = false := by have := other h4; rw [Lib.toList_data ⟨#[92]⟩] at this; exact this
  clear h0 h1 h2 h3 h4
  go_enter Tryd.func12, Tryd.ntmps12
  go_wp2
  go_ret2
  exact ⟨rfl, rfl⟩
theorem o_else {s : ByteArray} {a : Int} {w : World} (h0 : ¬ s = ⟨#[45]⟩) (h1 : ¬ s = ⟨#[43]⟩) (h2 : ¬ s = ⟨#[97, 98, 115]⟩) (h3 : ¬ s = ⟨#[115, 105, 103, 110]⟩) (h4 : ¬ s = ⟨#[92]⟩) : Calls Tryd.prog 18 #[.string s, .int .i64 a] w fun e w' => e = Ret2 (0, 1) ∧ w = w' := by
  have g0 : (s.toList == [45]) = false := by have := other h0; rw [Lib.toList_data ⟨#[45]⟩] at this; exact this
  have g1 : (s.toList == [43]) = false := by have := other h1; rw [Lib.toList_data ⟨#[43]⟩] at this; exact this
  have g2 : (s.toList == [97, 98, 115]) = false := by have := other h2; rw [Lib.toList_data ⟨#[97, 98, 115]⟩] at this; exact this
  have g3 : (s.toList == [115, 105, 103, 110]) = false := by have := other h3; rw [Lib.toList_data ⟨#[115, 105, 103, 110]⟩] at this; exact this
  have g4 : (s.toList == [92]) = false := by have := other h4; rw [Lib.toList_data ⟨#[92]⟩] at this; exact this
  clear h0 h1 h2 h3 h4
  go_enter Tryd.func18, Tryd.ntmps18
  go_wp2
  go_ret2
  exact ⟨rfl, rfl⟩
theorem one_plus {a : Int} {w : World} : Calls Tryd.prog 12 #[.string ⟨#[43]⟩, .int .i64 a] w fun e w' => e = Ret2 (a, 0) ∧ w = w' := by
  go_enter Tryd.func12, Tryd.ntmps12
  go_wp2
  go_ret2
  exact ⟨rfl, rfl⟩
theorem sign_at {a : Int} {w : World} : Calls Tryd.prog 23 #[.int .i64 a] w fun e w' => e = .returned (.int .i64 (sg a)) ∧ w = w' := by
  unfold sg
  by_cases h : a < 0
  · rw [if_pos h]
    go_enter Tryd.func23, Tryd.ntmps23
    go_wp2
    go_ret
    exact ⟨rfl, rfl⟩
  rw [if_neg h]
  by_cases h1 : 0 < a
  · rw [if_pos h1]
    by_cases h2 : 1 < a
    · have m : min a 1 = 1 := by omega
      go_enter Tryd.func23, Tryd.ntmps23
      go_wp2
      go_ret
      exact ⟨rfl, rfl⟩
    · obtain rfl : a = 1 := by omega
      go_enter Tryd.func23, Tryd.ntmps23
      go_wp2
      go_ret
      exact ⟨rfl, rfl⟩
  · obtain rfl : a = 0 := by omega
    go_enter Tryd.func23, Tryd.ntmps23
    go_wp2
    go_ret
    exact ⟨rfl, rfl⟩
theorem one_sign {a : Int} {w : World} : Calls Tryd.prog 12 #[.string ⟨#[115, 105, 103, 110]⟩, .int .i64 a] w fun e w' => e = Ret2 (sg a, 0) ∧ w = w' := by
  have H := fun w => @sign_at a w
  generalize sg a = y at H
  go_enter Tryd.func12, Tryd.ntmps12
  go_wp2_with (go_at_call 23; go_fit (H _); rintro e w' ⟨rfl, rfl⟩)
  go_ret2
  exact ⟨rfl, rfl⟩
theorem o_neg {a : Int} {w : World} (ha : R a) : Calls Tryd.prog 18 #[.string ⟨#[45]⟩, .int .i64 a] w fun e w' => e = Ret2 (ex (0 - a)) ∧ w = w' := by
  have L := fun w => @least_at w
  by_cases h2 : a = -9223372036854775808
  · subst h2
    rw [ex_out (by decide +kernel)]
    go_enter Tryd.func18, Tryd.ntmps18
    go_wp2_with (go_at_call 36; go_fit (L _); rintro e w' ⟨rfl, rfl⟩)
    go_ret2
    exact ⟨rfl, rfl⟩
  · obtain ⟨n1, n2⟩ := neg_wrap ha h2
    rw [ex_in (by unfold R at *; omega)]
    have g : (a == -9223372036854775808) = false := beq_false_of_ne h2
    have n3 : 0 - a = -a := by omega
    rw [n3] at *
    go_enter Tryd.func18, Tryd.ntmps18
    go_wp2_with (go_at_call 36; go_fit (L _); rintro e w' ⟨rfl, rfl⟩)
    go_ret2
    exact ⟨rfl, rfl⟩
theorem o_abs {a : Int} {w : World} (ha : R a) : Calls Tryd.prog 18 #[.string ⟨#[97, 98, 115]⟩, .int .i64 a] w fun e w' => e = Ret2 (if a < 0 then ex (0 - a) else (a, 0)) ∧ w = w' := by
  have L := fun w => @least_at w
  by_cases h2 : a = -9223372036854775808
  · subst h2
    rw [if_pos (by decide), ex_out (by decide +kernel)]
    go_enter Tryd.func18, Tryd.ntmps18
    go_wp2_with (go_at_call 36; go_fit (L _); rintro e w' ⟨rfl, rfl⟩)
    go_ret2
    exact ⟨rfl, rfl⟩
  · have g : (a == -9223372036854775808) = false := beq_false_of_ne h2
    by_cases h : a < 0
    · obtain ⟨n1, n2⟩ := neg_wrap ha h2
      rw [if_pos h, ex_in (by unfold R at *; omega)]
      have n3 : 0 - a = -a := by omega
      rw [n3] at *
      go_enter Tryd.func18, Tryd.ntmps18
      go_wp2_with (go_at_call 36; go_fit (L _); rintro e w' ⟨rfl, rfl⟩)
      go_ret2
      exact ⟨rfl, rfl⟩
    · rw [if_neg h]
      go_enter Tryd.func18, Tryd.ntmps18
      go_wp2_with (go_at_call 36; go_fit (L _); rintro e w' ⟨rfl, rfl⟩)
      go_ret2
      exact ⟨rfl, rfl⟩
theorem o_plus {a : Int} {w : World} : Calls Tryd.prog 18 #[.string ⟨#[43]⟩, .int .i64 a] w fun e w' => e = Ret2 (a, 0) ∧ w = w' := by
  go_enter Tryd.func18, Tryd.ntmps18
  go_wp2
  go_ret2
  exact ⟨rfl, rfl⟩
theorem o_sign {a : Int} {w : World} : Calls Tryd.prog 18 #[.string ⟨#[115, 105, 103, 110]⟩, .int .i64 a] w fun e w' => e = Ret2 (sg a, 0) ∧ w = w' := by
  unfold sg
  by_cases h : a < 0
  · rw [if_pos h]
    go_enter Tryd.func18, Tryd.ntmps18
    go_wp2
    go_ret2
    exact ⟨rfl, rfl⟩
  rw [if_neg h]
  by_cases h1 : 0 < a
  · rw [if_pos h1]
    go_enter Tryd.func18, Tryd.ntmps18
    go_wp2
    go_ret2
    exact ⟨rfl, rfl⟩
  · rw [if_neg h1]
    go_enter Tryd.func18, Tryd.ntmps18
    go_wp2
    go_ret2
    exact ⟨rfl, rfl⟩
theorem o_tilde {a : Int} {w : World} (ha : R a) : Calls Tryd.prog 18 #[.string ⟨#[92]⟩, .int .i64 a] w fun e w' => e = Ret2 (-1 - a, 0) ∧ w = w' := by
  have h : IntKind.i64.wrap (-1 - a) = -1 - a := wrap_in (by unfold R at *; omega)
  go_enter Tryd.func18, Tryd.ntmps18
  go_wp2
  go_ret2
  exact ⟨rfl, rfl⟩
theorem one_any (s : ByteArray) {a : Int} {w : World} (ha : R a) : Calls Tryd.prog 12 #[.string s, .int .i64 a] w fun e w' => e = Ret2 (oneS s a) ∧ w = w' := by
  unfold oneS
  by_cases h0 : s = ⟨#[45]⟩
  · rw [if_pos h0]; subst h0; exact one_neg ha
  rw [if_neg h0]
  by_cases h1 : s = ⟨#[43]⟩
  · rw [if_pos h1]; subst h1; exact one_plus
  rw [if_neg h1]
  by_cases h2 : s = ⟨#[97, 98, 115]⟩
  · rw [if_pos h2]; subst h2; exact one_abs ha
  rw [if_neg h2]
  by_cases h3 : s = ⟨#[115, 105, 103, 110]⟩
  · rw [if_pos h3]; subst h3; exact one_sign
  rw [if_neg h3]
  by_cases h4 : s = ⟨#[92]⟩
  · rw [if_pos h4]; subst h4; exact one_tilde ha
  rw [if_neg h4]
  exact one_else h0 h1 h2 h3 h4
theorem o_any (s : ByteArray) {a : Int} {w : World} (ha : R a) : Calls Tryd.prog 18 #[.string s, .int .i64 a] w fun e w' => e = Ret2 (oneS s a) ∧ w = w' := by
  unfold oneS
  by_cases h0 : s = ⟨#[45]⟩
  · rw [if_pos h0]; subst h0; exact o_neg ha
  rw [if_neg h0]
  by_cases h1 : s = ⟨#[43]⟩
  · rw [if_pos h1]; subst h1; exact o_plus
  rw [if_neg h1]
  by_cases h2 : s = ⟨#[97, 98, 115]⟩
  · rw [if_pos h2]; subst h2; exact o_abs ha
  rw [if_neg h2]
  by_cases h3 : s = ⟨#[115, 105, 103, 110]⟩
  · rw [if_pos h3]; subst h3; exact o_sign
  rw [if_neg h3]
  by_cases h4 : s = ⟨#[92]⟩
  · rw [if_pos h4]; subst h4; exact o_tilde ha
  rw [if_neg h4]
  exact o_else h0 h1 h2 h3 h4
def cmpS (s : ByteArray) (a b : Int) : Bool × Int := if s = ⟨#[61, 58, 61]⟩ then (a == b, 0) else if s = ⟨#[61, 92, 61]⟩ then (a != b, 0) else if s = ⟨#[60]⟩ then (decide (a < b), 0) else if s = ⟨#[62]⟩ then (decide (b < a), 0) else if s = ⟨#[61, 60]⟩ then (decide (a ≤ b), 0) else if s = ⟨#[62, 61]⟩ then (decide (b ≤ a), 0) else (false, 1)
abbrev RetC (x : Bool × Int) : Ending := .returned (.tuple #[.bool x.1, .int .i64 x.2])
theorem cmp_else {s : ByteArray} {a b : Int} {w : World} (h0 : ¬ s = ⟨#[61, 58, 61]⟩) (h1 : ¬ s = ⟨#[61, 92, 61]⟩) (h2 : ¬ s = ⟨#[60]⟩) (h3 : ¬ s = ⟨#[62]⟩) (h4 : ¬ s = ⟨#[61, 60]⟩) (h5 : ¬ s = ⟨#[62, 61]⟩) : Calls Tryd.prog 13 #[.string s, .int .i64 a, .int .i64 b] w fun e w' => e = RetC (false, 1) ∧ w = w' := by
  have g0 : (s.toList == [61, 58, 61]) = false := by have := other h0; rw [Lib.toList_data ⟨#[61, 58, 61]⟩] at this; exact this
  have g1 : (s.toList == [61, 92, 61]) = false := by have := other h1; rw [Lib.toList_data ⟨#[61, 92, 61]⟩] at this; exact this
  have g2 : (s.toList == [60]) = false := by have := other h2; rw [Lib.toList_data ⟨#[60]⟩] at this; exact this
  have g3 : (s.toList == [62]) = false := by have := other h3; rw [Lib.toList_data ⟨#[62]⟩] at this; exact this
  have g4 : (s.toList == [61, 60]) = false := by have := other h4; rw [Lib.toList_data ⟨#[61, 60]⟩] at this; exact this
  have g5 : (s.toList == [62, 61]) = false := by have := other h5; rw [Lib.toList_data ⟨#[62, 61]⟩] at this; exact this
  clear h0 h1 h2 h3 h4 h5
  go_enter Tryd.func13, Tryd.ntmps13
  go_wp2
  go_ret2
  exact ⟨rfl, rfl⟩
theorem c_else {s : ByteArray} {a b : Int} {w : World} (h0 : ¬ s = ⟨#[61, 58, 61]⟩) (h1 : ¬ s = ⟨#[61, 92, 61]⟩) (h2 : ¬ s = ⟨#[60]⟩) (h3 : ¬ s = ⟨#[62]⟩) (h4 : ¬ s = ⟨#[61, 60]⟩) (h5 : ¬ s = ⟨#[62, 61]⟩) : Calls Tryd.prog 19 #[.string s, .int .i64 a, .int .i64 b] w fun e w' => e = RetC (false, 1) ∧ w = w' := by
  have g0 : (s.toList == [61, 58, 61]) = false := by have := other h0; rw [Lib.toList_data ⟨#[61, 58, 61]⟩] at this; exact this
  have g1 : (s.toList == [61, 92, 61]) = false := by have := other h1; rw [Lib.toList_data ⟨#[61, 92, 61]⟩] at this; exact this
  have g2 : (s.toList == [60]) = false := by have := other h2; rw [Lib.toList_data ⟨#[60]⟩] at this; exact this
  have g3 : (s.toList == [62]) = false := by have := other h3; rw [Lib.toList_data ⟨#[62]⟩] at this; exact this
  have g4 : (s.toList == [61, 60]) = false := by have := other h4; rw [Lib.toList_data ⟨#[61, 60]⟩] at this; exact this
  have g5 : (s.toList == [62, 61]) = false := by have := other h5; rw [Lib.toList_data ⟨#[62, 61]⟩] at this; exact this
  clear h0 h1 h2 h3 h4 h5
  go_enter Tryd.func19, Tryd.ntmps19
  go_wp2
  go_ret2
  exact ⟨rfl, rfl⟩
theorem c_eq {a b : Int} {w : World} : Calls Tryd.prog 19 #[.string ⟨#[61, 58, 61]⟩, .int .i64 a, .int .i64 b] w fun e w' => e = RetC (a == b, 0) ∧ w = w' := by
  go_enter Tryd.func19, Tryd.ntmps19
  go_wp2
  go_ret2
  exact ⟨rfl, rfl⟩
theorem c_ne {a b : Int} {w : World} : Calls Tryd.prog 19 #[.string ⟨#[61, 92, 61]⟩, .int .i64 a, .int .i64 b] w fun e w' => e = RetC (a != b, 0) ∧ w = w' := by
  go_enter Tryd.func19, Tryd.ntmps19
  go_wp2
  go_ret2
  exact ⟨rfl, rfl⟩
theorem c_lt {a b : Int} {w : World} : Calls Tryd.prog 19 #[.string ⟨#[60]⟩, .int .i64 a, .int .i64 b] w fun e w' => e = RetC (decide (a < b), 0) ∧ w = w' := by
  go_enter Tryd.func19, Tryd.ntmps19
  go_wp2
  go_ret2
  exact ⟨rfl, rfl⟩
theorem c_gt {a b : Int} {w : World} : Calls Tryd.prog 19 #[.string ⟨#[62]⟩, .int .i64 a, .int .i64 b] w fun e w' => e = RetC (decide (b < a), 0) ∧ w = w' := by
  go_enter Tryd.func19, Tryd.ntmps19
  go_wp2
  go_ret2
  exact ⟨rfl, rfl⟩
theorem c_le {a b : Int} {w : World} : Calls Tryd.prog 19 #[.string ⟨#[61, 60]⟩, .int .i64 a, .int .i64 b] w fun e w' => e = RetC (decide (a ≤ b), 0) ∧ w = w' := by
  go_enter Tryd.func19, Tryd.ntmps19
  go_wp2
  go_ret2
  exact ⟨rfl, rfl⟩
theorem c_ge {a b : Int} {w : World} : Calls Tryd.prog 19 #[.string ⟨#[62, 61]⟩, .int .i64 a, .int .i64 b] w fun e w' => e = RetC (decide (b ≤ a), 0) ∧ w = w' := by
  go_enter Tryd.func19, Tryd.ntmps19
  go_wp2
  go_ret2
  exact ⟨rfl, rfl⟩
theorem cmp_any (s : ByteArray) {a b : Int} {w : World} : Calls Tryd.prog 13 #[.string s, .int .i64 a, .int .i64 b] w fun e w' => e = RetC (cmpS s a b) ∧ w = w' := by
  unfold cmpS
  by_cases h0 : s = ⟨#[61, 58, 61]⟩
  · rw [if_pos h0]; subst h0; exact cmp_eq
  rw [if_neg h0]
  by_cases h1 : s = ⟨#[61, 92, 61]⟩
  · rw [if_pos h1]; subst h1; exact cmp_ne
  rw [if_neg h1]
  by_cases h2 : s = ⟨#[60]⟩
  · rw [if_pos h2]; subst h2; exact cmp_lt
  rw [if_neg h2]
  by_cases h3 : s = ⟨#[62]⟩
  · rw [if_pos h3]; subst h3; exact cmp_gt
  rw [if_neg h3]
  by_cases h4 : s = ⟨#[61, 60]⟩
  · rw [if_pos h4]; subst h4; exact cmp_le
  rw [if_neg h4]
  by_cases h5 : s = ⟨#[62, 61]⟩
  · rw [if_pos h5]; subst h5; exact cmp_ge
  rw [if_neg h5]
  exact cmp_else h0 h1 h2 h3 h4 h5
theorem c_any (s : ByteArray) {a b : Int} {w : World} : Calls Tryd.prog 19 #[.string s, .int .i64 a, .int .i64 b] w fun e w' => e = RetC (cmpS s a b) ∧ w = w' := by
  unfold cmpS
  by_cases h0 : s = ⟨#[61, 58, 61]⟩
  · rw [if_pos h0]; subst h0; exact c_eq
  rw [if_neg h0]
  by_cases h1 : s = ⟨#[61, 92, 61]⟩
  · rw [if_pos h1]; subst h1; exact c_ne
  rw [if_neg h1]
  by_cases h2 : s = ⟨#[60]⟩
  · rw [if_pos h2]; subst h2; exact c_lt
  rw [if_neg h2]
  by_cases h3 : s = ⟨#[62]⟩
  · rw [if_pos h3]; subst h3; exact c_gt
  rw [if_neg h3]
  by_cases h4 : s = ⟨#[61, 60]⟩
  · rw [if_pos h4]; subst h4; exact c_le
  rw [if_neg h4]
  by_cases h5 : s = ⟨#[62, 61]⟩
  · rw [if_pos h5]; subst h5; exact c_ge
  rw [if_neg h5]
  exact c_else h0 h1 h2 h3 h4 h5
end Go.Proofs.YtcpfhjdjooakcaaDoor
