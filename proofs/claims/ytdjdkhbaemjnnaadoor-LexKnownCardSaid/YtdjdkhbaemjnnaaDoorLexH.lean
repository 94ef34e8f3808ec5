/- Package lex: what piece tells is what the document says stands next. Nothing here is walked but by contract. -/
import Derived.Test.YtdjdkhbaemjnnaaDoorLexG
namespace Go.Proofs.YtdjdkhbaemjnnaaDoor
open Go.RowKit
set_option linter.unusedVariables false

def pieceK (l : List UInt8) (i : Nat) (c : UInt8) : Nat × Nat :=
  pieceP (smallB c) (greatB c) (digitB c) (c == 39) (endK l i) (symB c) (soloB c) (Lib.hasPrefix (l.drop i) [91, 93]) (Lib.hasPrefix (l.drop i) [123, 125]) (markB c) i (i + twK wordB l i) (i + twK digitB l i) (i + symK l i)
theorem piece_any (s : ByteArray) (i : Nat) (w : World) (hi : i < s.size) (hs : s.size ≤ 140737488351232) : Calls Tryd.prog 19 #[.string s, .int .i64 i] w fun e w' => e = .returned (pairV (pieceK (bl s) i s[i])) ∧ w = w' := by
  have hx : bl (s.extract i s.size) = (bl s).drop i := sub_bl s i (by omega)
  refine piece_core w hi hs (fun w => small_any _ w) (fun w => great_any _ w) (fun w => digit_any _ w) ?_ (fun w => ends_any s i w hi hs) (fun w => sym_any _ w) (fun w => solo_any _ w) (fun w => ?_) (fun w => ?_) (fun w => mark_any _ w)
    (fun w => run_word s i w (by omega) hs) (fun w => run_digit s i w (by omega) hs) (fun w => symbols_any s i w (by omega) hs)
  · rw [Bool.eq_iff_iff]
    simp only [beq_iff_eq]
    constructor
    · intro h; exact i64_u8 (by rw [h]; rfl)
    · intro h; rw [h]; rfl
  · have := prefix_any (s.extract i s.size) ⟨#[91, 93]⟩ w
    rw [hx] at this
    exact this
  · have := prefix_any (s.extract i s.size) ⟨#[123, 125]⟩ w
    rw [hx] at this
    exact this
theorem tw_take (p : UInt8 → Bool) : ∀ l : List UInt8, (l.take (l.takeWhile p).length).all p = true
  | [] => by simp
  | c :: r => by
    rw [List.takeWhile_cons]
    by_cases h : p c = true
    · rw [if_pos h]
      simp only [List.length_cons, List.take_succ_cons, List.all_cons, h, Bool.true_and]
      exact tw_take p r
    · rw [if_neg h]
      simp
/-- What stands next, by its kind. -/
theorem piece_next {l : List UInt8} {i : Nat} (h : i < l.length) (hns : ∀ k, nextC l[i] (l.drop (i + 1)) ≠ .skip k) :
    (∃ k, 1 ≤ k ∧ i + k ≤ l.length ∧ pieceK l i l[i] = (1, i + k) ∧ nextC l[i] (l.drop (i + 1)) = nameB k (l.drop i)) ∨
    (pieceK l i l[i] = (2, i) ∧ nextC l[i] (l.drop (i + 1)) = (match quoB (l.drop (i + 1)) with | none => .bad false | some p => if decide (p.1.length ≤ 64) then tokB 2 p.1 0 (p.2 + 1) (l.drop i) else .bad true)) ∨
    (∃ k, 1 ≤ k ∧ i + k ≤ l.length ∧ pieceK l i l[i] = (3, i + k) ∧ nextC l[i] (l.drop (i + 1)) = tokB 3 ((l.drop i).take k) 0 k (l.drop i)) ∨
    (∃ k, 1 ≤ k ∧ i + k ≤ l.length ∧ ((l.drop i).take k).all digitB = true ∧ pieceK l i l[i] = (4, i + k) ∧ nextC l[i] (l.drop (i + 1)) = if decide (numB ((l.drop i).take k) ≤ 9223372036854775807) then tokB 4 [] (numB ((l.drop i).take k)) k (l.drop i) else .bad true) ∨
    (pieceK l i l[i] = (5, i + 1) ∧ nextC l[i] (l.drop (i + 1)) = tokB 5 ((l.drop i).take 1) 0 1 (l.drop i)) ∨
    (pieceK l i l[i] = (6, i + 1) ∧ nextC l[i] (l.drop (i + 1)) = tokB 6 [] 0 1 (l.drop i)) ∨
    (pieceK l i l[i] = (0, i) ∧ nextC l[i] (l.drop (i + 1)) = .bad false) := by
  have hd := drop_at h
  have he := endK_at h
  have hw : wordB l[i] = (smallB l[i] || greatB l[i] || digitB l[i]) := rfl
  have htw := tw_max wordB l i (by omega)
  have htd := tw_max digitB l i (by omega)
  have hsy : symK l i ≤ l.length - i := by
    have := sym_le (l.drop i)
    rw [List.length_drop] at this
    exact this
  have hsk : symK l i = symRun (l[i] :: l.drop (i + 1)) := by unfold symK; rw [hd]
  have htk : ∀ p : UInt8 → Bool, p l[i] = true → twK p l i = ((l.drop (i + 1)).takeWhile p).length + 1 := fun p hp => tw_in h hp
  unfold pieceK pieceP
  generalize hc : l[i] = c at *
  generalize hr : l.drop (i + 1) = r at *
  have hns' := hns
  unfold nextC at hns ⊢
  by_cases h1 : blankB c = true
  · rw [if_pos h1] at hns; exact absurd rfl (hns 1)
  rw [if_neg h1]
  rw [if_neg h1] at hns
  by_cases h2 : (c == 37) = true
  · rw [if_pos h2] at hns; exact absurd rfl (hns _)
  rw [if_neg h2]
  clear hns
  by_cases h3 : smallB c = true
  · left
    have hp : wordB c = true := by rw [hw, h3]; rfl
    refine ⟨twK wordB l i, by rw [htk _ hp]; omega, htw, by rw [if_pos h3], ?_⟩
    rw [if_pos h3, htk _ hp, hd]
  rw [if_neg h3, if_neg h3]
  by_cases h4 : greatB c = true
  · right; right; left
    have hp : wordB c = true := by rw [hw, h4]; simp
    refine ⟨twK wordB l i, by rw [htk _ hp]; omega, htw, by rw [if_pos h4], ?_⟩
    rw [if_pos h4, htk _ hp, hd]
  rw [if_neg h4, if_neg h4]
  by_cases h5 : digitB c = true
  · right; right; right; left
    refine ⟨twK digitB l i, by rw [htk _ h5]; omega, htd, tw_take digitB (l.drop i), by rw [if_pos h5], ?_⟩
    rw [if_pos h5, htk _ h5, hd]
  rw [if_neg h5, if_neg h5]
  by_cases h6 : (c == 39) = true
  · right; left
    refine ⟨by rw [if_pos h6], ?_⟩
    rw [if_pos h6, hd]
    cases quoB r <;> rfl
  rw [if_neg h6, if_neg h6]
  by_cases h7 : (c == 46 && endB r) = true
  · right; right; right; right; right; left
    rw [he, h7]
    refine ⟨by rw [if_pos rfl], ?_⟩
    rw [if_pos rfl, hd]
  rw [he, if_neg h7, if_neg h7]
  by_cases h8 : symB c = true
  · left
    refine ⟨symK l i, by rw [hsk]; exact sym_pos h8 h7, by omega, by rw [if_pos h8], ?_⟩
    rw [if_pos h8, hd, hsk]
  rw [if_neg h8, if_neg h8]
  by_cases h9 : (c == 59 || c == 33) = true
  · left
    refine ⟨1, Nat.le_refl _, by omega, by rw [if_pos (show soloB c = true from h9)], ?_⟩
    rw [if_pos h9, hd]
  rw [if_neg h9, if_neg (show ¬ soloB c = true from h9)]
  have hpp : (Lib.hasPrefix (l.drop i) [91, 93] || Lib.hasPrefix (l.drop i) [123, 125]) = ((c == 91 && r.head? == some 93) || (c == 123 && r.head? == some 125)) := by
    rw [hd]
    have one : ∀ a b : UInt8, Lib.hasPrefix (c :: r) [a, b] = (c == a && r.head? == some b) := fun a b => by
      unfold Lib.hasPrefix
      cases r with
      | nil => simp [List.isPrefixOf]
      | cons x r =>
        simp only [List.isPrefixOf, Bool.and_true, List.head?_cons]
        rw [Bool.eq_iff_iff]
        simp only [Bool.and_eq_true, beq_iff_eq, Option.some.injEq]
        constructor
        · rintro ⟨h1, h2⟩; exact ⟨h1.symm, h2.symm⟩
        · rintro ⟨h1, h2⟩; exact ⟨h1.symm, h2.symm⟩
    rw [one, one]
  rw [hpp]
  by_cases h10 : ((c == 91 && r.head? == some 93) || (c == 123 && r.head? == some 125)) = true
  · left
    have hl : 1 ≤ r.length := by
      cases r with
      | nil => simp at h10
      | cons x r => simp
    refine ⟨2, by omega, ?_, by rw [if_pos h10], ?_⟩
    · rw [← hr, List.length_drop] at hl; omega
    · rw [if_pos h10, hd]
  rw [if_neg h10, if_neg h10]
  by_cases h11 : [40, 41, 91, 93, 123, 125, 44, 124].contains c = true
  · right; right; right; right; left
    refine ⟨by rw [if_pos (show markB c = true from h11)], ?_⟩
    rw [if_pos h11, hd]
    rfl
  rw [if_neg h11, if_neg (show ¬ markB c = true from h11)]
  right; right; right; right; right; right
  exact ⟨rfl, rfl⟩
end Go.Proofs.YtdjdkhbaemjnnaaDoor
