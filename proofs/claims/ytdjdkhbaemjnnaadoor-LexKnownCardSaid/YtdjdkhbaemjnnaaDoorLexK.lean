/- Package lex: a token is what the document says stands next. -/
import Derived.Test.YtdjdkhbaemjnnaaDoorLexJ
namespace Go.Proofs.YtdjdkhbaemjnnaaDoor
open Go.RowKit
set_option linter.unusedVariables false

theorem take_ext (s : ByteArray) (i k : Nat) : (⟨(((bl s).drop i).take k).toArray⟩ : ByteArray) = s.extract i (i + k) := by
  apply bl_inj
  simp only [bl, ByteArray.data_extract, Array.toList_extract, List.extract_eq_take_drop, Nat.add_sub_cancel_left]
theorem open_at (s : ByteArray) (b : Nat) (h : b ≤ s.size) : OpenAt s b (openB ((bl s).drop b)) := by
  by_cases hb : b = s.size
  · left
    refine ⟨hb, ?_⟩
    rw [List.drop_eq_nil_of_le (by rw [bl_len]; omega)]
    rfl
  · right
    have hlt : b < s.size := by omega
    refine ⟨hlt, ?_⟩
    rw [drop_at (l := bl s) hlt]
    show _ = (s[b] == 40)
    rw [Bool.eq_iff_iff]
    simp only [beq_iff_eq]
    constructor
    · intro h; exact i64_u8 (by rw [h]; rfl)
    · intro h; rw [h]; rfl
theorem ext_size (s : ByteArray) (i k : Nat) (h : i + k ≤ s.size) : (s.extract i (i + k)).size = k := by simp; omega
theorem token_any (s : ByteArray) (i : Nat) (w : World) (he : Err w) (hi : i < s.size) (hs : s.size ≤ 140737488351232) (hns : ∀ k, nextC s[i] ((bl s).drop (i + 1)) ≠ .skip k) :
    Calls Tryd.prog 13 #[.string s, .int .i64 i] w fun e w' => e = .returned (tokenV i (nextC s[i] ((bl s).drop (i + 1)))) ∧ Below w.heap.size w w' := by
  have P := fun w => piece_any s i w hi hs
  have hop : ∀ k, i + k ≤ s.size → OpenAt s (i + k) (openB (((bl s).drop i).drop k)) := fun k hk => by
    rw [List.drop_drop]
    exact open_at s _ hk
  have hsub : ∀ k, i + k ≤ s.size → bl (s.extract i (i + k)) = ((bl s).drop i).take k := fun k hk => by rw [← take_ext]
  rcases piece_next (l := bl s) (i := i) hi hns with ⟨k, hk, hik, hp, hN⟩ | ⟨hp, hN⟩ | ⟨k, hk, hik, hp, hN⟩ | ⟨k, hk, hik, had, hp, hN⟩ | ⟨hp, hN⟩ | ⟨hp, hN⟩ | ⟨hp, hN⟩
  all_goals
    have hp' : pieceK (bl s) i s[i] = _ := hp
    have hN' : nextC s[i] ((bl s).drop (i + 1)) = _ := hN
    rw [hp'] at P
    rw [hN']
    clear hp hp' hN hN' hns
  · have hik' : i + k ≤ s.size := hik
    unfold nameB
    by_cases h64 : k ≤ 64
    · rw [if_pos (by simpa using h64)]
      refine (token_text 1 (Or.inl rfl) w hi hs (b := i + k) (by omega) hik' (fun _ => by omega) _ (hop k hik') P).mono fun e w' h => ⟨?_, h.2⟩
      rw [h.1]
      unfold tokB tokenV tokV
      simp only [take_ext]
      rfl
    · rw [if_neg (by simpa using h64)]
      exact token_long w hi hs (b := i + k) (by omega) hik' (by omega) P
  · have U := fun w => unquote_any s i w hi hs
    cases hq : quoB ((bl s).drop (i + 1)) with
    | none =>
      rw [hq] at U
      exact token_quote w hi hs P U
    | some p =>
      rw [hq] at U
      simp only
      have hql := quo_len _ ((bl s).drop (i + 1)) (Nat.le_refl _) p hq
      rw [List.length_drop, bl_len] at hql
      have hb : i + 1 + p.2 = i + (p.2 + 1) := by omega
      have hik' : i + (p.2 + 1) ≤ s.size := by omega
      by_cases h64 : p.1.length ≤ 64
      · rw [if_pos (by simpa using h64)]
        have U' : ∀ w, Calls Tryd.prog 20 #[.string s, .int .i64 i] w fun e w' => e = .returned (.tuple #[.string ⟨p.1.toArray⟩, .int .i64 ((i + (p.2 + 1) : Nat) : Int), .int .i64 0]) ∧ Below w.heap.size w w' := fun w => by
          have := U w
          have e : unqV i (some p) = .tuple #[.string ⟨p.1.toArray⟩, .int .i64 ((i + (p.2 + 1) : Nat) : Int), .int .i64 0] := by
            rw [← hb]; rfl
          rw [e] at this
          exact this
        refine (token_quoted w hi hs (b := i + (p.2 + 1)) (by omega) hik' (by show p.1.toArray.size ≤ 64; simpa using h64) _ (hop _ hik') P U').mono fun e w' h => ⟨?_, h.2⟩
        rw [h.1]
        rfl
      · rw [if_neg (by simpa using h64)]
        exact token_quoted_long w hi hs (b := i + 1 + p.2) (t := ⟨p.1.toArray⟩) (by show ¬ p.1.toArray.size ≤ 64; simpa using h64) P U
  · have hik' : i + k ≤ s.size := hik
    refine (token_text 3 (Or.inr (Or.inl rfl)) w hi hs (b := i + k) (by omega) hik' (fun h => by cases h) _ (hop k hik') P).mono fun e w' h => ⟨?_, h.2⟩
    rw [h.1]
    unfold tokB tokenV tokV
    simp only [take_ext]
    rfl
  · have hik' : i + k ≤ s.size := hik
    have hne : ((bl s).drop i).take k ≠ [] := fun e => by
      have := congrArg List.length e
      rw [List.length_take, List.length_drop, bl_len] at this
      simp at this
      omega
    have hz : (s.extract i (i + k)).size ≤ 140737488351232 := by rw [ext_size s i k hik']; omega
    have hsb := hsub k hik'
    by_cases hv : numB (((bl s).drop i).take k) ≤ 9223372036854775807
    · rw [if_pos (by simpa using hv)]
      have V := fun w (h : Err w) => @value_ok (s.extract i (i + k)) w hz (by rw [hsb]; exact had) (by rw [hsb]; exact hne) (by rw [hsb]; exact hv)
      rw [hsb] at V
      refine (token_num w he hi hs (b := i + k) (by omega) hik' _ (hop k hik') P V).mono fun e w' h => ⟨?_, h.2⟩
      rw [h.1]
      rfl
    · rw [if_neg (by simpa using hv)]
      have V := fun w (h : Err w) => @value_over (s.extract i (i + k)) w h hz (by rw [hsb]; exact had) (by rw [hsb]; exact hne) (by rw [hsb]; exact hv)
      exact token_num_over w he hi hs (b := i + k) (by omega) hik' P V
  · refine (token_text 5 (Or.inr (Or.inr rfl)) w hi hs (b := i + 1) (by omega) (by omega) (fun h => by cases h) _ (hop 1 (by omega)) P).mono fun e w' h => ⟨?_, h.2⟩
    rw [h.1]
    unfold tokB tokenV tokV
    simp only [take_ext]
    rfl
  · refine (token_end w hi hs _ (hop 1 (by omega)) P).mono fun e w' h => ⟨?_, h.2⟩
    rw [h.1]
    rfl
  · exact token_none w hi hs P
end Go.Proofs.YtdjdkhbaemjnnaaDoor
