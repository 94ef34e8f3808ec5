import Derived.Test.YtljgkfdnmikpfaaGreatDoorHoqar
import Derived.Test.YtljgkfdnmikpfaaGreatDoorHoqaf
import Derived.Laws.StructEq
import Derived.Test.YtljgkfdnmikpfaaGreatDoorHoqaa
import Derived.Test.YtljgkfdnmikpfaaGreatDoorCards
import Derived.Test.YtljgkfdnmikpfaaGreatDoorTie
import Derived.LaidLaws
import Derived.Lay
import Derived.LaidSub
import Derived.SevenTiedAt
import Derived.Lib.LaidTab
import Derived.Stop.LaidErr
set_option linter.unusedVariables false
set_option linter.unusedSimpArgs false
/- Reading: in brackets it is read the same. Pure. -/
namespace Go.Proofs.YtljgkfdnmikpfaaGreatDoor
set_option linter.unusedVariables false

theorem tw_selfK {p : UInt8 → Bool} : ∀ {r : List UInt8}, (∀ x ∈ r, p x = true) → r.takeWhile p = r
  | [], _ => rfl
  | c :: r, h => by rw [List.takeWhile_cons, if_pos (h c List.mem_cons_self), tw_selfK (fun x hx => h x (List.mem_cons_of_mem _ hx))]
theorem quo_bl : ∀ (n : Nat) (r : List UInt8), r.length ≤ n → quoB (r ++ [32, 46]) = quoB r
  | 0, r, hn => by
    obtain rfl : r = [] := List.length_eq_zero_iff.1 (by omega)
    rfl
  | n + 1, [], hn => rfl
  | n + 1, [c], hn => by
    show quoB (c :: 32 :: [46]) = quoB [c]
    rw [quoB, quoB]
    by_cases h1 : (c == 39) = true
    · rw [if_pos h1, if_pos h1]; rfl
    · rw [if_neg h1, if_neg h1]
      split
      · rfl
      · split
        · rfl
        · rfl
  | n + 1, c :: d :: r, hn => by
    have hr : r.length ≤ n := by simp at hn; omega
    have hd : (d :: r).length ≤ n := by simp at hn ⊢; omega
    have h1 := quo_bl n r hr
    have h2 := quo_bl n (d :: r) hd
    rw [List.cons_append] at h2
    show quoB (c :: d :: (r ++ [32, 46])) = quoB (c :: d :: r)
    rw [quoB, quoB, h1, h2]
theorem tw_bl (p : UInt8 → Bool) (hp : p 32 = false) : ∀ r : List UInt8, (r ++ [32, 46]).takeWhile p = r.takeWhile p
  | [] => by simp [hp]
  | c :: r => by
    simp only [List.cons_append, List.takeWhile_cons]
    rw [tw_bl p hp r]
theorem end_bl (r : List UInt8) : endB (r ++ [32, 46]) = endB r := by cases r <;> rfl
theorem open_bl (r : List UInt8) : openB (r ++ [32, 46]) = openB r := by cases r <;> rfl
theorem sym_bl : ∀ r : List UInt8, symRun (r ++ [32, 46]) = symRun r
  | [] => by rfl
  | c :: r => by rw [List.cons_append, symRun, symRun, end_bl, sym_bl r]
theorem tok_bl (kind : Nat) (text : List UInt8) (n k : Nat) {s : List UInt8} (hk : k ≤ s.length) : tokB kind text n k (s ++ [32, 46]) = tokB kind text n k s := by
  unfold tokB
  rw [List.drop_append_of_le_length hk, open_bl]
theorem name_bl (k : Nat) {s : List UInt8} (hk : k ≤ s.length) : nameB k (s ++ [32, 46]) = nameB k s := by
  unfold nameB
  rw [List.take_append_of_le_length hk, tok_bl _ _ _ _ hk]
/-- What stands at a text's end stands so ahead of a blank and a full stop, but for a remark without an end. -/
theorem next_bl (c : UInt8) (r : List UInt8) : nextC c (r ++ [32, 46]) = nextC c r ∨ (nextC c (r ++ [32, 46]) = .skip (r.length + 3) ∧ nextC c r = .skip (r.length + 1)) := by
  have hw := tw_le wordB r
  have hg := tw_le digitB r
  have hsy := sym_le (c :: r)
  have e1 := tw_bl wordB (by decide) r
  have e2 := tw_bl digitB (by decide) r
  have e4 := sym_bl (c :: r)
  rw [List.cons_append] at e4
  have hl : (c :: r).length = r.length + 1 := rfl
  unfold nextC
  rw [e1, e2, e4, end_bl]
  rw [show c :: (r ++ [32, 46]) = (c :: r) ++ [32, 46] from rfl]
  by_cases h1 : blankB c = true
  · left; rw [if_pos h1, if_pos h1]
  rw [if_neg h1, if_neg h1]
  by_cases h2 : (c == 37) = true
  · rw [if_pos h2, if_pos h2]
    by_cases ha : ∀ x ∈ r, (x != 10) = true
    · right
      have t1 : r.takeWhile (fun x => x != 10) = r := tw_selfK ha
      have t2 : (r ++ [32, 46]).takeWhile (fun x => x != 10) = r ++ [32, 46] := tw_selfK (fun x hx => by
        rcases List.mem_append.1 hx with h | h
        · exact ha x h
        · rcases List.mem_cons.1 h with rfl | h
          · rfl
          · rcases List.mem_cons.1 h with rfl | h
            · rfl
            · cases h)
      rw [t1, t2, List.length_append]
      exact ⟨rfl, rfl⟩
    · left
      have : ∀ l : List UInt8, (¬ ∀ x ∈ l, (x != 10) = true) → (l ++ [32, 46]).takeWhile (fun x => x != 10) = l.takeWhile (fun x => x != 10) := fun l hl => by
        induction l with
        | nil => exact absurd (fun x hx => by cases hx) hl
        | cons d l ih =>
          rw [List.cons_append, List.takeWhile_cons, List.takeWhile_cons]
          by_cases hd : (d != 10) = true
          · rw [if_pos hd, if_pos hd, ih (fun h => hl (fun x hx => by
              rcases List.mem_cons.1 hx with rfl | hx
              · exact hd
              · exact h x hx))]
          · rw [if_neg hd, if_neg hd]
      rw [this r ha]
  rw [if_neg h2, if_neg h2]
  left
  by_cases h3 : smallB c = true
  · rw [if_pos h3, if_pos h3]
    exact name_bl _ (by omega)
  rw [if_neg h3, if_neg h3]
  by_cases h4 : greatB c = true
  · rw [if_pos h4, if_pos h4]
    rw [List.take_append_of_le_length (by omega), tok_bl _ _ _ _ (by omega)]
  rw [if_neg h4, if_neg h4]
  by_cases h5 : digitB c = true
  · rw [if_pos h5, if_pos h5]
    rw [List.take_append_of_le_length (by omega), tok_bl _ _ _ _ (by omega)]
  rw [if_neg h5, if_neg h5]
  by_cases h6 : (c == 39) = true
  · rw [if_pos h6, if_pos h6, quo_bl _ r (Nat.le_refl _)]
    cases hq : quoB r with
    | none => rfl
    | some p =>
      have := quo_len r.length r (Nat.le_refl _) p hq
      simp only
      rw [tok_bl _ _ _ _ (by omega)]
  rw [if_neg h6, if_neg h6]
  by_cases h7 : (c == 46 && endB r) = true
  · rw [if_pos h7, if_pos h7]
    exact tok_bl _ _ _ _ (by simp)
  rw [if_neg h7, if_neg h7]
  by_cases h8 : symB c = true
  · rw [if_pos h8, if_pos h8]
    exact name_bl _ hsy
  rw [if_neg h8, if_neg h8]
  by_cases h9 : (c == 59 || c == 33) = true
  · rw [if_pos h9, if_pos h9]
    exact name_bl _ (by simp)
  rw [if_neg h9, if_neg h9]
  have hh : ((c == 91 && (r ++ [32, 46]).head? == some 93) || (c == 123 && (r ++ [32, 46]).head? == some 125)) = ((c == 91 && r.head? == some 93) || (c == 123 && r.head? == some 125)) := by
    cases r with
    | nil => cases (c == 91) <;> cases (c == 123) <;> rfl
    | cons d r => rfl
  rw [hh]
  by_cases h10 : ((c == 91 && r.head? == some 93) || (c == 123 && r.head? == some 125)) = true
  · rw [if_pos h10, if_pos h10]
    refine name_bl _ ?_
    cases r with
    | nil => simp at h10
    | cons d r => simp
  rw [if_neg h10, if_neg h10]
  by_cases h11 : [40, 41, 91, 93, 123, 125, 44, 124].contains c = true
  · rw [if_pos h11, if_pos h11]
    exact tok_bl _ _ _ _ (by simp)
  rw [if_neg h11, if_neg h11]
theorem lex_count : ∀ (n p : Nat) (s : List UInt8) (x : List TokP), lexL n p s = some x → x.length ≤ s.length
  | n, p, [], x, h => by rw [lex_nil] at h; cases h; exact Nat.le_refl _
  | 0, p, c :: r, x, h => by cases h
  | n + 1, p, c :: r, x, h => by
    rw [lexL] at h
    have hl := next_len c r
    rcases next_pos c r with ⟨k, hn, hk⟩ | ⟨t, hn, hk⟩ | ⟨o, hn⟩
    · rw [hn] at h hl
      have hl : k ≤ r.length + 1 := hl
      have := lex_count n _ _ x h
      rw [List.length_drop, List.length_cons] at this
      rw [List.length_cons]
      omega
    · rw [hn] at h hl
      have hl : t.len ≤ r.length + 1 := hl
      obtain ⟨l, hl', rfl⟩ := Option.map_eq_some_iff.1 h
      have := lex_count n _ _ l hl'
      rw [List.length_drop, List.length_cons] at this
      rw [List.length_cons, List.length_cons]
      omega
    · rw [hn] at h; cases h
theorem lex_same : ∀ (n p : Nat) (s : List UInt8) (x : List TokP), lexL n p s = some x → ∀ m, s.length ≤ m → lexL m p s = some x
  | n, p, [], x, h, m, _ => by rw [lex_nil] at h ⊢; exact h
  | 0, p, c :: r, x, h, m, _ => by cases h
  | n + 1, p, c :: r, x, h, 0, hm => by simp at hm
  | n + 1, p, c :: r, x, h, m + 1, hm => by
    rw [lexL] at h ⊢
    rw [List.length_cons] at hm
    rcases next_pos c r with ⟨k, hn, hk⟩ | ⟨t, hn, hk⟩ | ⟨o, hn⟩
    · rw [hn] at h ⊢
      exact lex_same n _ _ x h m (by rw [List.length_drop, List.length_cons]; omega)
    · rw [hn] at h ⊢
      obtain ⟨l, hl, rfl⟩ := Option.map_eq_some_iff.1 h
      simp only [lex_same n _ _ l hl m (by rw [List.length_drop, List.length_cons]; omega)]
      rfl
    · rw [hn] at h; cases h
theorem lex_enough (n p : Nat) (s : List UInt8) (x : List TokP) (h : lexL n p s = some x) : lexL s.length p s = some x := lex_same n p s x h _ (Nat.le_refl _)
/-- A blank and a full stop behind a text: its tokens and an end; or it ends in a remark. -/
theorem lex_dot : ∀ (n p : Nat) (s : List UInt8) (x : List TokP), lexL n p (s ++ [32, 46]) = some x → ∃ x', lexL n p s = some x' ∧ (x = x' ∨ ∃ e : TokB, e.kind = 6 ∧ x = x' ++ [(e, p + s.length + 1)])
  | n, p, [], x, h => by
    refine ⟨[], lex_nil n p, Or.inr ?_⟩
    cases n with
    | zero => cases h
    | succ n =>
      rw [List.nil_append, lexL, show nextC 32 [46] = .skip 1 from rfl] at h
      simp only [List.drop_succ_cons, List.drop_zero] at h
      cases n with
      | zero => cases h
      | succ n =>
        rw [lexL, show nextC 46 [] = tokB 6 [] 0 1 [46] from rfl] at h
        unfold tokB at h
        obtain ⟨l, hl, rfl⟩ := Option.map_eq_some_iff.1 h
        have hl' : lexL n (p + 1 + 1) [] = some l := hl
        rw [lex_nil] at hl'
        cases hl'
        exact ⟨_, rfl, rfl⟩
  | 0, p, c :: r, x, h => by cases h
  | n + 1, p, c :: r, x, h => by
    rw [List.cons_append, lexL] at h
    have hlen := next_len c r
    rcases next_bl c r with hb | ⟨hb1, hb2⟩
    · rw [hb] at h
      cases hn : nextC c r with
      | skip k =>
        rw [hn] at h hlen
        have hk : k ≤ (c :: r).length := hlen
        simp only at h
        rw [← List.cons_append, List.drop_append_of_le_length hk] at h
        obtain ⟨x', h1, h2⟩ := lex_dot n (p + k) _ x h
        refine ⟨x', ?_, ?_⟩
        · rw [lexL, hn]; exact h1
        · rw [List.length_drop, show p + k + ((c :: r).length - k) + 1 = p + (c :: r).length + 1 by omega] at h2
          exact h2
      | tok t =>
        rw [hn] at h hlen
        have hk : t.len ≤ (c :: r).length := hlen
        simp only at h
        rw [← List.cons_append, List.drop_append_of_le_length hk] at h
        obtain ⟨l, hl, rfl⟩ := Option.map_eq_some_iff.1 h
        obtain ⟨x', h1, h2⟩ := lex_dot n (p + t.len) _ l hl
        refine ⟨(t, p) :: x', ?_, ?_⟩
        · rw [lexL, hn]; simp only [h1]; rfl
        · rw [List.length_drop, show p + t.len + ((c :: r).length - t.len) + 1 = p + (c :: r).length + 1 by omega] at h2
          rcases h2 with rfl | ⟨e, he, rfl⟩
          · exact Or.inl rfl
          · exact Or.inr ⟨e, he, rfl⟩
      | bad o => rw [hn] at h; cases h
    · rw [hb1] at h
      simp only at h
      rw [List.drop_eq_nil_of_le (by simp), lex_nil] at h
      cases h
      refine ⟨[], ?_, Or.inl rfl⟩
      rw [lexL, hb2]
      simp only
      rw [List.drop_eq_nil_of_le (by simp), lex_nil]
theorem whole_end {pre bet : List UInt8 → O × Bool} {l : List TokP} {t : Tm} {s : RS} (h : wholeR pre bet l = some (t, s)) : ∃ q ∈ l, q.1.kind = 6 := by
  unfold wholeR at h
  cases h1 : TERM pre bet 1200 (anewR l) with
  | none => rw [h1] at h; cases h
  | some q =>
    obtain ⟨p, s1⟩ := q
    rw [h1] at h
    simp only at h
    split at h
    · rename_i hk
      have hsuf : s1.rest <:+ l := term_suf _ _ _ _ _ h1
      have hne : s1.rest ≠ [] := head_ne (by omega)
      cases hs : s1.rest with
      | nil => exact absurd hs hne
      | cons y z =>
        exact ⟨y, hsuf.subset (by rw [hs]; exact List.mem_cons_self), by unfold headR at hk; rw [hs] at hk; exact hk⟩
    · cases h
/-- A term and its end: in brackets. -/
theorem whole_brackets {pre bet : List UInt8 → O × Bool} {l : List TokP} {e lp rp e' : TokP} {t : Tm} {s : RS} (hwf : WfT (l ++ [e])) (hno : ∀ q ∈ l, q.1.kind ≠ 6) (he : e.1.kind = 6) (he' : e'.1.kind = 6) (hlp : lp.1.kind = 5 ∧ lp.1.text = [40]) (hrp : rp.1.kind = 5 ∧ rp.1.text = [41]) (d : Nat)
    (h : wholeR pre bet (l ++ [e]) = some (t, s)) : ∃ s', wholeR pre bet (lp :: (l.map (shT d) ++ [rp, e'])) = some (t, s') ∧ s'.rest = [] ∧ s'.names = s.names := by
  unfold wholeR at h
  cases h1 : TERM pre bet 1200 (anewR (l ++ [e])) with
  | none => rw [h1] at h; cases h
  | some q =>
    obtain ⟨p, s1⟩ := q
    rw [h1] at h
    simp only at h
    split at h
    · rename_i hk
      cases h
      have hR : RelS e rp [] [e'] d (anewR (l ++ [e])) ⟨l.map (shT d) ++ [rp, e'], 0, []⟩ := ⟨⟨l, rfl, rfl, hno⟩, rfl, rfl, hwf, he, Or.inr hrp⟩
      obtain ⟨s2, g1, g2⟩ := sim_TERM 1200 _ _ _ _ hR h1
      obtain ⟨r', h3, h4, h5⟩ := g2.rest
      have hr' : r' = [] := by
        cases r' with
        | nil => rfl
        | cons y z =>
          exfalso
          have := h5 y List.mem_cons_self
          unfold headR at hk
          rw [h3] at hk
          exact this hk
      subst hr'
      have h4' : s2.rest = [rp, e'] := h4
      have hm : isMark [41] (headR s2) = true := by
        unfold headR isMark
        rw [h4']
        simp [hrp]
      have ht : takesR [41] s2 = some (dropR s2) := by unfold takesR; rw [if_pos hm]
      have hc : closedR (TERM pre bet) [41] ⟨l.map (shT d) ++ [rp, e'], 0, []⟩ = some (p.1, dropR s2) := by
        unfold closedR
        rw [g1]
        simp only [ht]
      have hp : primR pre bet (TERM pre bet) 1200 (anewR (lp :: (l.map (shT d) ++ [rp, e']))) = some ((p.1, 0), dropR s2) := by
        unfold primR
        have hh : headR (anewR (lp :: (l.map (shT d) ++ [rp, e']))) = lp := rfl
        rw [hh]
        rw [if_neg (by omega), if_neg (by omega), if_neg (by omega), if_pos hlp.1, hlp.2]
        show zeroR (bracketR (TERM pre bet) [40] ⟨l.map (shT d) ++ [rp, e'], 0, []⟩) = _
        unfold bracketR
        rw [if_pos rfl, hc]
        rfl
      have hd : (dropR s2).rest = [e'] := by unfold dropR; rw [h4']; rfl
      have hh : headR (dropR s2) = e' := by unfold headR; rw [hd]; rfl
      have hT : TERM pre bet 1200 (anewR (lp :: (l.map (shT d) ++ [rp, e']))) = some ((p.1, 0), dropR s2) := by
        rw [TERM_some hp]
        refine LOOP_stop (Or.inl ?_)
        rw [hh]
        unfold betweenR opKind isMark
        rw [he']
        rfl
      refine ⟨dropR (dropR s2), ?_, ?_, ?_⟩
      · unfold wholeR
        rw [hT]
        simp only
        rw [hh, if_pos he']
      · unfold dropR at hd ⊢
        simp only at hd ⊢
        rw [hd]; rfl
      · exact g2.names.symm
    · cases h
theorem one_inv {pre bet : List UInt8 → O × Bool} {l : List TokP} {t : Tm} {nm : List NmP} (h : oneR pre bet l = .ok (t, nm)) : ∃ s, wholeR pre bet l = some (t, s) ∧ s.rest = [] ∧ goodT t = true ∧ s.names = nm := by
  unfold oneR at h
  split at h
  · cases h
  · rename_i t' s hw
    split at h
    · rename_i hr
      split at h
      · rename_i hg
        cases h
        exact ⟨s, hw, hr, hg, rfl⟩
      · cases h
    · cases h
theorem one_mk {pre bet : List UInt8 → O × Bool} {l : List TokP} {t : Tm} {s : RS} (hw : wholeR pre bet l = some (t, s)) (hr : s.rest = []) (hg : goodT t = true) : oneR pre bet l = .ok (t, s.names) := by
  unfold oneR
  rw [hw]
  simp [hr, hg]
theorem read_brackets {xs : List O} {s : List UInt8} {t : Tm} {nm : List NmP} (h : readB oneR xs (s ++ [32, 46]) = .ok (t, nm)) (hs : s.length ≤ 1000) :
    ∃ l, cutB s = .ok l ∧ ((∃ q ∈ l, q.1.kind = 6) ∨ readB oneR xs (40 :: (s ++ [10, 41, 32, 46])) = .ok (t, nm)) := by
  unfold readB at h ⊢
  split at h
  · rename_i hg
    rw [if_pos hg]
    cases hx : cutB (s ++ [32, 46]) with
    | bad p o => rw [hx] at h; cases h
    | ok x =>
      rw [hx] at h
      simp only at h
      obtain ⟨st, hw, hr, hgd, hnm⟩ := one_inv h
      obtain ⟨x1, x2, x3⟩ := cutB_ok.1 hx
      obtain ⟨x', g1, g2⟩ := lex_dot _ _ _ _ x2
      have hcnt := lex_count _ _ _ _ g1
      have g1' : lexL s.length 0 s = some x' := lex_enough _ _ _ _ g1
      have hc : cutB s = .ok x' := cutB_ok.2 ⟨by omega, g1', by omega⟩
      refine ⟨x', hc, ?_⟩
      by_cases hno : ∃ q ∈ x', q.1.kind = 6
      · exact Or.inl hno
      · right
        rcases g2 with rfl | ⟨e, he, rfl⟩
        · exact absurd (whole_end hw) hno
        · have hwf : WfT (x' ++ [(e, 0 + s.length + 1)]) := lex_wf _ _ _ _ x2
          have hb : lexL 4 (1 + s.length + 1) [41, 32, 46] = some [(⟨5, [41], 0, 1, false⟩, 1 + s.length + 1), (⟨6, [], 0, 1, false⟩, 1 + s.length + 1 + 1 + 1)] := rfl
          have hsh := lex_shift 1 s.length 0 s
          rw [g1'] at hsh
          have hp := lex_parts [41, 32, 46] 4 _ s.length (0 + 1) s _ hsh (by rw [Nat.zero_add]; exact hb)
          have hy : lexL ((s.length + 5) + 1) 0 (40 :: (s ++ [10, 41, 32, 46])) = some ((⟨5, [40], 0, 1, openB (s ++ [10, 41, 32, 46])⟩, 0) :: (x'.map (shT 1) ++ [(⟨5, [41], 0, 1, false⟩, 1 + s.length + 1), (⟨6, [], 0, 1, false⟩, 1 + s.length + 1 + 1 + 1)])) := by
            rw [lexL, next_paren]
            unfold tokB
            simp only [List.drop_succ_cons, List.drop_zero]
            rw [hp]
            rfl
          have hlen : (40 :: (s ++ [10, 41, 32, 46])).length = s.length + 5 := by simp
          have hcut : cutB (40 :: (s ++ [10, 41, 32, 46])) = .ok ((⟨5, [40], 0, 1, openB (s ++ [10, 41, 32, 46])⟩, 0) :: (x'.map (shT 1) ++ [(⟨5, [41], 0, 1, false⟩, 1 + s.length + 1), (⟨6, [], 0, 1, false⟩, 1 + s.length + 1 + 1 + 1)])) :=
            cutB_ok.2 ⟨by omega, lex_enough _ _ _ _ hy, by simp; omega⟩
          rw [hcut]
          simp only
          obtain ⟨s', h1, h2, h3⟩ := whole_brackets (lp := (⟨5, [40], 0, 1, openB (s ++ [10, 41, 32, 46])⟩, 0)) (rp := (⟨5, [41], 0, 1, false⟩, 1 + s.length + 1)) (e' := (⟨6, [], 0, 1, false⟩, 1 + s.length + 1 + 1 + 1)) hwf (fun q hq hk => hno ⟨q, hq, hk⟩) he rfl ⟨rfl, rfl⟩ ⟨rfl, rfl⟩ 1 hw
          rw [one_mk h1 h2 hgd, h3, hnm]
  · cases h
end Go.Proofs.YtljgkfdnmikpfaaGreatDoor
/- Texts that are read each by itself are read one behind the other. -/
namespace Go.Proofs.YtljgkfdnmikpfaaGreatDoor
open Go.Shelf Go.RowKit
set_option linter.unusedVariables false

theorem same_good {w : World} {x : Tm} {v v' : Value} (hg : goodT x = true) (h1 : TmV w x v) (h2 : TmV w x v') : Calls Tryz.prog 18 #[v, v'] w fun e w' => e = .returned (.bool true) ∧ Below w.heap.size w w' := by
  have q := Same_at h1 h2
  rw [hg, same_self] at q
  simp only [Bool.and_self] at q
  exact q
end Go.Proofs.YtljgkfdnmikpfaaGreatDoor
/- In brackets it is read the same: the law. -/
namespace Go.Proofs.YtljgkfdnmikpfaaGreatDoor
open Go.Shelf Go.RowKit
set_option linter.unusedVariables false

abbrev zeroT : Value := .agg #[.int .i64 0, .int .i64 0, .string ⟨#[]⟩, .slice none 0 0]
theorem oneP_bad {s : ByteArray} {k : Int} (hX : readB oneR opsB (bl s) = .bad k) (hs : s.size ≤ 140737488351232) {w : World} (he : Err w) {v : Value} (ho : Ops w v opsB) : Calls Tryz.prog 15 #[.agg #[v], .string s] w fun e w' => e = .returned (.tuple #[zeroT, .slice none 0 0, .int .i64 k]) ∧ Below w.heap.size w w' :=
  (term8_at ho s he hs).mono fun e w' (h : TermX w (readB oneR opsB (bl s)) e w') => by rw [hX] at h; exact h
theorem oneP_ok {s : ByteArray} {t : Tm} {nm : List NmP} (hX : readB oneR opsB (bl s) = .ok (t, nm)) (hs : s.size ≤ 140737488351232) {w : World} (he : Err w) {v : Value} (ho : Ops w v opsB) :
    Calls Tryz.prog 15 #[.agg #[v], .string s] w fun e w' => (∃ k n b a m c vn, e = .returned (.tuple #[.agg #[.int .i64 k, .int .i64 n, .string b, .slice a m c], vn, .int .i64 0]) ∧ TmV w' t (.agg #[.int .i64 k, .int .i64 n, .string b, .slice a m c]) ∧ Nms w' vn nm) ∧ Below w.heap.size w w' :=
  (term8_at ho s he hs).mono fun e w' (h : TermX w (readB oneR opsB (bl s)) e w') => by
    rw [hX] at h
    obtain ⟨⟨v, vn, h1, h2, h3⟩, h4⟩ := h
    obtain ⟨k, n, b, a, m, c, rfl⟩ := h2.full
    exact ⟨⟨k, n, b, a, m, c, vn, h1, h2, h3⟩, h4⟩
theorem one_bad_or {xs : List O} {s : List UInt8} {k : Int} (h : readB oneR xs s = .bad k) : k = 1 ∨ k = 2 ∨ k = 3 := by
  unfold readB at h
  split at h
  · split at h
    · unfold oneR at h
      split at h
      · cases h; exact Or.inr (Or.inl rfl)
      · split at h
        · split at h
          · cases h
          · cases h; exact Or.inr (Or.inr rfl)
        · cases h; exact Or.inr (Or.inl rfl)
    · rename_i p o _
      cases h
      cases o
      · exact Or.inr (Or.inl rfl)
      · exact Or.inr (Or.inr rfl)
  · cases h; exact Or.inl rfl
theorem oneR_good {xs : List O} {s : List UInt8} {t : Tm} {nm : List NmP} (h : readB oneR xs s = .ok (t, nm)) : goodT t = true := by
  unfold readB at h
  split at h
  · split at h
    · obtain ⟨_, _, _, h, _⟩ := one_inv h; exact h
    · cases h
  · cases h
theorem Nms.at {w : World} {a : Option Addr} {n cap : Nat} {l : List NmP} (h : Nms w (.slice a n cap) l) {k : Nat} {x : NmP} (hx : l[k]? = some x) :
    ∃ b off, a = some ⟨b, off, none⟩ ∧ b < w.heap.size ∧ w.cell? ⟨b, off + k * 2, none⟩ = some (.string ⟨x.1.toArray⟩) ∧ w.cell? ⟨b, off + k * 2 + 1, none⟩ = some (.int .i64 (x.2 : Int)) := by
  obtain ⟨a', cap', e, h1, h2, h3⟩ := h
  cases e
  rcases h3 with rfl | ⟨b, off, rfl, hb, hc⟩
  · simp at hx
  · exact ⟨b, off, rfl, hb, hc k x hx 0 _ rfl, by rw [Nat.add_assoc]; exact hc k x hx 1 _ rfl⟩
set_option maxRecDepth 100000 in
set_option maxHeartbeats 8000000 in
theorem brackets8_at (s : ByteArray) (hs : s.size ≤ 140737488351232) {w : World} (he : Err w) : Calls Tryz.prog 6 #[.string s] w fun e w' => e = .returned (.bool true) ∧ Below w.heap.size w w' := by
  have HAW := Lib.hid (awake8_at he)
  have HE := Lib.hid he
  clear he
  by_cases hbig : 800 < s.size
  · have hd : decide ((800 : Int) < (s.size : Int)) = true := decide_eq_true (by omega)
    go_enter Tryz.func6, Tryz.ntmps6
    (go_wp2_with fail; go_fit (HAW.out); rintro e w1 ⟨rfl, b1⟩)
    go_wp2
    go_ret
    exact ⟨rfl, b1⟩
  have hda : decide ((800 : Int) < (s.size : Int)) = false := decide_eq_false (by omega)
  have HP := Lib.hid (fun wq => plain_walk wq)
  have hs8 : s.size ≤ 800 := by omega
  have HS8 := Lib.hid hs8
  clear hbig hs8
  have hb1 : bl (s ++ ⟨#[32, 46]⟩) = bl s ++ [32, 46] := by rw [bl_cat]; try rfl
  have hz1 : (s ++ ⟨#[32, 46]⟩).size ≤ 140737488351232 := by rw [size_bl, hb1, List.length_append, bl_len]; have := HS8.out; simp; omega
  have HZ1 := Lib.hid hz1
  clear hz1
  go_enter Tryz.func6, Tryz.ntmps6
  (go_wp2_with fail; go_fit (HAW.out); rintro e w1 ⟨rfl, b1⟩)
  have B1 := Lib.hid b1
  clear b1 HAW
  (go_wp2_with fail; go_fit (HP.out _); rintro e w2 ⟨v2, rfl, o2, b2⟩)
  have B2 := Lib.hid (Ext.trans' B1.out b2)
  have O2 := Lib.hid o2
  clear b2 o2
  cases hX : readB oneR opsB (bl (s ++ ⟨#[32, 46]⟩)) with
  | bad k =>
    have hk : (k != 0) = true := by rcases one_bad_or hX with rfl | rfl | rfl <;> rfl
    have HC := Lib.hid (oneP_bad hX HZ1.out (HE.out.ext B2.out) O2.out)
    clear hX hb1
    (go_wp2_with fail; go_fit (HC.out); rintro e w3 ⟨rfl, b3⟩)
    have B3 := Lib.hid (Ext.trans' B2.out b3)
    clear b3
    go_wp2
    go_ret
    refine ⟨rfl, ?_⟩
    repeat' (first | with_reducible exact B3.out | (with_reducible refine Below.setCell ?_ ?_ _) | (with_reducible refine Below.alloc ?_ ?_ _) | exact B3.out.size | (simp; done) | (simp; omega))
  | ok q =>
    obtain ⟨t, nm⟩ := q
    have HC := Lib.hid (oneP_ok hX HZ1.out (HE.out.ext B2.out) O2.out)
    have hgt := oneR_good hX
    rw [hb1] at hX
    obtain ⟨l, hcut, hor⟩ := read_brackets hX (by rw [bl_len]; have := HS8.out; omega)
    have HOR := Lib.hid hor
    have HG := Lib.hid hgt
    have HCT := Lib.hid hcut
    clear hX hb1 hor hgt hcut
    (go_wp2_with fail; go_fit (HC.out); rintro e w3 ⟨⟨k3, n3, s3, a3, m3, c3, vn, rfl, htv, hnm⟩, b3⟩)
    obtain ⟨w4, hw4, hb4, hz4, hx4⟩ := box_new w3 #[.int .i64 k3, .int .i64 n3, .string s3, .slice a3 m3 c3] 27
    have B4 := Lib.hid (Ext.trans' (Ext.trans' B2.out b3) hb4)
    have HTV := Lib.hid (TmV.ext hb4 _ _ htv)
    have HX4 := Lib.hid hx4
    obtain ⟨an, cn, rfl, l1, l2, l3⟩ := hnm
    have HNM := Lib.hid (show Nms w4 (.slice an nm.length cn) nm from Elems.ext (show Nms w3 (.slice an nm.length cn) nm from ⟨an, cn, rfl, l1, l2, l3⟩) hb4)
    obtain ⟨n, hn⟩ : ∃ n, l.length = n := ⟨_, rfl⟩
    obtain ⟨m, hm⟩ : ∃ m, nm.length = m := ⟨_, rfl⟩
    have HCL := Lib.hid (cut_ok (HE.out.ext B4.out) hs HCT.out)
    rw [hn] at HCL
    rw [hm] at HNM
    have hn1 : n ≤ 1024 := by rw [← hn]; exact (cutB_ok.1 HCT.out).2.2
    have HN := Lib.hid hn
    have HM := Lib.hid hm
    unfold maxLen at l2
    rw [hm] at l1
    simp only [hm]
    clear b3 hb4 hz4 hx4 htv hn hm l3 HC O2
    go_wp2_with fail
    (try rw [hw4])
    clear hw4
    (go_wp2_with fail; go_fit (HCL.out); rintro e w5 ⟨ao, co, rfl, htk, b5⟩)
    have B5 := Lib.hid (Ext.trans' B4.out b5)
    have HTV := Lib.hid (TmV.ext b5 _ _ HTV.out)
    have HNM := Lib.hid (Elems.ext HNM.out b5)
    have HX4 := Lib.hid (HX4.out.ext b5)
    have HTK := Lib.hid htk
    clear b5 htk HCL
    go_wp2_with fail
    go_loop [9] (fun v => ∃ i : Nat, i ≤ n ∧ v = .int .i64 i ∧ Hid (∀ (j : Nat) (x : TokP), j < i → l[j]? = some x → x.1.kind ≠ 6)) (fun v => n - (intOf v).toNat)
    case atStart => exact ⟨0, Nat.zero_le _, rfl, Lib.hid (fun j x h => by omega)⟩
    case round =>
      obtain ⟨i, hi, rfl, HI⟩ := hrel
      by_cases hlt : i < n
      · have hd1 : decide ((i : Int) < (n : Int)) = true := decide_eq_true (by omega)
        obtain ⟨x, hx⟩ : ∃ x, l[i]? = some x := ⟨_, List.getElem?_eq_getElem (by rw [HN.out]; exact hlt)⟩
        obtain ⟨b, off, rfl, hbb, d0, d1, d2, d3, d4⟩ := HTK.out.cells hx
        have HXI := Lib.hid hx
        clear hx
        by_cases hk6 : x.1.kind = 6
        · rw [hk6] at d0
          go_wp2
          go_ret
          exact ⟨rfl, B5.out⟩
        · have hkk : ((x.1.kind : Int) == 6) = false := beq_false_of_ne (by omega)
          go_wp2
          go_round
          case rel =>
            refine ⟨i + 1, by omega, by go_num, Lib.hid (fun j y hj hy => ?_)⟩
            by_cases e : j = i
            · rw [e, HXI.out] at hy
              cases hy
              exact hk6
            · exact HI.out j y (by omega) hy
          case measure => simp [intOf]; omega
      · obtain rfl : n = i := by omega
        have hno : ¬ ∃ q ∈ l, q.1.kind = 6 := by
          rintro ⟨q, hq, hk⟩
          obtain ⟨j, hj, rfl⟩ := List.getElem_of_mem hq
          exact HI.out j _ (by rw [← HN.out]; exact hj) (List.getElem?_eq_getElem hj) hk
        have hY := HOR.out.resolve_left hno
        have hb2 : bl ((⟨#[40]⟩ : ByteArray) ++ s ++ ⟨#[10, 41, 32, 46]⟩) = 40 :: (bl s ++ [10, 41, 32, 46]) := by rw [bl_cat, bl_cat]; try rfl
        rw [← hb2] at hY
        have hz2 : ((⟨#[40]⟩ : ByteArray) ++ s ++ ⟨#[10, 41, 32, 46]⟩).size ≤ 140737488351232 := by rw [size_bl, hb2, List.length_cons, List.length_append, bl_len]; have := HS8.out; simp; omega
        have HY := Lib.hid hY
        have HZ2 := Lib.hid hz2
        clear hno hY hb2 hz2 HOR HI HTK
        go_wp2_with fail
        (go_wp2_with fail; go_fit (HP.out _); rintro e w6 ⟨v6, rfl, o6, b6⟩)
        have HF := Lib.hid (oneP_ok HY.out HZ2.out (HE.out.ext (Ext.trans' B5.out b6)) o6)
        have B6 := Lib.hid (Ext.trans' B5.out b6)
        have HTV := Lib.hid (TmV.ext b6 _ _ HTV.out)
        have HNM := Lib.hid (Elems.ext HNM.out b6)
        have HX4 := Lib.hid (HX4.out.ext b6)
        clear b6 o6
        (go_wp2_with fail; go_fit (HF.out); rintro e w7 ⟨⟨k7, n7, s7, a7, m7, c7, vn7, rfl, htv7, hnm7⟩, b7⟩)
        obtain ⟨w8, hw8, hb8, hz8, hx8⟩ := box_new w7 #[.int .i64 k7, .int .i64 n7, .string s7, .slice a7 m7 c7] 27
        have b78 := Ext.trans' b7 hb8
        have B8 := Lib.hid (Ext.trans' B6.out b78)
        have SM := Lib.hid (same_good HG.out (TmV.ext b78 _ _ HTV.out) (TmV.ext hb8 _ _ htv7))
        have HNM := Lib.hid (Elems.ext HNM.out b78)
        obtain ⟨t0, t1, t2, t3, tf⟩ := (HX4.out.ext b78).four
        obtain ⟨u0, u1, u2, u3, uf⟩ := hx8.four
        obtain ⟨an7, cn7, rfl, j1, j2, j3⟩ := hnm7
        have HNM7 := Lib.hid (show Nms w8 (.slice an7 nm.length cn7) nm from Elems.ext (show Nms w7 (.slice an7 nm.length cn7) nm from ⟨an7, cn7, rfl, j1, j2, j3⟩) hb8)
        rw [HM.out] at HNM7 j1
        unfold maxLen at j2
        simp only [HM.out]
        clear b7 hb8 b78 hz8 hx8 htv7 j3 HTV HX4 HF
        go_wp2_with fail
        (try rw [hw8])
        clear hw8
        (go_wp2_with fail; go_fit (SM.out); rintro e w9 ⟨rfl, b9⟩)
        have B9 := Lib.hid (Ext.trans' B8.out b9)
        have HNM := Lib.hid (Elems.ext HNM.out b9)
        have HNM7 := Lib.hid (Elems.ext HNM7.out b9)
        clear b9 t0 t1 t2 t3 tf u0 u1 u2 u3 uf SM
        go_wp2_with fail
        go_loopw [13] (fun v wr => ∃ i : Nat, i ≤ m ∧ v = .int .i64 i ∧ Hid (Below w9.heap.size w9 wr)) (fun v _ => m - (intOf v).toNat)
        case atStart => exact ⟨0, Nat.zero_le _, rfl, Lib.hid (Below.refl _ _)⟩
        case round =>
          obtain ⟨i, hi, rfl, HB⟩ := hrel
          by_cases hlt : i < m
          · have hd1 : decide ((i : Int) < (m : Int)) = true := decide_eq_true (by omega)
            obtain ⟨x, hx⟩ : ∃ x, nm[i]? = some x := ⟨_, List.getElem?_eq_getElem (by rw [HM.out]; exact hlt)⟩
            obtain ⟨b, off, rfl, hbb, d0, d1⟩ := Nms.at (Elems.ext HNM.out HB.out) hx
            obtain ⟨b', off', rfl, hbb', f0, f1⟩ := Nms.at (Elems.ext HNM7.out HB.out) hx
            have heq : ∀ wq, (Op.equalIn 10000 54 (.agg #[.string ⟨x.1.toArray⟩, .int .i64 (x.2 : Int)]) (.agg #[.string ⟨x.1.toArray⟩, .int .i64 (x.2 : Int)])).run Tryz.prog wq = .ok true wq := fun wq => by rw [eq_nm]; simp
            clear hx
            go_wp2_with fail
            go_quiet (fail)
            go_wp2_with fail
            go_roundw
            case rel => exact ⟨i + 1, by omega, by go_num, Lib.hid (bel_drewN HB.out _)⟩
            case measure => simp [intOf]; omega
          · obtain rfl : m = i := by omega
            go_wp2_with fail
            go_ret
            exact ⟨rfl, Ext.trans' B9.out HB.out⟩
end Go.Proofs.YtljgkfdnmikpfaaGreatDoor
/- What the cards of this seat share: strconv's ErrRange is an error where the program's text lays it. -/
namespace Go.Proofs.YtljgkfdnmikpfaaGreatDoor
open Go.RowKit
theorem star : "*" ++ "errors.errorString" = "*errors.errorString" := by decide
theorem row_err (u : TypeId) (h : Tryz.prog.typeName? 3 u = some "*errors.errorString") : u = 233 :=
  typeName_ptr_named (nm := "errors.errorString") (by rw [star]; kernel_rfl) (by kernel_rfl) (by decide) u (by rw [star]; exact h)
theorem err_of {l : List (String × DataW Unit)} {w : World} (hl : (l.all fun x => x.2.handleName?.isNone) = true) {nm : String} {text : List UInt8}
    (hf : l.filter (fun x => x.1 == "strconv.ErrRange") = [("strconv.ErrRange", .iface nm (.ptr (.agg [.lit (.string text)])))]) (hn : nm = "*errors.errorString") (h : laidMetH Tryz.prog l w) : Err w := by
  subst hn
  rw [MakeChecks.laidMetH_plain _ _ _ hl] at h
  have h1 := h.filter (fun x => x.1 == "strconv.ErrRange")
  rw [hf] at h1
  obtain ⟨a, s, hv, _⟩ := laid_sentinel h1 gRange (ti := 178) (by kernel_rfl) Tryz.underlying178 (tp := 233) row_err Tryz.underlying233 Tryz.underlying235 rfl rfl Tryz.underlying9 (by kernel_rfl) (by kernel_rfl)
  exact ⟨_, _, hv⟩
end Go.Proofs.YtljgkfdnmikpfaaGreatDoor
/- ReadBrackets, handed in: at every text the law answers true. The card ties the package variables of the standard library that its row lists. -/
namespace Go.Proofs.YtljgkfdnmikpfaaGreatDoor
open Go.Shelf Go.RowKit
set_option linter.unusedVariables false

theorem brackets8_law (a : ByteArray) (ha : a.size ≤ 140737488351232) {w : World} (he : Err w) : Calls Tryz.prog 6 #[.string a] w fun e w' => e = .returned (.bool true) ∧ Below w.heap.size w w' := brackets8_at a ha he
theorem ctxB {w : World} (h : laidMetH Tryz.prog Rows.readBracketsRow.laid w) : Err w := err_of (text := [118, 97, 108, 117, 101, 32, 111, 117, 116, 32, 111, 102, 32, 114, 97, 110, 103, 101]) (by kernel_rfl) (by kernel_rfl) rfl h
namespace readBrackets
open Go.ChangeShapes Go.WideShapes Go.ChangeAt Go.RowKit
theorem own : ownKnob Tryz.prog.godebug = none := by kernel_rfl
theorem laidOut : laidOutB Tryz.prog = true := by kernel_rfl
set_option linter.unusedVariables false
set_option maxRecDepth 100000 in
theorem lifted (os : Os) (started : os.Started) (H : Type) (enc : TypeId × Value → H) :
    ReturnsInHanded {} Tryz.checked os 6 .any (fun w args => (Rows.readBracketsSpec.pre enc Tryz.prog Tryz.f6 [] false w args ∧ laidMetH Tryz.prog Rows.readBracketsRow.laid w) ∧ sizedMet enc Tryz.prog Tryz.f6 (OpenSpec.ofChange Rows.readBracketsSpec) false w args)
      (Rows.readBracketsSpec.post enc Tryz.prog Tryz.f6 false true false false) := by
  refine returnsInHanded_of_change_and (C := Tryz.checked) (X := fun w _ => laidMetH Tryz.prog Rows.readBracketsRow.laid w) (fun _ _ _ hh h => h.of_heap hh) own started (by kernel_rfl) Tryz.func6
    (ChangeSpec.witness_shaped (enc := enc) (C := Tryz.checked) (os := os) (X := fun w _ => laidMetH Tryz.prog Rows.readBracketsRow.laid w) false (World.laidAll Tryz.prog os Rows.readBracketsRow.laid) #[.string ⟨#[]⟩] 8 (World.laidAll_os _ _ _)
      (World.shaped_of_ZipB (by kernel_rfl) (by kernel_rfl)) (by kernel_rfl) (by kernel_rfl) (by kernel_rfl)
      (by rw [MakeChecks.laidMetH_plain _ _ _ (by kernel_rfl)]; exact laidMet_laidAll _ (by kernel_rfl) (by kernel_rfl))) ?_
  intro W base args ds gs before hval0 hW hcnd hsz0 hL _
  have hval : ∀ (j : Nat) t v, Tryz.f6.params[j]? = some t → args[j]? = some v → Value.okWide Tryz.prog W .any base t v := hval0
  have hW' := hW
  obtain ⟨p, q, hA0, hV, rfl, hfz, hnd⟩ := hW
  have hA : DataW.TrodAll enc Tryz.prog W 0 (fun _ => true) true Tryz.f6.params.toList args.toList ds p := hA0
  have hsz : (DataW.weightsEach Tryz.prog (Tryz.f6.params.toList ++ []) (ds ++ gs)).all (· ≤ reachBytes) = true := hsz0
  rw [Tryz.params6] at hA hval hsz
  obtain ⟨v0, vs0, d0, ds0, p0, q0, hargs, rfl, rfl, h0, r0⟩ := trodAll_cons hA
  obtain ⟨rfl, rfl, rfl⟩ := trodAll_nil r0
  obtain rfl : args = #[v0] := by cases args; simp_all
  obtain ⟨rfl, rfl⟩ := trodVars_none hV
  clear hA0 hval0 hsz0
  have k0 := h0
  have lt0 := lt_of_trod h0
  obtain ⟨a0, rfl, e0, rfl, w0⟩ := ChangeMaps.open_string Tryz.underlying9 (hval 0 9 v0 rfl rfl) h0
  have s0 : a0.size ≤ 140737488351232 := weights_ok hsz (j := 0) (t := 9) (d := d0) rfl rfl _ (by rw [e0]; simp [DataW.weights])
  refine (brackets8_law a0 s0 (ctxB hL)).mono fun e W' ⟨he, bel⟩ => ?_
  subst he
  exact ⟨_, rfl, _, _, _, [], _, [], hW', trodAll_mk1 (shut_bool Tryz.underlying4 _), (trodAll_cons_mk (Below.trod laidOut (by kernel_rfl) (of_decide_eq_true (by kernel_rfl)) k0 bel lt0) trodAll_mk0), rfl, bel.frame _, fun h => by cases h⟩
theorem proved : Rows.ReadBracketsSaid :=
  OpenClaim.holds_of_wide 6 Tryz.f6 rfl rfl rfl rfl rfl rfl rfl ⟨rfl, rfl, rfl, rfl, rfl⟩ rfl rfl rfl rfl rfl (by kernel_rfl) Tryz.func6 (by kernel_rfl)
    (of_decide_eq_true (by kernel_rfl)) (by unfold Func.isWrapper; first | (rw [if_pos (by decide +kernel)]; kernel_rfl) | (rw [if_neg (by decide +kernel)]; exact ⟨rfl, rfl⟩))
    (fun os started H enc _ => lifted os started H enc)
theorem carded : Rows.ReadBracketsCardSaid :=
  Claim7.holds_tied_plain_at .later [] [.data, .data, .data, .sentinel, .sentinel] true (true, "f00b49542ba4a8c92a7fc946f6030d37583e9e6c28cfd70f94577bd756c544ac") true
    proved (fun _ h => by cases h) (by kernel_rfl) (fun _ h => by cases h) readBrackets_row_tie rfl ⟨rfl, rfl⟩ (by kernel_rfl) rfl
    (fun f fn hf hfn => by
      obtain rfl : f = 6 := Option.some.inj ((show Tryz.prog.funcNamed "sizar/sizarlaw8.ReadBrackets" = some 6 by kernel_rfl).symm.trans hf) |>.symm
      obtain rfl : fn = Tryz.f6 := (Option.some.inj (Tryz.func6.symm.trans hfn)).symm
      exact ⟨by kernel_rfl, fun j t ht => by
        rw [Tryz.params6] at ht
        have hm : t ∈ [9] := by simpa using Array.mem_of_getElem? ht
        have hall : ([9].all fun u => !Tryz.prog.wantsStandIn u) = true := by kernel_rfl
        exact (show Tryz.prog.wantsStandIn t = false by simpa using List.all_eq_true.1 hall t hm)⟩)
    (by kernel_rfl)
#print axioms carded
end readBrackets

end Go.Proofs.YtljgkfdnmikpfaaGreatDoor
