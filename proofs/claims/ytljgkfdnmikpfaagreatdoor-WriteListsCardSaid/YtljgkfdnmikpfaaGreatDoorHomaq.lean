import Derived.Test.YtljgkfdnmikpfaaGreatDoorHomap
import Derived.Test.YtljgkfdnmikpfaaGreatDoorHomac
import Derived.Test.YtljgkfdnmikpfaaGreatDoorHomaa
import Derived.Test.YtljgkfdnmikpfaaGreatDoorHomad
import Derived.Test.YtljgkfdnmikpfaaGreatDoorRows
import Derived.Test.YtljgkfdnmikpfaaGreatDoorHomai
import Derived.Test.YtljgkfdnmikpfaaGreatDoorHomaj
import Derived.Lib.SmallJoins
import Derived.Lib.LaidTab
import Derived.Lib.ItoaMem
import Derived.Laws.StructEq
import Derived.Test.YtljgkfdnmikpfaaGreatDoorCards
import Derived.Test.YtljgkfdnmikpfaaGreatDoorTie
import Derived.LaidLaws
import Derived.Lay
import Derived.LaidSub
import Derived.SevenTiedAt
import Derived.Stop.LaidErr
set_option linter.unusedVariables false
set_option linter.unusedSimpArgs false
/- How long a written text is. Pure. -/
namespace Go.Proofs.YtljgkfdnmikpfaaGreatDoor
open Go.RowKit
set_option linter.unusedVariables false

theorem digF_len : ∀ (f u : Nat), (digF f u).length ≤ f
  | 0, u => by simp [digF]
  | f + 1, u => by
    rw [digF]
    split
    · simp
    · rw [List.length_append, List.length_singleton]
      have := digF_len f (u / 10)
      omega
theorem numW_short (n : Int) : (numW n).length ≤ 26 := by
  unfold numW digW
  split
  · have := digF_len 25 n.natAbs
    rw [List.length_cons]; omega
  · have := digF_len 25 n.toNat
    omega
theorem head_len (vs : List Int) (x : Tm) : (headW vs x).length ≤ 130 := by
  cases x with
  | mk k n s ts =>
    show (if k = 0 then 95 :: numW (idxW vs n) else if k = 1 then numW n else if k = 2 then quoteB (bl s) else []).length ≤ 130
    by_cases h0 : k = 0
    · rw [if_pos h0]
      have := numW_short (idxW vs n)
      rw [List.length_cons]; omega
    · rw [if_neg h0]
      by_cases h1 : k = 1
      · rw [if_pos h1]
        have := numW_short n
        omega
      · rw [if_neg h1]
        by_cases h2 : k = 2
        · rw [if_pos h2]; exact quote_size _
        · rw [if_neg h2]; simp
theorem row_short {W : Tm → List UInt8} : ∀ (l : List Tm), (∀ x ∈ l, (W x).length + 8 ≤ 300 * sizeN x) → (rowW W l).length + 7 * l.length ≤ 300 * sizesN l
  | [], _ => by simp [rowW]
  | [x], h => by
    have := h x (by simp)
    show (W x).length + 7 * 1 ≤ 300 * (sizeN x + 0)
    omega
  | x :: y :: r, h => by
    have h1 := h x (by simp)
    have h2 := row_short (y :: r) (fun z hz => h z (List.mem_cons_of_mem _ hz))
    show (W x ++ 44 :: rowW W (y :: r)).length + 7 * ((y :: r).length + 1) ≤ 300 * (sizeN x + sizesN (y :: r))
    rw [List.length_append, List.length_cons]
    omega
theorem called_len {vs : List Int} {W : Tm → List UInt8} {x : Tm} (h : ∀ y ∈ x.args, (W y).length + 8 ≤ 300 * sizeN y) : (calledW vs W x).length + 10 ≤ 300 * sizeN x := by
  have h1 := head_len vs x
  have h2 := row_short x.args h
  have h3 : sizeN x = sizesN x.args + 1 := by cases x; rfl
  unfold calledW
  rw [List.length_append]
  split
  · simp only [List.length_nil]; omega
  · rw [List.length_cons, List.length_append, List.length_singleton]; omega
theorem plainT_len (vs : List Int) : ∀ (N : Nat) (x : Tm), sizeN x ≤ N → (PLAIN vs x).length + 10 ≤ 300 * sizeN x
  | 0, x, h => by have := size_pos x; omega
  | N + 1, x, h => by
    rw [PLAIN_eq]
    refine called_len (fun y hy => ?_)
    have := plainT_len vs N y (by have := arg_size hy; omega)
    omega
theorem items_sum : ∀ (m : Nat) (t : Tm), sizeN t ≤ m → sizesN (itemsT t).1 + sizeN (itemsT t).2 + (itemsT t).1.length ≤ sizeN t
  | 0, t, h => by have := size_pos t; omega
  | m + 1, t, h => by
    cases hq : pairT t with
    | none => rw [items_none hq]; simp [sizesN]
    | some q =>
      obtain ⟨a, b⟩ := q
      obtain ⟨h1, h2, h3, h4⟩ := pair_size hq
      rw [items_some hq]
      have ih := items_sum m b (by omega)
      cases t with
      | mk k n s ts =>
        have h2' : ts = [a, b] := h2
        subst h2'
        rw [sizeN, sizesN, sizesN, sizesN]
        simp only [sizesN, List.length_cons]
        omega
theorem size_one {x a : Tm} (h : x.args = [a]) : sizeN x = sizeN a + 1 := by
  cases x with
  | mk k n s ts =>
    have h' : ts = [a] := h
    rw [h', sizeN, sizesN, sizesN]
theorem wsize_two {x a b : Tm} (h : x.args = [a, b]) : sizeN x = sizeN a + (sizeN b + 0) + 1 := by
  cases x with
  | mk k n s ts =>
    have h' : ts = [a, b] := h
    rw [h', sizeN, sizesN, sizesN, sizesN]
section
variable {pre bet : List UInt8 → O × Bool} {vs : List Int}
theorem place_len {B : Tm → List UInt8} {m : Int} {x : Tm} (h : (B x).length + 10 ≤ 300 * sizeN x) : (placeW pre bet B m x).length + 8 ≤ 300 * sizeN x := by
  unfold placeW
  split
  · omega
  · rw [List.length_cons, List.length_append, List.length_singleton]; omega
theorem bare_len : ∀ (N : Nat) (x : Tm), sizeN x ≤ N → (BARE vs pre bet x).length + 10 ≤ 300 * sizeN x
  | 0, x, h => by have := size_pos x; omega
  | N + 1, x, h => by
    have ih : ∀ y, sizeN y < sizeN x → ∀ m, (placeW pre bet (BARE vs pre bet) m y).length + 8 ≤ 300 * sizeN y := fun y hy m => place_len (bare_len N y (by omega))
    rw [BARE_eq]
    unfold bareW
    split
    · split
      · rename_i a he
        have h1 := ih a (arg_size (by rw [he]; simp)) (mostW pre bet a (sidesB (bl (opW pre bet x).1.k) (opW pre bet x).1.l).2)
        have h2 : sizeN x = sizeN a + 1 := size_one he
        have h3 := quote_size (bl (opW pre bet x).1.n)
        unfold aheadW besideW
        rw [List.length_append, List.length_cons]
        omega
      · rename_i a b he
        have h1 := ih a (arg_size (by rw [he]; simp)) (mostW pre bet a (leftW pre bet (opW pre bet x).1 a))
        have h1b := ih b (arg_size (by rw [he]; simp)) (mostW pre bet b (sidesB (bl (opW pre bet x).1.k) (opW pre bet x).1.l).2)
        have h2 : sizeN x = sizeN a + (sizeN b + 0) + 1 := wsize_two he
        have h3 := quote_size (bl (opW pre bet x).1.n)
        have h4 : (if bl (opW pre bet x).1.n == [44] then [44] else 32 :: (quoteB (bl (opW pre bet x).1.n) ++ [32])).length ≤ 132 := by
          split
          · simp
          · rw [List.length_cons, List.length_append, List.length_singleton]; omega
        unfold betweenW besideW
        rw [List.length_append, List.length_append]
        omega
      · have := size_pos x
        simp only [List.length_nil]
        omega
    · split
      · rename_i hl
        have hs := items_sum (sizeN x) x (Nat.le_refl _)
        have hi := items_size (sizeN x) x (Nat.le_refl _)
        have hne : (itemsT x).1 ≠ [] := by
          cases x with
          | mk k n s ts =>
            simp only [Bool.and_eq_true, beq_iff_eq, decide_eq_true_eq] at hl
            obtain ⟨hk, hsn, hln⟩ := hl
            have hk2 : k = 2 := hk
            have hs2 : s.data.toList = [46] := hsn
            have hl2 : ts.length = 2 := hln
            clear hk hsn hln
            match ts, hl2 with
            | [a, b], _ =>
              have hp : pairT (.mk k n s [a, b]) = some (a, b) := by
                show (if (k == 2 && s.data.toList == [46]) = true then some (a, b) else none) = _
                rw [hk2, hs2]
                rfl
              rw [items_some hp]
              simp
        have hl1 : 1 ≤ (itemsT x).1.length := by
          cases h : (itemsT x).1 with
          | nil => exact absurd h hne
          | cons a r => simp
        have hr := row_short (W := placeW pre bet (BARE vs pre bet) 999) (itemsT x).1 (fun y hy => ih y (hi.1 y hy) 999)
        have ht : (tailW pre bet (BARE vs pre bet) (itemsT x).2).length ≤ 300 * sizeN (itemsT x).2 := by
          unfold tailW
          split
          · simp
          · rcases hi.2 with h | ⟨h, _⟩
            · have := ih _ h 999
              rw [List.length_cons]; omega
            · exact absurd h hne
        unfold listW
        rw [List.length_cons, List.length_append, List.length_append, List.length_singleton]
        omega
      · split
        · split
          · rename_i a he
            have h1 := ih a (arg_size (by rw [he]; simp)) 1200
            have h2 : sizeN x = sizeN a + 1 := size_one he
            rw [List.length_cons, List.length_append, List.length_singleton]
            omega
          · have := size_pos x
            simp
            omega
        · exact called_len (fun y hy => ih y (arg_size hy) 999)
theorem write_len {x : Tm} (hx : goodT x = true) : (WRITE vs pre bet x).length ≤ 1000000 := by
  have h1 := place_len (pre := pre) (bet := bet) (m := 1200) (bare_len (vs := vs) (pre := pre) (bet := bet) (sizeN x) x (Nat.le_refl _))
  have h2 := (good_parts hx).1
  unfold WRITE
  omega
theorem plain_short2 {x : Tm} (hx : goodT x = true) : (PLAIN vs x).length ≤ 1000000 := by
  have h1 := plainT_len vs (sizeN x) x (Nat.le_refl _)
  have h2 := (good_parts hx).1
  omega
end
end Go.Proofs.YtljgkfdnmikpfaaGreatDoor
/- A list of atoms, as it is written, and read where the end follows at once: pure. -/
namespace Go.Proofs.YtljgkfdnmikpfaaGreatDoor
open Go.RowKit
set_option linter.unusedVariables false

/-- Cut one way only. -/
theorem lexTo_one {p : Nat} {s : List UInt8} {l : List (TokB × Nat)} (h : LexTo p s l) : ∀ {l'}, LexTo p s l' → l = l' := by
  induction h with
  | nil p => intro l' h'; cases h'; rfl
  | @skip p k c r l hn hl ih =>
    intro l' h'
    cases h' with
    | skip h1 h2 => rw [hn] at h1; cases h1; exact ih h2
    | tok h1 h2 => rw [hn] at h1; cases h1
  | @tok p t c r l hn hl ih =>
    intro l' h'
    cases h' with
    | skip h1 h2 => rw [hn] at h1; cases h1
    | tok h1 h2 => rw [hn] at h1; cases h1; rw [ih h2]
/-- Without numbers it is cut just so. -/
theorem lexTo_all {p : Nat} {s : List UInt8} {l : List (TokB × Nat)} (h : LexTo p s l) : (∀ x ∈ l, x.1.kind ≠ 4) → ∀ n, s.length ≤ n → lexL n p s = some l := by
  have hcase : ∀ c r, nextU c r = nextC c r ∨ ∃ m k q, nextU c r = .tok ⟨4, [], m, k, q⟩ := fun c r => by
    unfold nextU
    by_cases hd : digitB c = true
    · rw [if_pos hd]; exact Or.inr ⟨_, _, _, rfl⟩
    · rw [if_neg hd]; exact Or.inl rfl
  induction h with
  | nil p => intro _ n _; exact lex_nil n p
  | @skip p k c r l hn hl ih =>
    intro hx n hz
    have hk := (nextU_pos c r).1 k hn
    cases n with
    | zero => simp at hz
    | succ n =>
      rw [List.length_cons] at hz
      rcases hcase c r with he | ⟨m, k2, q, he⟩
      · rw [hn] at he
        rw [lexL, ← he]
        exact ih hx n (by rw [List.length_drop, List.length_cons]; omega)
      · rw [hn] at he; cases he
  | @tok p t c r l hn hl ih =>
    intro hx n hz
    have hk := (nextU_pos c r).2 t hn
    cases n with
    | zero => simp at hz
    | succ n =>
      rw [List.length_cons] at hz
      rcases hcase c r with he | ⟨m, k2, q, he⟩
      · rw [hn] at he
        rw [lexL, ← he]
        simp only
        rw [ih (fun x hx' => hx x (List.mem_cons_of_mem _ hx')) n (by rw [List.length_drop, List.length_cons]; omega)]
        rfl
      · rw [hn] at he
        injection he with he
        exact absurd (by rw [he]) (hx (t, p) (by simp))
/-- The end at once. -/
def Dot (p : Nat) (b : List UInt8) (t : List TokP) : Prop := LexTo p (b ++ [46]) (t ++ [endTok (p + b.length)])
theorem dot_close {p : Nat} {b : List UInt8} {t : List TokP} (h : Pc p b t) : Dot p (b ++ [93]) (t ++ [(mkTok 93 false, p + b.length)]) := by
  unfold Dot
  rw [List.append_assoc, List.append_assoc]
  refine h ([93] ++ [46]) _ (by show stopB 93 = true; decide) ?_
  have h1 := mark_next 93 [46] (Or.inl (by decide))
  refine LexTo.tok (t := mkTok 93 false) h1 ?_
  rw [List.length_append, ← Nat.add_assoc]
  exact LexTo.tok (t := ⟨6, [], 0, 1, false⟩) rfl (LexTo.nil _)
theorem dot_mark {p : Nat} {b : List UInt8} {t : List TokP} {c : UInt8} (hne : b ≠ []) (hc : c = 91 ∧ b.head? ≠ some 93) (h : Dot (p + 1) b t) : Dot p (c :: b) ((mkTok c (openB b), p) :: t) := by
  obtain ⟨d, r, rfl⟩ := List.exists_cons_of_ne_nil hne
  have h1 := mark_next c ((d :: r) ++ [46]) (Or.inr (Or.inl ⟨hc.1, by simpa using hc.2⟩))
  refine LexTo.tok (t := mkTok c (openB (d :: r))) h1 ?_
  unfold Dot at h
  rw [show p + (c :: d :: r).length = p + 1 + (d :: r).length by simp only [List.length_cons]; omega]
  exact h
theorem dot_bar {a b : List UInt8} {t u : List TokP} {p : Nat} (hne : b ≠ []) (ha : Pc p a t) (hb : Dot (p + a.length + 1) b u) : Dot p (a ++ 124 :: b) (t ++ (mkTok 124 (openB b), p + a.length) :: u) := by
  unfold Dot at hb ⊢
  rw [List.append_assoc, List.append_assoc]
  obtain ⟨d, r, rfl⟩ := List.exists_cons_of_ne_nil hne
  refine ha (124 :: ((d :: r) ++ [46])) _ (by show stopB 124 = true; decide) ?_
  have h1 := mark_next 124 ((d :: r) ++ [46]) (Or.inl (by decide))
  refine LexTo.tok (t := mkTok 124 (openB (d :: r))) h1 ?_
  rw [List.length_append, ← Nat.add_assoc, List.length_cons (a := 124), show p + a.length + ((d :: r).length + 1) = p + a.length + 1 + (d :: r).length by omega]
  exact hb
abbrev atT (s : ByteArray) : Tm := .mk 2 0 s []
abbrev qW (x : Tm) : List UInt8 := quoteB (bl x.s)
theorem quote_ne {s : List UInt8} (hm : s.all mayQ = true) (hl : s.length ≤ 64) : quoteB s ≠ [] := by
  unfold quoteB
  split
  · rename_i h
    intro e
    rw [e] at h
    exact absurd h (by decide)
  · rw [if_pos (by rw [hm, decide_eq_true hl]; rfl)]; simp
theorem row_ne {W : Tm → List UInt8} {x : Tm} (h : W x ≠ []) : ∀ r, rowW W (x :: r) ≠ []
  | [] => h
  | y :: r => by show W x ++ 44 :: rowW W (y :: r) ≠ []; simp
theorem row_names : ∀ (l : List ByteArray), l ≠ [] → (∀ s ∈ l, (bl s).all mayQ = true ∧ (bl s).length ≤ 64) → ∀ p, ∃ t, Pc p (rowW qW (l.map atT)) t ∧ t.length ≤ 2 * l.length ∧ ∀ x ∈ t, x.1.kind ≠ 4
  | [], h, _, _ => absurd rfl h
  | [s], _, h, p => by
    obtain ⟨h1, h2⟩ := h s (by simp)
    refine ⟨_, pc_name h1 h2 p, by simp, fun x hx => ?_⟩
    rw [List.mem_singleton] at hx
    subst hx
    show nmK (bl s) ≠ 4
    unfold nmK; split <;> omega
  | s :: q :: r, _, h, p => by
    obtain ⟨h1, h2⟩ := h s (by simp)
    obtain ⟨t, g1, g2, g3⟩ := row_names (q :: r) (by simp) (fun z hz => h z (List.mem_cons_of_mem _ hz)) (p + (quoteB (bl s)).length + 1)
    refine ⟨_, pc_comma (Or.inl rfl) (row_ne (quote_ne (h q (by simp)).1 (h q (by simp)).2) _) (pc_name h1 h2 p) g1, ?_, fun x hx => ?_⟩
    · simp only [List.length_append, List.length_cons, List.length_nil] at g2 ⊢; omega
    · rcases List.mem_append.1 hx with hx | hx
      · rw [List.mem_singleton] at hx
        subst hx
        show nmK (bl s) ≠ 4
        unfold nmK; split <;> omega
      · rcases List.mem_cons.1 hx with rfl | hx
        · show (5 : Nat) ≠ 4; omega
        · exact g3 x hx
/-- The text of the row, one by one. -/
theorem row_snoc (W : Tm → List UInt8) (x : Tm) : ∀ l : List Tm, rowW W (l ++ [x]) = (if l = [] then [] else rowW W l ++ [44]) ++ W x
  | [] => rfl
  | [y] => by rw [if_neg (by simp)]; show W y ++ 44 :: W x = _; simp [rowW]
  | y :: z :: r => by
    rw [if_neg (by simp)]
    show W y ++ 44 :: rowW W (z :: r ++ [x]) = (W y ++ 44 :: rowW W (z :: r)) ++ [44] ++ W x
    rw [row_snoc W x (z :: r), if_neg (by simp)]
    simp
theorem lrow_len {W : Tm → List UInt8} {k : Nat} : ∀ {l : List Tm}, (∀ x ∈ l, (W x).length ≤ k) → (rowW W l).length ≤ (k + 1) * l.length
  | [], _ => by simp [rowW]
  | [x], h => by have := h x (by simp); show (W x).length ≤ _; simp only [List.length_cons, List.length_nil]; omega
  | x :: y :: r, h => by
    have h1 := h x (by simp)
    have h2 := lrow_len (W := W) (k := k) (l := y :: r) (fun z hz => h z (List.mem_cons_of_mem _ hz))
    show (W x ++ 44 :: rowW W (y :: r)).length ≤ _
    rw [List.length_append, List.length_cons, List.length_cons (a := x)]
    have : (k + 1) * ((y :: r).length + 1) = (k + 1) * (y :: r).length + (k + 1) := by rw [Nat.mul_add, Nat.mul_one]
    omega
/-- A tail: the list that is empty, or a variable. -/
def endW (tail : Bool) : Tm := if tail then .mk 0 5 ⟨#[]⟩ [] else aT [91, 93]
def tailS (tail : Bool) : List UInt8 := if tail then [124, 95, 48] else []
/-- No operators. -/
def noOps (xs : List O) (s : ByteArray) : Prop := (oneB xs (bl s) 1).2 = false ∧ (oneB xs (bl s) 2).2 = false
section
variable {xs : List O}
theorem lev_atom {s : ByteArray} (h : noOps xs s) : levW (preO xs) (betO xs) (atT s) = 0 := by
  have h1 : preO xs (bl s) = zO := one_not h.1
  have h2 : betO xs (bl s) = zO := one_not h.2
  show max (preO xs (bl s)).1.l (betO xs (bl s)).1.l = 0
  rw [h1, h2]
  rfl
theorem place_atom {vs : List Int} {s : ByteArray} (h : noOps xs s) {m : Int} (hm : 0 ≤ m) : placeW (preO xs) (betO xs) (BARE vs (preO xs) (betO xs)) m (atT s) = qW (atT s) := by
  unfold placeW
  rw [lev_atom h, if_pos hm, BARE_eq, bareW_leaf]
  rfl
theorem vars_atoms : ∀ (l : List ByteArray) (acc : List Int), varsL (l.map atT) acc = acc
  | [], acc => rfl
  | s :: r, acc => by
    show varsL (r.map atT) (varsT (atT s) acc) = acc
    rw [show varsT (atT s) acc = acc from by unfold atT; rw [varsT, if_neg (by decide), varsL]]
    exact vars_atoms r acc
theorem write_list {l : List ByteArray} (hne : l ≠ []) (hl : ∀ s ∈ l, noOps xs s) (tail : Bool) : writeT xs (listT (l.map atT) (endW tail)) = 91 :: (rowW qW (l.map atT) ++ (tailS tail ++ [93])) := by
  obtain ⟨s0, l0, rfl⟩ := List.exists_cons_of_ne_nil hne
  obtain ⟨vs, hvs⟩ : ∃ vs, varsT (listT ((s0 :: l0).map atT) (endW tail)) [] = vs := ⟨_, rfl⟩
  have hvs2 : tail = true → vs = [5] := fun ht => by rw [← hvs, vars_list, vars_atoms, ht]; rfl
  show WRITE (varsT (listT ((s0 :: l0).map atT) (endW tail)) []) _ _ _ = _
  rw [hvs]
  unfold WRITE placeW
  have hit : itemsT (listT ((s0 :: l0).map atT) (endW tail)) = ((s0 :: l0).map atT, endW tail) := by
    rw [items_list, items_none (by cases tail <;> rfl)]; simp
  have hop : opW (preO xs) (betO xs) (listT ((s0 :: l0).map atT) (endW tail)) = zO := by
    show opW _ _ (.mk 2 0 dotS [atT s0, listT (l0.map atT) (endW tail)]) = zO
    rw [opW_two, if_pos (by rfl)]
  have hlev : levW (preO xs) (betO xs) (listT ((s0 :: l0).map atT) (endW tail)) = 0 := by
    show (if ((2 : Int) == 2 && false) = true then _ else (opW _ _ (listT ((s0 :: l0).map atT) (endW tail))).1.l) = 0
    rw [if_neg (by decide), hop]
    rfl
  rw [hlev, if_pos (by decide), BARE_eq]
  unfold bareW
  rw [hop, if_neg (by show ¬ (false = true); decide), if_pos (by rfl)]
  unfold listW
  rw [hit]
  have hrow : rowW (placeW (preO xs) (betO xs) (BARE vs (preO xs) (betO xs)) 999) ((s0 :: l0).map atT) = rowW qW ((s0 :: l0).map atT) := rowW_agree fun x hx => by
    obtain ⟨s, hs, rfl⟩ := List.mem_map.1 hx
    exact place_atom (hl s hs) (by decide)
  rw [hrow]
  congr 2
  cases tail with
  | false => rfl
  | true =>
    rw [hvs2 rfl]
    show (if nilW (.mk 0 5 ⟨#[]⟩ []) = true then [] else 124 :: placeW _ _ _ 999 (.mk 0 5 ⟨#[]⟩ [])) ++ [93] = [124, 95, 48] ++ [93]
    rw [if_neg (by decide)]
    unfold placeW
    rw [show levW (preO xs) (betO xs) (.mk 0 5 ⟨#[]⟩ []) = 0 from rfl, if_pos (by decide), BARE_eq, bareW_leaf]
    rfl
theorem list_sizes (t : Tm) : ∀ l : List ByteArray, sizeN (listT (l.map atT) t) = 2 * l.length + sizeN t
  | [] => by simp [listT]
  | s :: r => by
    show sizeN (consT (atT s) (listT (r.map atT) t)) = _
    unfold consT
    rw [sizeN, sizesN, sizesN, sizesN, list_sizes t r, show sizeN (atT s) = 1 from rfl, List.length_cons]
    omega
theorem list_depths (t : Tm) : ∀ l : List ByteArray, depthN (listT (l.map atT) t) ≤ l.length + 1 + depthN t
  | [] => by simp [listT]
  | s :: r => by
    have := list_depths t r
    show depthN (consT (atT s) (listT (r.map atT) t)) ≤ _
    unfold consT
    rw [depthN, depthsN, depthsN, depthsN, show depthN (atT s) = 1 from rfl, List.length_cons]
    omega
theorem list_formed (t : Tm) (ht : formedT t = true) : ∀ l : List ByteArray, (∀ s ∈ l, formedT (atT s) = true) → formedT (listT (l.map atT) t) = true
  | [], _ => ht
  | s :: r, h => by
    show formedT (consT (atT s) (listT (r.map atT) t)) = true
    unfold consT
    rw [formedT, formedL, formedL, formedL, h s (by simp), list_formed t ht r (fun z hz => h z (List.mem_cons_of_mem _ hz))]
    rfl
theorem formed_end (tail : Bool) : formedT (endW tail) = true ∧ sizeN (endW tail) = 1 ∧ depthN (endW tail) = 1 ∧ numsT (endW tail) := by
  cases tail
  · exact ⟨rfl, rfl, rfl, by unfold endW aT; rw [if_neg (by decide), numsT, numsL]; exact ⟨fun h => (by cases h), trivial⟩⟩
  · exact ⟨rfl, rfl, rfl, by unfold endW; rw [if_pos rfl, numsT, numsL]; exact ⟨fun h => (by cases h), trivial⟩⟩
theorem list_nums (tail : Bool) : ∀ l : List ByteArray, numsT (listT (l.map atT) (endW tail))
  | [] => (formed_end tail).2.2.2
  | s :: r => by
    show numsT (consT (atT s) (listT (r.map atT) (endW tail)))
    unfold consT
    rw [numsT, numsL, numsL, numsL]
    refine ⟨fun h => (by cases h), ?_, list_nums tail r, trivial⟩
    unfold atT; rw [numsT, numsL]; exact ⟨fun h => (by cases h), trivial⟩
theorem list_good {l : List ByteArray} (hn : l.length ≤ 30) (hl : ∀ s ∈ l, formedT (atT s) = true) (tail : Bool) : goodT (listT (l.map atT) (endW tail)) = true := by
  obtain ⟨h1, h2, h3, h4⟩ := formed_end tail
  have h5 := list_depths (endW tail) l
  exact good_of (by rw [list_sizes, h2]; omega) (by omega) (list_formed _ h1 l hl)
theorem atom_may {s : ByteArray} (h : formedT (atT s) = true) : (bl s).all mayQ = true ∧ (bl s).length ≤ 64 := by
  rw [formedT, Bool.and_eq_true] at h
  have h1 := h.1
  unfold plainT at h1
  rw [if_neg (by decide), if_neg (by decide), if_pos rfl] at h1
  simp only [Bool.and_eq_true, decide_eq_true_eq] at h1
  exact ⟨may_letters h1.2, h1.1.1.2⟩
/-- A list of atoms is read back where the end follows at once. -/
theorem list_read (hg : goodB xs = true) {l : List ByteArray} (hne : l ≠ []) (hn : l.length ≤ 30) (hl : ∀ s ∈ l, noOps xs s ∧ formedT (atT s) = true) (tail : Bool) :
    (writeT xs (listT (l.map atT) (endW tail))).length ≤ 4000 ∧ readB oneR xs (writeT xs (listT (l.map atT) (endW tail)) ++ [46]) = .ok (renT (varsT (listT (l.map atT) (endW tail)) []) (listT (l.map atT) (endW tail)), nmsW (varsT (listT (l.map atT) (endW tail)) []).length) := by
  have hgt := list_good hn (fun s hs => (hl s hs).2) tail
  obtain ⟨t, h1, h2⟩ := write_toks (xs := xs) hgt (list_nums tail l)
  have hw := write_list hne (fun s hs => (hl s hs).1) tail
  have hml : ∀ s ∈ l, (bl s).all mayQ = true ∧ (bl s).length ≤ 64 := fun s hs => atom_may (hl s hs).2
  have hlen : (writeT xs (listT (l.map atT) (endW tail))).length ≤ 4000 := by
    rw [hw]
    have h3 := lrow_len (W := qW) (k := 130) (l := l.map atT) (fun x hx => by
      obtain ⟨s, hs, rfl⟩ := List.mem_map.1 hx
      exact head_len [] (atT s))
    rw [List.length_map] at h3
    have h4 : (tailS tail).length ≤ 3 := by cases tail <;> decide
    simp only [List.length_cons, List.length_append, List.length_nil]
    omega
  refine ⟨hlen, ?_⟩
  -- the tokens, told one by one
  obtain ⟨tr, k1, k2, k3⟩ := row_names l hne hml 1
  obtain ⟨s0, l0, rfl⟩ := List.exists_cons_of_ne_nil hne
  obtain ⟨c, r, e1, n1, _⟩ := name_head (hml s0 (by simp)).1 (hml s0 (by simp)).2 []
  have hhead : ∀ X : List UInt8, (rowW qW ((s0 :: l0).map atT) ++ X).head? ≠ some 93 := fun X => by
    have : ∃ Y, rowW qW ((s0 :: l0).map atT) = c :: Y := by
      rw [List.append_nil] at e1
      cases l0 with
      | nil => exact ⟨_, e1⟩
      | cons q z => exact ⟨r ++ 44 :: rowW qW ((q :: z).map atT), by show quoteB (bl s0) ++ 44 :: rowW qW ((q :: z).map atT) = _; rw [e1]; rfl⟩
    obtain ⟨Y, hY⟩ := this
    rw [hY]
    simpa using n1
  have hne2 : ∀ X : List UInt8, rowW qW ((s0 :: l0).map atT) ++ (X ++ [93]) ≠ [] := fun X => by simp
  have both : ∃ t0 : List TokP, Pc 0 (91 :: (rowW qW ((s0 :: l0).map atT) ++ (tailS tail ++ [93]))) t0 ∧ Dot 0 (91 :: (rowW qW ((s0 :: l0).map atT) ++ (tailS tail ++ [93]))) t0 ∧ t0.length ≤ 1000 ∧ ∀ x ∈ t0, x.1.kind ≠ 4 := by
    cases tail with
    | false =>
      refine ⟨_, pc_mark (hne2 []) (Or.inr (Or.inl ⟨rfl, hhead _⟩)) (pc_close (Or.inr (Or.inl rfl)) k1), dot_mark (hne2 []) ⟨rfl, hhead _⟩ (dot_close k1), ?_, fun x hx => ?_⟩
      · simp only [List.length_cons, List.length_append, List.length_nil] at k2 hn ⊢; omega
      · rcases List.mem_cons.1 hx with rfl | hx
        · show (5 : Nat) ≠ 4; omega
        · rcases List.mem_append.1 hx with hx | hx
          · exact k3 x hx
          · rw [List.mem_singleton] at hx; subst hx; show (5 : Nat) ≠ 4; omega
    | true =>
      have hv := pc_var (i := 0) (by decide) (0 + 1 + (rowW qW ((s0 :: l0).map atT)).length + 1)
      refine ⟨_, pc_mark (hne2 [124, 95, 48]) (Or.inr (Or.inl ⟨rfl, hhead _⟩)) (pc_comma (Or.inr rfl) (by simp) k1 (pc_close (Or.inr (Or.inl rfl)) hv)), dot_mark (hne2 [124, 95, 48]) ⟨rfl, hhead _⟩ (dot_bar (by simp) k1 (dot_close hv)), ?_, fun x hx => ?_⟩
      · simp only [List.length_cons, List.length_append, List.length_nil] at k2 hn ⊢; omega
      · rcases List.mem_cons.1 hx with rfl | hx
        · show (5 : Nat) ≠ 4; omega
        · rcases List.mem_append.1 hx with hx | hx
          · exact k3 x hx
          · rcases List.mem_cons.1 hx with rfl | hx
            · show (5 : Nat) ≠ 4; omega
            · rcases List.mem_append.1 hx with hx | hx
              · rw [List.mem_singleton] at hx; subst hx; show (3 : Nat) ≠ 4; omega
              · rw [List.mem_singleton] at hx; subst hx; show (5 : Nat) ≠ 4; omega
  obtain ⟨t0, p1, p2, p3, p4⟩ := both
  rw [← hw] at p1 p2
  have heq : t = t0 := by
    have h := lexTo_one (write_lex h1) (write_lex p1)
    exact List.append_cancel_right h
  subst heq
  unfold Dot at p2
  rw [Nat.zero_add] at p2
  have hcut : cutB (writeT xs (listT ((s0 :: l0).map atT) (endW tail)) ++ [46]) = .ok (t ++ [endTok (writeT xs (listT ((s0 :: l0).map atT) (endW tail))).length]) := by
    refine cutB_ok.2 ⟨by rw [List.length_append]; simp only [List.length_cons, List.length_nil]; omega, lexTo_all p2 (fun x hx => ?_) _ (Nat.le_refl _), by rw [List.length_append]; simp only [List.length_cons, List.length_nil]; omega⟩
    rcases List.mem_append.1 hx with hx | hx
    · exact p4 x hx
    · rw [List.mem_singleton] at hx; subst hx; show (6 : Nat) ≠ 4; omega
  unfold readB
  rw [if_pos hg, hcut]
  exact h2 _
end
end Go.Proofs.YtljgkfdnmikpfaaGreatDoor
/- append of a string's bytes to a row of the call's own. Nothing here speaks of one program. -/
namespace Go.Proofs.YtljgkfdnmikpfaaGreatDoor
open Go.RowKit
set_option linter.unusedVariables false

section
variable {P : Program}
theorem run_append_room_row (w : World) (t tx ty e : TypeId) (i : TypeInfo) (ht : P.underlying t = some (.slice e)) (hi : P.info? e = some i) (g sLen sCap : Nat) (cur : Array Value) (hg : w.heap[g]? = some (.cells cur e (0, 0)))
    (x : Value) (n : Nat) (news : List Value) (hs : Src P i.size tx x n news w) (hroom : sLen + n ≤ sCap) (hfit : sLen * i.size + news.length ≤ cur.size) :
    (Builtin.append_ #[t, tx] ty #[.slice (some ⟨g, 0, none⟩) sLen sCap, x]).run P w =
      .ok (.slice (some ⟨g, 0, none⟩) (sLen + n) sCap) (w.setRow g (cur.toList.take (sLen * i.size) ++ news ++ cur.toList.drop (sLen * i.size + news.length)).toArray) := by
  have hst := run_storeCells_at P g (sLen * i.size) e news 0 cur w hg (by simpa using hfit) hs.one
  simp only [Nat.add_zero] at hst
  rcases hs.kind with ⟨e', hk⟩ | hk <;> simp [Builtin.append_, run_underlying ht, run_underlying hk, sizeOf, typeInfo, hi, hs.len, hroom, hs.cells, Addr.add_lit, hst]
theorem run_append_src (w : World) (base : Nat) (t tx ty e : TypeId) (i : TypeInfo) (z : Value) (size bytes : Nat) (ht : P.underlying t = some (.slice e)) (hi : P.info? e = some i) (hz : i.zero = some z) (hsize : i.size = size) (hpos : 0 < size) (hby : i.bytes = bytes) (hzs : z.cells.size = size)
    (v : Value) (n : Nat) (xs : List Value) (hown : w.ownsRow base e size v n xs) (x : Value) (m : Nat) (news : List Value) (hs : Src P i.size tx x m news w)
    (h63 : n + m ≤ maxLen) (hbytes : (n + m) * bytes ≤ 140737488355328) (hbase : base ≤ w.heap.size) :
    ∃ v' w', (Builtin.append_ #[t, tx] ty #[v, x]).run P w = .ok v' w' ∧ w'.ownsRow base e size v' (n + m) (xs ++ news) ∧ w.grownBy w' v.ownBlock ∧ (v'.ownBlock = v.ownBlock ∨ v'.ownBlock = some w.heap.size) := by
  subst hsize
  subst hby
  have hl := hs.newsLen
  have hsmall : n + m ≤ 9223372036854775807 := by simp only [maxLen] at h63; omega
  have hlen : (xs ++ news).length = (n + m) * i.size := by rw [List.length_append, hown.1, hl, Nat.add_mul]
  have grown : ∀ (old : Nat), old < n + m → ∀ (row : Option Nat),
      (w.drew.alloc (.cells ((xs ++ news).toArray ++ Builtin.zeroCells z.cells (grownCap w (n + m) old e - (n + m))) e)).ownsRow base e i.size
        (.slice (some ⟨w.heap.size, 0, none⟩) (n + m) (grownCap w (n + m) old e)) (n + m) (xs ++ news) ∧
      w.grownBy (w.drew.alloc (.cells ((xs ++ news).toArray ++ Builtin.zeroCells z.cells (grownCap w (n + m) old e - (n + m))) e)) row := by
    intro old ho row
    have hge := grownCap_ge w (n + m) old e
    have hcm : grownCap w (n + m) old e ≤ maxLen := grownCap_le_maxLen w (n + m) old e h63
    refine ⟨⟨hlen, .inr ⟨w.heap.size, _, _, rfl, hbase, heap_alloc_new w.drew _, hge, hcm, ?_, ?_⟩⟩, ⟨rfl, rfl, rfl, by simp, fun k hk _ => by first | exact heap_alloc_old w.drew _ hk | exact heap_alloc_old w.drew _ _ hk⟩⟩
    · simp only [Array.size_append, List.size_toArray, size_zeroCells, hzs, hlen, ← Nat.add_mul]
      congr 1
      omega
    · simp only [Array.toList_append]
      rw [← hlen]
      exact List.take_left
  rcases hown.2 with ⟨rfl, rfl⟩ | ⟨g, cap, cur, rfl, hbg, hg, hnc, hcm, hcs, htake⟩
  · have hx : xs = [] := List.eq_nil_of_length_eq_zero (by simpa using hown.1)
    subst hx
    by_cases hm : m = 0
    · subst hm
      have hn : news = [] := List.eq_nil_of_length_eq_zero (by simpa using hl)
      subst hn
      exact ⟨_, w, run_append_nothing w t tx ty e i ht hi none 0 0 (Nat.le_refl _) x hs, by simpa using hown, ⟨rfl, rfl, rfl, Nat.le_refl _, fun _ _ _ => rfl⟩, Or.inl rfl⟩
    · have hr := run_append_grow_src (P := P) w t tx ty e i z ht hi hz none 0 0 [] (run_firstCells_none w.drew i.size 0 0 0) x m news hs (by omega) (by omega) (growslice_fits (by omega) (by simpa using hbytes))
      have hgr := grown 0 (by omega) (Value.ownBlock (.slice none 0 0))
      simp only [Nat.zero_add, List.nil_append] at hgr hr ⊢
      exact ⟨_, _, hr, hgr.1, hgr.2, Or.inr rfl⟩
  · by_cases hroom : n + m ≤ cap
    · have hfit : n * i.size + news.length ≤ cur.size := by rw [hl, hcs, ← Nat.add_mul]; exact Nat.mul_le_mul_right _ hroom
      have hr := run_append_room_row (P := P) w t tx ty e i ht hi g n cap cur hg x m news hs hroom hfit
      refine ⟨_, _, hr, ⟨hlen, .inr ⟨g, cap, _, rfl, hbg, setRow_heap w g cur _ e _ hg, hroom, hcm, ?_, ?_⟩⟩, ⟨rfl, rfl, rfl, by simp, fun k _ hk => setRow_other w g k _ (fun e => hk (by simp [Value.ownBlock, e]))⟩, Or.inl rfl⟩
      · simp only [List.size_toArray, List.length_append, List.length_take, List.length_drop, Array.length_toList]
        omega
      · rw [htake, ← hlen]
        exact List.take_left
    · have holds : ∀ j u, xs[j]? = some u → w.cell? ((⟨g, 0, none⟩ : Addr).add j) = some u := hown.cells (g := g) rfl
      have hr := run_append_grow_src (P := P) w t tx ty e i z ht hi hz (some ⟨g, 0, none⟩) n cap xs (run_firstCells_some w.drew i.size n ⟨g, 0, none⟩ n cap xs hown.1 (by simpa using holds)) x m news hs (by omega) (by omega) (growslice_fits (by omega) hbytes)
      have hgr := grown cap (by omega) (Value.ownBlock (.slice (some ⟨g, 0, none⟩) n cap))
      exact ⟨_, _, hr, hgr.1, hgr.2, Or.inr rfl⟩
theorem wpList_append_s {w : World} {ops : Array Oper} {rest : List Oper} {o : Oper} {a : Act} {Q : Exit → Act → World → Prop} (hgd : o.guard = none) (s x : Operand) (t tx : TypeId)
    (ho : o.op = .call { callee := .builtin .append, args := #[s, x], argTypes := #[t, tx] })
    (base : Nat) (e : TypeId) (i : TypeInfo) (z : Value) (bytes : Nat) (ht : P.underlying t = some (.slice e)) (htx : P.underlying tx = some .string) (hi : P.info? e = some i) (hz : i.zero = some z) (hsize : i.size = 1) (hby : i.bytes = bytes) (hzs : z.cells.size = 1)
    (v : Value) (n : Nat) (xs : List Value) (hs : a.eval s = v) (hown : w.ownsRow base e 1 v n xs) (b : ByteArray) (hx : a.eval x = .string b)
    (h63 : n + b.size ≤ maxLen) (hbytes : (n + b.size) * bytes ≤ 140737488355328) (hbase : base ≤ w.heap.size)
    (h : ∀ (a' : Option Addr) (c' : Nat) (w' : World), w'.ownsRow base e 1 (.slice a' (n + b.size) c') (n + b.size) (xs ++ byteCells b) → w.grownBy w' v.ownBlock → ((Value.slice a' (n + b.size) c').ownBlock = v.ownBlock ∨ (Value.slice a' (n + b.size) c').ownBlock = some w.heap.size) → wpList P ops Q rest (a.put o.dst (.slice a' (n + b.size) c')) w') :
    wpList P ops Q (o :: rest) a w := by
  refine wpList_plain hgd fun K hK => ?_
  obtain ⟨v', w', hr, h2, h3, h4⟩ := run_append_src (P := P) w base t tx o.type e i z 1 bytes ht hi hz hsize (by omega) hby hzs v n xs hown (.string b) b.size (byteCells b) (by rw [hsize]; exact Src.ofString w htx b) h63 hbytes hbase
  obtain ⟨a', c', rfl, _⟩ := row_formk h2
  unfold Oper.wp execOp
  simp only [ho, resolve, invoke, builtin, Sem.run_bind, Sem.run_pure, Result.andThen_ok, List.map_toArray, List.map_cons, List.map_nil, hs, hx, hr]
  exact hK _ _ (h a' c' w' h2 h3 h4)
end
end Go.Proofs.YtljgkfdnmikpfaaGreatDoor
/- Rows of numbers; a term's variables' numbers, one behind the other. -/
namespace Go.Proofs.YtljgkfdnmikpfaaGreatDoor
open Go.RowKit
set_option linter.unusedVariables false

/-- A row of numbers of 64 bits. -/
def Nums (w : World) (v : Value) (l : List Int) : Prop := Elems 1 (fun n => [Value.int .i64 n]) w v l
theorem Nums.ext {w w' : World} {v : Value} {l : List Int} (h : Nums w v l) (hb : Below w.heap.size w w') : Nums w' v l := Elems.ext h hb
theorem Nums.nil (w : World) : Nums w (.slice none 0 0) [] := ⟨none, 0, rfl, Nat.le_refl _, Nat.zero_le _, Or.inl rfl⟩
theorem Nums.get {w : World} {a : Option Addr} {m c : Nat} {l : List Int} (h : Nums w (.slice a m c) l) {i : Nat} {x : Int} (hx : l[i]? = some x) : ∃ b off, a = some ⟨b, off, none⟩ ∧ b < w.heap.size ∧ w.cell? ⟨b, off + i, none⟩ = some (.int .i64 x) := by
  obtain ⟨a', c', e, h1, h2, h3⟩ := h
  cases e
  rcases h3 with rfl | ⟨b, off, rfl, hb, hc⟩
  · simp at hx
  · exact ⟨b, off, rfl, hb, by have := hc i x hx 0 _ rfl; simpa using this⟩
theorem Nums.len {w : World} {v : Value} {l : List Int} (h : Nums w v l) : ∃ a c, v = .slice a l.length c ∧ l.length ≤ c ∧ c ≤ maxLen := by
  obtain ⟨a, c, h1, h2, h3, _⟩ := h
  exact ⟨a, c, h1, h2, h3⟩
abbrev numCells (n : Int) : List Value := [Value.int .i64 n]
/-- A row of numbers of the call's own. -/
def RowN (w : World) (base : Nat) (v : Value) (l : List Int) : Prop := w.ownsRow base 2 1 v l.length (l.flatMap numCells)
theorem RowN.nums {w : World} {base : Nat} {v : Value} {l : List Int} (h : RowN w base v l) : Nums w v l := Elems.owned (cells := numCells) (fun _ => rfl) h
theorem RowN.nil (w : World) (base : Nat) : RowN w base (.slice none 0 0) [] := World.ownsRow_nil _ _ _ _
mutual
theorem vars_len : ∀ (t : Tm) (l : List Int), (varsT t l).length ≤ l.length + sizeN t ∧ l.length ≤ (varsT t l).length
  | .mk k n s ts, l => by
    rw [varsT, sizeN]
    by_cases hk : k = 0
    · rw [if_pos hk]
      split
      · omega
      · rw [List.length_append, List.length_singleton]; omega
    · rw [if_neg hk]
      have := varss_len ts l
      omega
theorem varss_len : ∀ (ts : List Tm) (l : List Int), (varsL ts l).length ≤ l.length + sizesN ts ∧ l.length ≤ (varsL ts l).length
  | [], l => by rw [varsL, sizesN]; omega
  | x :: r, l => by
    rw [varsL, sizesN]
    have h1 := vars_len x l
    have h2 := varss_len r (varsT x l)
    omega
end
theorem varss_step {ts : List Tm} {i : Nat} {y : Tm} (h : ts[i]? = some y) (l : List Int) : varsL (ts.take (i + 1)) l = varsT y (varsL (ts.take i) l) := by
  induction ts generalizing i l with
  | nil => simp at h
  | cons x r ih =>
    cases i with
    | zero => simp at h; subst h; simp [varsL]
    | succ i =>
      simp only [List.take_succ_cons, varsL]
      exact ih (by simpa using h) _
theorem infoI64 : (Tryz.prog.info? 2).map (fun i => (i.zero, i.size, i.bytes)) = some (some (.int .i64 0), 1, 8) := by kernel_rfl
end Go.Proofs.YtljgkfdnmikpfaaGreatDoor
/- Package lex: Quote. -/
namespace Go.Proofs.YtljgkfdnmikpfaaGreatDoor
open Go.RowKit
set_option linter.unusedVariables false

theorem short_is : ∀ c, (match shortB c with | some d => mayQ c && (escQ c == [92, d]) | none => if shownB c then mayQ c && (escQ c == [c]) else !mayQ c) = true := u8_all (g := fun _ => true) (by decide +kernel)
theorem short_yes {c d : UInt8} (h : shortB c = some d) : mayQ c = true ∧ escQ c = [92, d] := by
  have := short_is c
  rw [h] at this
  simp only [Bool.and_eq_true, beq_iff_eq] at this
  exact this
theorem short_plain {c : UInt8} (h : shortB c = none) (hs : shownB c = true) : mayQ c = true ∧ escQ c = [c] := by
  have := short_is c
  rw [h] at this
  simp only [hs, if_true, Bool.and_eq_true, beq_iff_eq] at this
  exact this
theorem short_ill {c : UInt8} (h : shortB c = none) (hs : shownB c = false) : mayQ c = false := by
  have := short_is c
  rw [h] at this
  simp only [hs] at this
  simpa using this
theorem RowB.join {w : World} {base : Nat} {v : Value} {l : List UInt8} {n : Nat} (m : List UInt8) (hn : n = l.length + m.length) (h : w.ownsRow base 5 1 v n (bytesV l ++ bytesV m)) : RowB w base v (l ++ m) := by
  subst hn
  unfold RowB
  rw [List.length_append]
  unfold bytesV at h ⊢
  rw [List.map_append]
  exact h
theorem bytesV_one (m : List UInt8) : ∀ u ∈ bytesV m, u.oneCell' = true := by
  intro u hu
  obtain ⟨c, _, rfl⟩ := List.mem_map.1 hu
  rfl
theorem quote_long {l : List UInt8} (h : 64 < l.length) : quoteB l = [] := by
  unfold quoteB
  rw [if_neg, if_neg]
  · intro e
    simp only [Bool.and_eq_true, decide_eq_true_eq] at e
    omega
  · intro e
    have := plain_short e
    omega
set_option maxRecDepth 100000 in
set_option maxHeartbeats 4000000 in
theorem quote_any (s : ByteArray) (w : World) (he : Err w) (hs : s.size ≤ 140737488351232) : Calls Tryz.prog 39 #[.string s] w fun e w' => e = .returned (.string ⟨(quoteB (bl s)).toArray⟩) ∧ Below w.heap.size w w' := by
  by_cases hbig : 64 < s.size
  · rw [quote_long (show 64 < (bl s).length from hbig)]
    go_enter Tryz.func39, Tryz.ntmps39
    go_wp2
    go_ret
    exact ⟨rfl, Below.refl _ _⟩
  have P := fun w h => plain_any s w h hs
  cases hp : plainB (bl s)
  · rw [hp] at P
    have hQ : quoteB (bl s) = if (bl s).all mayQ then 39 :: ((bl s).flatMap escQ ++ [39]) else [] := by
      unfold quoteB
      rw [if_neg (by rw [hp]; simp)]
      have : decide ((bl s).length ≤ 64) = true := decide_eq_true (show s.size ≤ 64 by omega)
      rw [this, Bool.true_and]
    generalize quoteB (bl s) = Q at hQ
    have HQ := Lib.hid hQ
    clear hp hQ
    obtain ⟨i0, hi0, hz0, hs0, hb0⟩ := info_parts infoU8
    have hini := fun (w1 : World) (h : w.heap.size ≤ w1.heap.size) => World.ownsRow_lit (e := 5) (size := 1) (base := w.heap.size) w1 #[.int .u8 39] 1 h (by unfold maxLen; omega) rfl
    have HINI := Lib.hid hini
    clear hini
    go_enter Tryz.func39, Tryz.ntmps39
    (go_wp2_with fail; go_fit (P _ he); rintro e w1 ⟨rfl, b1⟩)
    have B1 := Lib.hid b1
    clear b1
    go_wp2_with fail
    go_loopw [3, 17] (fun o v wr => ∃ (k : Nat) (ao : Option Addr) (n cv : Nat) (l : List UInt8), k ≤ s.size ∧ v = .int .i64 k ∧ o = .slice ao n cv ∧ n = l.length ∧ n ≤ 2 * k + 1 ∧ Hid (RowB wr w.heap.size o l) ∧ Hid (Below w.heap.size w wr) ∧
        Hid (l = 39 :: ((bl s).take k).flatMap escQ ∧ ((bl s).take k).all mayQ = true)) (fun _ v _ => s.size - (intOf v).toNat)
    case atStart =>
      exact ⟨0, _, 1, 1, [39], Nat.zero_le _, rfl, rfl, rfl, by omega, Lib.hid (HINI.out w1 B1.out.size), Lib.hid (B1.out.alloc B1.out.size _), Lib.hid ⟨rfl, rfl⟩⟩
    case round =>
      obtain ⟨k, ao, n, cv, l, hk, rfl, rfl, hnl, hn2, HR, HB, HL⟩ := hrel
      have HNL := Lib.hid hnl
      clear hnl
      have hwr : w.heap.size ≤ wr.heap.size := HB.out.size
      by_cases hlt : k < s.size
      · have htk : (bl s).take (k + 1) = (bl s).take k ++ [s[k]] := by
          rw [List.take_add_one, List.getElem?_eq_getElem (show k < (bl s).length from hlt)]
          rfl
        have HTK := Lib.hid htk
        clear htk
        cases hsh : shortB s[k] with
        | some d =>
          obtain ⟨hm, hq⟩ := short_yes hsh
          have SH := fun w => short_some s[k] d w hsh
          have HN : Hid (l ++ [92, d] = 39 :: ((bl s).take (k + 1)).flatMap escQ ∧ ((bl s).take (k + 1)).all mayQ = true) := Lib.hid ⟨by
            rw [HTK.out, List.flatMap_append, List.flatMap_singleton, hq, HL.out.1, List.cons_append], by rw [HTK.out, List.all_append, HL.out.2]; simp [hm]⟩
          have HRR : Hid (wr.ownsRow w.heap.size 5 1 (.slice ao n cv) n (bytesV l)) := Lib.hid (by have := HR.out; rw [HNL.out] at this ⊢; exact this)
          clear hsh hm hq HL HTK
          go_wp2_with (first
            | (go_at_call 70; go_fit (SH _); rintro e w' ⟨rfl, rfl⟩)
            | (at_builtin; refine wpList_append_k rfl _ _ 97 rfl w.heap.size 5 i0 (.int .u8 0) 1 1 Tryz.underlying97 hi0 hz0 hs0 (by decide) hb0 rfl (.slice ao n cv) n (bytesV l) rfl (HRR.out.alloc _) _ 2 2 (bytesV [92, d]) rfl rfl (Or.inr ⟨_, rfl, fun j u hu => cell_new _ _ _ j u hu⟩) (bytesV_one _) (by unfold maxLen; omega) (by omega) (by simp; omega) (n + 2) (bytesV l ++ bytesV [92, d]) rfl rfl ?_; intro a4 c4 w4 hown4 hgrow4 hat4))
          go_roundw
          case rel =>
            exact ⟨k + 1, a4, n + 2, c4, l ++ [92, d], by omega, by go_num, rfl, by rw [List.length_append, HNL.out]; rfl, by omega, Lib.hid (RowB.join [92, d] (by rw [HNL.out]; rfl) hown4), Lib.hid ((HB.out.alloc hwr _).grown hgrow4 (by simp; omega) (fun q hq => (HRR.out.lt q hq).1)), HN⟩
          case measure => simp [intOf]; omega
        | none =>
          have SH := fun w => short_none s[k] w hsh
          have SW := fun w => shown_any s[k] w
          cases hsw : shownB s[k]
          · have hm := short_ill hsh hsw
            rw [hsw] at SW
            have HF : Hid ((bl s).all mayQ = false) := Lib.hid (by
              rw [List.all_eq_false]
              exact ⟨(bl s)[k]'hlt, List.getElem_mem _, by show ¬ mayQ s[k] = true; rw [hm]; simp⟩)
            clear hsh hsw hm HL HTK
            go_wp2_with (first | (go_at_call 70; go_fit (SH _); rintro e w' ⟨rfl, rfl⟩) | (go_at_call 71; go_fit (SW _); rintro e w' ⟨rfl, rfl⟩))
            go_ret
            exact ⟨by rw [HQ.out, HF.out]; rfl, HB.out⟩
          · obtain ⟨hm, hq⟩ := short_plain hsh hsw
            rw [hsw] at SW
            have HN : Hid (l ++ [s[k]] = 39 :: ((bl s).take (k + 1)).flatMap escQ ∧ ((bl s).take (k + 1)).all mayQ = true) := Lib.hid ⟨by
              rw [HTK.out, List.flatMap_append, List.flatMap_singleton, hq, HL.out.1, List.cons_append], by rw [HTK.out, List.all_append, HL.out.2]; simp [hm]⟩
            have HRR : Hid (wr.ownsRow w.heap.size 5 1 (.slice ao n cv) n (bytesV l)) := Lib.hid (by have := HR.out; rw [HNL.out] at this ⊢; exact this)
            clear hsh hsw hm hq HL HTK
            go_wp2_with (first
              | (go_at_call 70; go_fit (SH _); rintro e w' ⟨rfl, rfl⟩)
              | (go_at_call 71; go_fit (SW _); rintro e w' ⟨rfl, rfl⟩)
              | (at_builtin; refine wpList_append_k rfl _ _ 97 rfl w.heap.size 5 i0 (.int .u8 0) 1 1 Tryz.underlying97 hi0 hz0 hs0 (by decide) hb0 rfl (.slice ao n cv) n (bytesV l) rfl (HRR.out.alloc _) _ 1 1 (bytesV [s[k]]) rfl rfl (Or.inr ⟨_, rfl, fun j u hu => cell_new _ _ _ j u hu⟩) (bytesV_one _) (by unfold maxLen; omega) (by omega) (by simp; omega) (n + 1) (bytesV l ++ bytesV [s[k]]) rfl rfl ?_; intro a4 c4 w4 hown4 hgrow4 hat4))
            go_roundw
            case rel =>
              exact ⟨k + 1, a4, n + 1, c4, l ++ [s[k]], by omega, by go_num, rfl, by rw [List.length_append, HNL.out]; rfl, by omega, Lib.hid (RowB.join [s[k]] (by rw [HNL.out]; rfl) hown4), Lib.hid ((HB.out.alloc hwr _).grown hgrow4 (by simp; omega) (fun q hq => (HRR.out.lt q hq).1)), HN⟩
            case measure => simp [intOf]; omega
      · have hkn : k = s.size := by omega
        have HF : Hid ((if (bl s).all mayQ then 39 :: ((bl s).flatMap escQ ++ [39]) else []) = l ++ [39]) := Lib.hid (by
          have h := HL.out
          rw [hkn, List.take_of_length_le (by rw [bl_len]; omega)] at h
          rw [h.2, h.1]
          rfl)
        have HRR : Hid (wr.ownsRow w.heap.size 5 1 (.slice ao n cv) n (bytesV l)) := Lib.hid (by have := HR.out; rw [HNL.out] at this ⊢; exact this)
        clear hkn HL
        go_wp2_with (at_builtin; refine wpList_append_k rfl _ _ 97 rfl w.heap.size 5 i0 (.int .u8 0) 1 1 Tryz.underlying97 hi0 hz0 hs0 (by decide) hb0 rfl (.slice ao n cv) n (bytesV l) rfl (HRR.out.alloc _) _ 1 1 (bytesV [39]) rfl rfl (Or.inr ⟨_, rfl, fun j u hu => cell_new _ _ _ j u hu⟩) (bytesV_one _) (by unfold maxLen; omega) (by omega) (by simp; omega) (n + 1) (bytesV l ++ bytesV [39]) rfl rfl ?_; intro a4 c4 w4 hown4 hgrow4 hat4; have CV := conv_row (RowB.join [39] (by rw [HNL.out]; rfl) hown4))
        go_ret
        exact ⟨by rw [HQ.out, HF.out]; rfl, (HB.out.alloc hwr _).grown hgrow4 (by simp; omega) (fun q hq => (HRR.out.lt q hq).1)⟩
  · rw [hp] at P
    have hQ : quoteB (bl s) = bl s := by
      unfold quoteB
      rw [if_pos hp]
    rw [hQ]
    clear hp hQ
    go_enter Tryz.func39, Tryz.ntmps39
    (go_wp2_with fail; go_fit (P _ he); rintro e w1 ⟨rfl, b1⟩)
    go_wp2
    go_ret
    exact ⟨rfl, b1⟩
end Go.Proofs.YtljgkfdnmikpfaaGreatDoor
/- The project's writer in memory: its operators, its variables, what is written; put, text. -/
namespace Go.Proofs.YtljgkfdnmikpfaaGreatDoor
open Go.RowKit
set_option linter.unusedVariables false
set_option maxRecDepth 100000

theorem gPow : Tryz.prog.globalNamed "internal/strconv.uint64pow10" = some 3 := by kernel_rfl
/-- What strconv reads lies as the program's text lays it. -/
structure Con (w : World) : Prop where
  pow : Lib.TabIs Tryz.prog w "internal/strconv.uint64pow10" .u64 Lib.pow10Tab
  err : Err w
theorem Con.ext {w w' : World} (h : Con w) (hb : Below w.heap.size w w') : Con w' := ⟨Joins.tab_stays gPow h.pow hb (Nat.le_refl _), h.err.ext hb⟩
theorem var_lt {P : Program} {W : World} {g : Nat} {n : String} {cs : Array Value} (hg : P.globalNamed n = some g) (h : W.var? P n = some cs) : g < W.heap.size := by
  unfold World.var? at h
  rw [hg] at h
  simp only [Option.bind_some] at h
  rcases Nat.lt_or_ge g W.heap.size with h' | h'
  · exact h'
  · rw [Array.getElem?_eq_none h'] at h; cases h
theorem var_keep {P : Program} {W W' : World} {g : Nat} {n : String} {cs : Array Value} (hg : P.globalNamed n = some g) (h : W.var? P n = some cs) (hb : W'.heap[g]? = W.heap[g]?) : W'.var? P n = some cs := by
  unfold World.var? at h ⊢
  rw [hg] at h ⊢
  simp only [Option.bind_some] at h ⊢
  rw [hb]
  exact h
theorem Con.lt {w : World} (h : Con w) : 2 < w.heap.size ∧ 3 < w.heap.size := by
  obtain ⟨_, _, he⟩ := h.err
  exact ⟨var_lt gRange he, var_lt gPow h.pow⟩
theorem Con.keep {w w' : World} (h : Con w) (h1 : w'.heap[2]? = w.heap[2]?) (h2 : w'.heap[3]? = w.heap[3]?) : Con w' := by
  obtain ⟨tp, p, he⟩ := h.err
  exact ⟨var_keep gPow h.pow h2, tp, p, var_keep gRange he h1⟩
/-- The writer lies there, in block wb. M: blocks that turn: nothing else is looked at in them. -/
structure Wr (M : Nat → Bool) (w : World) (wb : Nat) (xs : List O) (vs : List Int) (out : List UInt8) : Prop where
  mb : M wb = true
  old : Old M w
  con : Con w
  gl : M 2 = false ∧ M 3 = false
  co : ∃ vo, w.cell? ⟨wb, 0, none⟩ = some vo ∧ Ops (hide M w) vo xs
  cv : ∃ vv, w.cell? ⟨wb, 1, none⟩ = some vv ∧ Nums (hide M w) vv vs
  c2 : ∃ vn, w.cell? ⟨wb, 2, none⟩ = some vn ∧ RowB w (wb + 1) vn out ∧ ∀ k, vn.ownBlock = some k → M k = true
  fz : ∀ j, w.frozen? ⟨wb, j, none⟩ = false
section
variable {M M' : Nat → Bool} {w w' : World} {wb : Nat} {xs : List O} {vs : List Int} {out : List UInt8}
theorem Wr.lt (h : Wr M w wb xs vs out) : wb < w.heap.size := by
  obtain ⟨vn, h1, _⟩ := h.c2
  exact World.block_lt_of_cell? _ _ h1
/-- It lies there still. -/
theorem Wr.later (h : Wr M w wb xs vs out) (hb : Below w.heap.size w w') : Wr M w' wb xs vs out := by
  have hs : Stays (hide M w) (hide M w') := Stays.below hb fun _ _ h => h
  obtain ⟨vo, o1, o2⟩ := h.co
  obtain ⟨vv, v1, v2⟩ := h.cv
  obtain ⟨vn, n1, n2, n3⟩ := h.c2
  have hlt := h.lt
  exact { mb := h.mb, old := h.old.mono hb.size, con := h.con.ext hb, gl := h.gl, co := ⟨vo, cell_later hb o1, Elems.stay o2 hs⟩, cv := ⟨vv, cell_later hb v1, Elems.stay v2 hs⟩
          c2 := ⟨vn, cell_later hb n1, row_at n2 (fun g hg => hb.block g (row_in n2 hg).2), n3⟩
          fz := fun j => (hb.frozen (p := ⟨wb, j, none⟩) hlt).trans (h.fz j) }
/-- Where its parts lie. -/
theorem Wr.parts (h : Wr M w wb xs vs out) : ∃ vo vv vn, w.cell? ⟨wb, 0, none⟩ = some vo ∧ w.cell? ⟨wb, 1, none⟩ = some vv ∧ w.cell? ⟨wb, 2, none⟩ = some vn ∧ (∀ j, w.frozen? ⟨wb, j, none⟩ = false) ∧ Ops w vo xs ∧ Nums w vv vs ∧ RowB w (wb + 1) vn out := by
  obtain ⟨vo, o1, o2⟩ := h.co
  obtain ⟨vv, v1, v2⟩ := h.cv
  obtain ⟨vn, n1, n2, n3⟩ := h.c2
  exact ⟨vo, vv, vn, o1, v1, n1, h.fz, Elems.stay o2 (Stays.unhide M w), Elems.stay v2 (Stays.unhide M w), n2⟩
/-- What a call that writes leaves. -/
def WPost (M : Nat → Bool) (w : World) (wb : Nat) (xs : List O) (vs : List Int) (out : List UInt8) (e : Ending) (w' : World) : Prop :=
  e = .returned (.tuple #[]) ∧ ∃ M', Wr M' w' wb xs vs out ∧ Turn M M M' M' w w'
theorem TmV.turn {x : Tm} {v : Value} (h : TmV (hide M w) x v) (ht : Turn M M M' M' w w') : TmV (hide M' w') x v := TmV.stay (ht.stays fun _ h => h) _ _ h
theorem Tms.turn {l : List Tm} {v : Value} (h : Tms (hide M w) v l) (ht : Turn M M M' M' w w') : Tms (hide M' w') v l := h.stay (ht.stays fun _ h => h)
theorem Wr.new (h : Wr M w wb xs vs out) {k : Nat} (hk : w.heap.size ≤ k) : M k = false := h.old k hk
theorem bytesV_app (l m : List UInt8) : bytesV (l ++ m) = bytesV l ++ bytesV m := by unfold bytesV; rw [List.map_append]
set_option maxHeartbeats 2000000 in
theorem Wr.grow (h : Wr M w wb xs vs out) {vn vn' : Value} (n1 : w.cell? ⟨wb, 2, none⟩ = some vn) (n2 : RowB w (wb + 1) vn out) (n3 : ∀ k, vn.ownBlock = some k → M k = true) {w1 : World} {out' : List UInt8} (hown : RowB w1 (wb + 1) vn' out')
    (hgrow : w.grownBy w1 vn.ownBlock) (hat : vn'.ownBlock = vn.ownBlock ∨ vn'.ownBlock = some w.heap.size) : (∃ M', Wr M' (w1.setCell ⟨wb, 2, none⟩ vn') wb xs vs out' ∧ Turn M M M' M' w (w1.setCell ⟨wb, 2, none⟩ vn')) ∧ ∀ j, j ≠ 2 → (w1.setCell ⟨wb, 2, none⟩ vn').cell? ⟨wb, j, none⟩ = w.cell? ⟨wb, j, none⟩ := by
  have hlt := h.lt
  have hsz : (w1.setCell ⟨wb, 2, none⟩ vn').heap.size = w1.heap.size := by simp [World.setCell]
  have hwb : w1.heap[wb]? = w.heap[wb]? := hgrow.block wb hlt (by
    intro e
    have := row_in n2 e.symm
    omega)
  have hmm : ∀ k, k < w.heap.size → (M k || vn'.ownBlock == some k) = M k := fun k hk => by
    cases hm : M k with
    | true => rfl
    | false =>
      rw [Bool.false_or]
      cases he : (vn'.ownBlock == some k) with
      | false => rfl
      | true =>
        have he : vn'.ownBlock = some k := by simpa using he
        rcases hat with hat | hat
        · rw [hat] at he
          rw [n3 k he] at hm
          cases hm
        · rw [hat] at he
          injection he with he
          omega
  have hkept : ∀ k, k < w.heap.size → M k = false → (w1.setCell ⟨wb, 2, none⟩ vn').heap[k]? = w.heap[k]? := fun k hk hm => by
    rw [Below.heap_setCell w1 _ _ k (fun e => by rw [e, h.mb] at hm; cases hm)]
    exact hgrow.block k hk (by
      intro e
      rw [n3 k e.symm] at hm
      cases hm)
  have hT : Turn M M (fun k => M k || vn'.ownBlock == some k) (fun k => M k || vn'.ownBlock == some k) w (w1.setCell ⟨wb, 2, none⟩ vn') :=
    ⟨by rw [hsz]; exact hgrow.size, hmm, hmm, hkept, (show Below 0 w w1 from ⟨hgrow.os, hgrow.tape, hgrow.output, hgrow.size, fun k hk => by omega⟩).setCell (Nat.zero_le _) _⟩
  have hs := hT.stays (fun _ h => h)
  obtain ⟨vo, o1, o2⟩ := h.co
  obtain ⟨vv, v1, v2⟩ := h.cv
  obtain ⟨M', hM'⟩ : ∃ M', (fun k => M k || vn'.ownBlock == some k) = M' := ⟨_, rfl⟩
  have hMk : ∀ k, M' k = (M k || vn'.ownBlock == some k) := fun k => by rw [← hM']
  rw [hM'] at hT hs
  clear hM'
  refine ⟨⟨M', ⟨by rw [hMk, h.mb]; rfl, fun k hk => ?_, h.con.keep (hkept _ h.con.lt.1 h.gl.1) (hkept _ h.con.lt.2 h.gl.2), ⟨(hT.mm _ h.con.lt.1).trans h.gl.1, (hT.mm _ h.con.lt.2).trans h.gl.2⟩, ⟨vo, ?_, Elems.stay o2 hs⟩, ⟨vv, ?_, Elems.stay v2 hs⟩, ⟨vn', css (u := vn) ?_, row_at hown (fun g hg => Below.heap_setCell w1 _ _ g (fun e => ?_)), fun k hk => ?_⟩, fun j => ?_⟩, hT⟩, fun j hj => by rw [near_cell hj, World.cell?_of_block hwb]⟩
  · rw [hsz] at hk
    rw [hMk, h.old k (Nat.le_trans hgrow.size hk), Bool.false_or]
    cases he : (vn'.ownBlock == some k) with
    | false => rfl
    | true =>
      have he : vn'.ownBlock = some k := by simpa using he
      have := row_in hown he
      omega
  · rw [near_cell (by decide), World.cell?_of_block hwb]; exact o1
  · rw [near_cell (by decide), World.cell?_of_block hwb]; exact v1
  · rw [World.cell?_of_block hwb]; exact n1
  · have := row_in hown hg
    simp only at e
    omega
  · rw [hMk, hk]; simp
  · rw [World.frozen?_setCell, World.frozen?_of_block hwb]
    exact h.fz j
theorem putK (h : Wr M w wb xs vs out) {vn : Value} (n1 : w.cell? ⟨wb, 2, none⟩ = some vn) (n2 : RowB w (wb + 1) vn out) (n3 : ∀ k, vn.ownBlock = some k → M k = true) (hf : ∀ j, w.frozen? ⟨wb, j, none⟩ = false) {s : ByteArray} {w1 : World} {a' : Option Addr} {c' : Nat}
    (hown : w1.ownsRow (wb + 1) 5 1 (.slice a' (out.length + s.size) c') (out.length + s.size) (bytesV out ++ byteCells s)) (hgrow : w.grownBy w1 vn.ownBlock) (hat : (Value.slice a' (out.length + s.size) c').ownBlock = vn.ownBlock ∨ (Value.slice a' (out.length + s.size) c').ownBlock = some w.heap.size) :
    w1.cell? ⟨wb, 2, none⟩ = some vn ∧ (∀ j, w1.frozen? ⟨wb, j, none⟩ = false) ∧ Hid ((∃ M', Wr M' (w1.setCell ⟨wb, 2, none⟩ (.slice a' (out.length + s.size) c')) wb xs vs (out ++ bl s) ∧ Turn M M M' M' w (w1.setCell ⟨wb, 2, none⟩ (.slice a' (out.length + s.size) c'))) ∧ ∀ j, j ≠ 2 → (w1.setCell ⟨wb, 2, none⟩ (.slice a' (out.length + s.size) c')).cell? ⟨wb, j, none⟩ = w.cell? ⟨wb, j, none⟩) := by
  have hwb : w1.heap[wb]? = w.heap[wb]? := hgrow.block wb h.lt (by
    intro e
    have := row_in n2 e.symm
    omega)
  have hown' : RowB w1 (wb + 1) (.slice a' (out.length + s.size) c') (out ++ bl s) := by
    unfold RowB
    rw [List.length_append, bl_len, bytesV_app]
    exact hown
  exact ⟨by rw [World.cell?_of_block hwb]; exact n1, fun j => by rw [World.frozen?_of_block hwb]; exact hf j, Lib.hid (h.grow n1 n2 n3 hown' hgrow hat)⟩
set_option maxHeartbeats 2000000 in
theorem put_keeps (h : Wr M w wb xs vs out) (s : ByteArray) (hz : out.length + (bl s).length ≤ 1000000000) :
    Calls Tryz.prog 91 #[.pointer (some ⟨wb, 0, none⟩), .string s] w fun e w' => WPost M w wb xs vs (out ++ bl s) e w' ∧ ∀ j, j ≠ 2 → w'.cell? ⟨wb, j, none⟩ = w.cell? ⟨wb, j, none⟩ := by
  obtain ⟨vn, n1, n2, n3⟩ := h.c2
  obtain ⟨i0, hi0, hz0, hs0, hb0⟩ := info_parts infoU8
  have hlt := h.lt
  rw [bl_len] at hz
  have H := Lib.hid h
  have hf := h.fz
  obtain ⟨ao, cap, hvn, hcap⟩ := row_formk n2
  subst hvn
  have HN := Lib.hid n3
  have HR := Lib.hid n2
  have HN1 := Lib.hid n1
  clear h n2 n3
  go_enter Tryz.func91, Tryz.ntmps91
  go_wp2_with (at_builtin; refine wpList_append_s rfl _ _ 97 9 rfl (wb + 1) 5 i0 (.int .u8 0) 1 Tryz.underlying97 Tryz.underlying9 hi0 hz0 hs0 hb0 rfl (.slice ao out.length cap) out.length (bytesV out) rfl HR.out s rfl (by unfold maxLen; omega) (by omega) (by omega) ?_; intro a' c' w1 hown hgrow hat; obtain ⟨m1, mf, HG⟩ := putK H.out HN1.out HR.out HN.out hf hown hgrow hat; clear hown hgrow hat; simp only [Act.put, List.setIfInBounds_toArray, List.set_cons_zero, List.set_cons_succ])
  go_wp2
  go_end0
  exact ⟨⟨rfl, HG.out.1⟩, HG.out.2⟩
theorem put_at (h : Wr M w wb xs vs out) (s : ByteArray) (hz : out.length + (bl s).length ≤ 1000000000) :
    Calls Tryz.prog 91 #[.pointer (some ⟨wb, 0, none⟩), .string s] w (WPost M w wb xs vs (out ++ bl s)) := (put_keeps h s hz).mono fun e w' h => h.1
/-- What is written, in the end. -/
theorem text_at (h : Wr M w wb xs vs out) (hz : out.length ≤ 1000000000) :
    Calls Tryz.prog 56 #[.pointer (some ⟨wb, 0, none⟩)] w fun e w' => e = .returned (.tuple #[.string ⟨(if 4096 < out.length then [] else out).toArray⟩, .int .i64 (if 4096 < out.length then 3 else 0)]) ∧ w = w' := by
  obtain ⟨_, _, vn, _, _, n1, _, _, _, n2⟩ := h.parts
  have hc := conv_row n2
  obtain ⟨ao, cap, hvn, hcap⟩ := row_formk n2
  subst hvn
  clear h n2
  by_cases hbig : 4096 < out.length
  · rw [if_pos hbig, if_pos hbig]
    have hd : decide ((out.length : Int) > 4096) = true := by simp; omega
    go_enter Tryz.func56, Tryz.ntmps56
    go_wp2
    go_ret2
    exact ⟨rfl, rfl⟩
  · rw [if_neg hbig, if_neg hbig]
    have hd : decide ((out.length : Int) > 4096) = false := by simp; omega
    go_enter Tryz.func56, Tryz.ntmps56
    go_wp2
    go_ret2
    exact ⟨rfl, rfl⟩
end
end Go.Proofs.YtljgkfdnmikpfaaGreatDoor
/- What the cards of this seat share: strconv's ErrRange is an error where the program's text lays it. -/
namespace Go.Proofs.YtljgkfdnmikpfaaGreatDoor
open Go.RowKit
theorem star : "*" ++ "errors.errorString" = "*errors.errorString" := by decide
theorem row_err (u : TypeId) (h : Tryz.prog.typeName? 3 u = some "*errors.errorString") : u = 233 :=
  typeName_ptr_named (nm := "errors.errorString") (by rw [star]; kernel_rfl) (by kernel_rfl) (by decide) u (by rw [star]; exact h)
theorem err_of {l : List (String × DataW Unit)} {w : World} (hl : (l.all fun x => x.2.handleName?.isNone) = true) {nm : String} {text : List UInt8}
    (hf : l.filter (fun x => x.1 == "strconv.ErrRange") = [("strconv.ErrRange", .iface nm (.ptr (.agg [.lit (.string text)])))]) (hn : nm = "*errors.errorString") (h : laidMetH Tryz.prog l w) : Err w := by
  subst hn
  rw [MakeChecks.laidMetH_plain _ _ _ hl] at h
  have h1 := h.filter (fun x => x.1 == "strconv.ErrRange")
  rw [hf] at h1
  obtain ⟨a, s, hv, _⟩ := laid_sentinel h1 gRange (ti := 178) (by kernel_rfl) Tryz.underlying178 (tp := 233) row_err Tryz.underlying233 Tryz.underlying235 rfl rfl Tryz.underlying9 (by kernel_rfl) (by kernel_rfl)
  exact ⟨_, _, hv⟩
end Go.Proofs.YtljgkfdnmikpfaaGreatDoor
