import Derived.Test.YtobdhcaoeholhaaGreatDoorHbyag
import Derived.Lib.ItoaMem
import Derived.Test.YtobdhcaoeholhaaGreatDoorHbyab
import Derived.Test.YtobdhcaoeholhaaGreatDoorHbyai
import Derived.Laws.StructEq
import Derived.Test.YtobdhcaoeholhaaGreatDoorHbyaa
import Derived.Test.YtobdhcaoeholhaaGreatDoorCards
import Derived.Test.YtobdhcaoeholhaaGreatDoorTie
import Derived.LaidLaws
import Derived.Lay
import Derived.LaidSub
import Derived.SevenTiedAt
import Derived.Lib.LaidTab
import Derived.Stop.LaidErr
import Derived.Test.YtobdhcaoeholhaaGreatDoorHbyae
import Derived.Lib.ItoaLen
import Derived.Lib.AppendIntMem
set_option linter.unusedVariables false
set_option linter.unusedSimpArgs false
/- What stands in a written text, letter by letter: pieces that are cut as they were meant, whatever stands behind. Numbers of any size. Pure. -/
namespace Go.Proofs.YtobdhcaoeholhaaGreatDoor
set_option linter.unusedVariables false

/-- What stands next, numbers of whatever size. -/
def nextU (c : UInt8) (r : List UInt8) : NextB :=
  if digitB c then tokB 4 [] (numB ((c :: r).take ((r.takeWhile digitB).length + 1))) ((r.takeWhile digitB).length + 1) (c :: r) else nextC c r
theorem digit_not : ∀ c : UInt8, digitB c = true → blankB c = false ∧ (c == 37) = false ∧ smallB c = false ∧ greatB c = false := by
  have h : ((List.range 256).all fun n => !digitB (UInt8.ofNat n) || (!blankB (UInt8.ofNat n) && !(UInt8.ofNat n == 37) && !smallB (UInt8.ofNat n) && !greatB (UInt8.ofNat n))) = true := by decide +kernel
  intro c hc
  have h1 := List.all_eq_true.1 h c.toNat (List.mem_range.2 c.toNat_lt)
  have e : UInt8.ofNat c.toNat = c := by simp
  rw [e, hc] at h1
  simp only [Bool.not_true, Bool.false_or, Bool.and_eq_true, Bool.not_eq_true'] at h1
  exact ⟨h1.1.1.1, h1.1.1.2, h1.1.2, h1.2⟩
theorem nextU_or (c : UInt8) (r : List UInt8) : nextU c r = nextC c r ∨ nextC c r = .bad true := by
  unfold nextU
  by_cases hd : digitB c = true
  · rw [if_pos hd]
    obtain ⟨h1, h2, h3, h4⟩ := digit_not c hd
    unfold nextC
    rw [if_neg (by simp [h1]), if_neg (by simp [h2]), if_neg (by simp [h3]), if_neg (by simp [h4]), if_pos hd]
    split
    · exact Or.inl rfl
    · exact Or.inr rfl
  · rw [if_neg hd]; exact Or.inl rfl
theorem nextU_pos (c : UInt8) (r : List UInt8) : (∀ k, nextU c r = .skip k → 1 ≤ k) ∧ (∀ t, nextU c r = .tok t → 1 ≤ t.len) := by
  unfold nextU
  by_cases hd : digitB c = true
  · rw [if_pos hd]
    refine ⟨fun k h => ?_, fun t h => ?_⟩
    · unfold tokB at h; cases h
    · unfold tokB at h; cases h; simp
  · rw [if_neg hd]
    rcases next_pos c r with ⟨k, h, hk⟩ | ⟨t, h, hk⟩ | ⟨o, h⟩
    · rw [h]; exact ⟨fun j e => (by cases e; exact hk), fun t e => (by cases e)⟩
    · rw [h]; exact ⟨fun j e => (by cases e), fun t e => (by cases e; exact hk)⟩
    · rw [h]; exact ⟨fun j e => (by cases e), fun t e => (by cases e)⟩
/-- A text, from a place on, is cut so. -/
inductive LexTo : Nat → List UInt8 → List (TokB × Nat) → Prop where
  | nil (p : Nat) : LexTo p [] []
  | skip {p k : Nat} {c : UInt8} {r : List UInt8} {l : List (TokB × Nat)} : nextU c r = .skip k → LexTo (p + k) ((c :: r).drop k) l → LexTo p (c :: r) l
  | tok {p : Nat} {t : TokB} {c : UInt8} {r : List UInt8} {l : List (TokB × Nat)} : nextU c r = .tok t → LexTo (p + t.len) ((c :: r).drop t.len) l → LexTo p (c :: r) ((t, p) :: l)
/-- A text that is cut so with numbers of any size: it is cut so, or it is too much. -/
theorem lexTo_or {p : Nat} {s : List UInt8} {l : List (TokB × Nat)} (h : LexTo p s l) : ∀ n, s.length ≤ n → lexL n p s = some l ∨ ∀ acc : List (TokB × Nat), acc.length ≤ 1024 → ∃ q, cutW n acc p s = .bad q true := by
  induction h with
  | nil p => intro n _; left; exact lex_nil n p
  | @skip p k c r l hn hl ih =>
    intro n hz
    have hk := (nextU_pos c r).1 k hn
    cases n with
    | zero => simp at hz
    | succ n =>
      rw [List.length_cons] at hz
      rcases nextU_or c r with he | he
      · rw [hn] at he
        rcases ih n (by rw [List.length_drop, List.length_cons]; omega) with h1 | h1
        · left; rw [lexL, ← he]; exact h1
        · right; intro acc ha; rw [cutW, ← he]; exact h1 acc ha
      · right; intro acc ha; rw [cutW, he]; exact ⟨_, rfl⟩
  | @tok p t c r l hn hl ih =>
    intro n hz
    have hk := (nextU_pos c r).2 t hn
    cases n with
    | zero => simp at hz
    | succ n =>
      rw [List.length_cons] at hz
      rcases nextU_or c r with he | he
      · rw [hn] at he
        rcases ih n (by rw [List.length_drop, List.length_cons]; omega) with h1 | h1
        · left; rw [lexL, ← he]; simp only [h1]; rfl
        · right; intro acc ha; rw [cutW, ← he]
          simp only
          by_cases hf : acc.length = 1024
          · rw [if_pos hf]; exact ⟨_, rfl⟩
          · rw [if_neg hf]; exact h1 _ (by simp; omega)
      · right; intro acc ha; rw [cutW, he]; exact ⟨_, rfl⟩
theorem cut_full : ∀ (n : Nat) (acc : List (TokB × Nat)) (p : Nat) (s : List UInt8) (x : List (TokB × Nat)), acc.length ≤ 1024 → lexL n p s = some x → 1024 < acc.length + x.length → ∃ q, cutW n acc p s = .bad q true
  | n, acc, p, [], x, ha, hx, hl => by rw [lex_nil] at hx; cases hx; simp at hl; omega
  | 0, acc, p, c :: r, x, ha, hx, hl => by cases hx
  | n + 1, acc, p, c :: r, x, ha, hx, hl => by
    rw [lexL] at hx
    rw [cutW]
    cases h : nextC c r with
    | skip k => rw [h] at hx; exact cut_full n acc _ _ x ha hx hl
    | bad o => rw [h] at hx; cases hx
    | tok t =>
      rw [h] at hx
      obtain ⟨y, hy, rfl⟩ := Option.map_eq_some_iff.1 hx
      simp only
      by_cases hf : acc.length = 1024
      · rw [if_pos hf]; exact ⟨_, rfl⟩
      · rw [if_neg hf]
        exact cut_full n (acc ++ [(t, p)]) _ _ y (by simp; omega) hy (by simp at hl ⊢; omega)
theorem cut_or {s : List UInt8} {l : List (TokB × Nat)} (h : LexTo 0 s l) : cutB s = .ok l ∨ ∃ q, cutB s = .bad q true := by
  by_cases hs : 4096 < s.length
  · right; unfold cutB; rw [if_pos hs]; exact ⟨_, rfl⟩
  · rcases lexTo_or h s.length (Nat.le_refl _) with h1 | h1
    · by_cases hn : l.length ≤ 1024
      · left; exact cutB_ok.2 ⟨by omega, h1, hn⟩
      · right; unfold cutB cutF; rw [if_neg hs]; exact cut_full _ [] 0 _ l (by simp) h1 (by simp; omega)
    · right; unfold cutB cutF; rw [if_neg hs]; exact h1 [] (by simp)

/-! Pieces. -/
def stopB (c : UInt8) : Bool := [41, 44, 32, 124, 93, 125].contains c
/-- Nothing, or what no piece goes on with. -/
def StopH : List UInt8 → Prop
  | [] => True
  | c :: _ => stopB c = true
/-- A piece that is cut so, if what is behind does not go on with it. -/
def Pc (p : Nat) (b : List UInt8) (t : List (TokB × Nat)) : Prop := ∀ R l, StopH R → LexTo (p + b.length) R l → LexTo p (b ++ R) (t ++ l)
theorem stop_not : ∀ c : UInt8, stopB c = true ∨ c = 40 → wordB c = false ∧ symB c = false ∧ digitB c = false ∧ (c == 39) = false := by
  have h : ((List.range 256).all fun n => !(stopB (UInt8.ofNat n) || UInt8.ofNat n == 40) || (!wordB (UInt8.ofNat n) && !symB (UInt8.ofNat n) && !digitB (UInt8.ofNat n) && !(UInt8.ofNat n == 39))) = true := by decide +kernel
  intro c hc
  have h1 := List.all_eq_true.1 h c.toNat (List.mem_range.2 c.toNat_lt)
  have e : UInt8.ofNat c.toNat = c := by simp
  rw [e] at h1
  have h2 : (stopB c || c == 40) = true := by rcases hc with hc | hc <;> simp [hc]
  rw [h2] at h1
  simp only [Bool.not_true, Bool.false_or, Bool.and_eq_true, Bool.not_eq_true'] at h1
  exact ⟨h1.1.1.1, h1.1.1.2, h1.1.2, h1.2⟩
/-- Nothing, a stop, or a bracket that opens. -/
def StopO : List UInt8 → Prop
  | [] => True
  | c :: _ => stopB c = true ∨ c = 40
theorem StopH.o {R : List UInt8} (h : StopH R) : StopO R := by
  cases R with
  | nil => trivial
  | cons c r => exact Or.inl h
theorem stop_open {R : List UInt8} (h : StopH R) : openB R = false := by
  cases R with
  | nil => rfl
  | cons c r =>
    have h : stopB c = true := h
    unfold openB
    show (c == 40) = false
    cases hc : c == 40 with
    | false => rfl
    | true =>
      exfalso
      have : c = 40 := by simpa using hc
      rw [this] at h
      exact absurd h (by decide)
theorem tw_self {p : UInt8 → Bool} : ∀ {r : List UInt8}, (∀ x ∈ r, p x = true) → r.takeWhile p = r
  | [], _ => rfl
  | c :: r, h => by rw [List.takeWhile_cons, if_pos (h c List.mem_cons_self), tw_self (fun x hx => h x (List.mem_cons_of_mem _ hx))]
theorem tw_mem {p : UInt8 → Bool} : ∀ {r : List UInt8}, (r.takeWhile p).length = r.length → ∀ x ∈ r, p x = true
  | [], _, x, hx => by cases hx
  | c :: r, h, x, hx => by
    rw [List.takeWhile_cons] at h
    split at h
    · rename_i hc
      rcases List.mem_cons.1 hx with rfl | hx
      · exact hc
      · exact tw_mem (by simpa using h) x hx
    · simp at h
theorem tw_all {p : UInt8 → Bool} {r R : List UInt8} (h : (r.takeWhile p).length = r.length) (hR : ∀ c l, R = c :: l → p c = false) : (r ++ R).takeWhile p = r := by
  have h2 : ∀ x ∈ r, p x = true := tw_mem h
  rw [List.takeWhile_append_of_pos h2]
  cases R with
  | nil => simp
  | cons c l => rw [List.takeWhile_cons, if_neg (by simp [hR c l rfl])]; simp
theorem sym_all : ∀ {r R : List UInt8}, symRun r = r.length → (∀ c l, R = c :: l → symB c = false) → r ≠ [] → symRun (r ++ R) = r.length
  | [], R, h, hR, hne => absurd rfl hne
  | [c], R, h, hR, hne => by
    rw [symRun] at h
    show symRun (c :: R) = 1
    rw [symRun]
    split at h
    · rename_i hc
      simp only [Bool.and_eq_true, Bool.not_eq_true', endB] at hc
      have h46 : (c == 46) = false := by simpa using hc.2
      rw [if_pos (by simp [hc.1, h46])]
      cases R with
      | nil => rfl
      | cons d l =>
        rw [symRun, if_neg (by simp [hR d l rfl])]
    · simp at h
  | c :: d :: r, R, h, hR, hne => by
    rw [symRun] at h
    show symRun (c :: (d :: r ++ R)) = _
    rw [symRun]
    split at h
    · rename_i hc
      rw [if_pos (by exact hc)]
      rw [sym_all (r := d :: r) (by simpa using h) hR (by simp)]
      rfl
    · simp at h
/-- A plain name, whatever stands behind it that it does not go on with. -/
theorem plain_stop {s : List UInt8} (h : plainB s = true) : ∃ c r, s = c :: r ∧ ∀ R, StopO R → nextU c (r ++ R) = tokB 1 s 0 s.length (s ++ R) := by
  have hz := plain_short h
  unfold plainB at h
  split at h
  · cases h
  · rename_i c r
    refine ⟨c, r, rfl, fun R hR => ?_⟩
    have hw : ∀ d l, R = d :: l → wordB d = false := fun d l e => by subst e; exact (stop_not d hR).1
    have hsy : ∀ d l, R = d :: l → symB d = false := fun d l e => by subst e; exact (stop_not d hR).2.1
    have hnm : ∀ k, k = (c :: r).length → nameB k (c :: (r ++ R)) = tokB 1 (c :: r) 0 (c :: r).length (c :: r ++ R) := fun k hk => by
      subst hk
      unfold nameB
      rw [if_pos (by simpa using hz.2), ← List.cons_append, List.take_left]
    split at h
    · rename_i t ht
      simp only [Bool.and_eq_true, beq_iff_eq] at h
      obtain ⟨hk, hl⟩ := h
      have other : ∀ (kind : Nat) (text : List UInt8) (n k : Nat) (s : List UInt8), kind ≠ 1 → tokB kind text n k s ≠ .tok t := fun kind text n k s hne he => by
        unfold tokB at he
        cases he
        exact hne hk
      have name : ∀ (k : Nat), nameB k (c :: r) = .tok t → k = (c :: r).length := fun k he => by
        have := (name_kind he).2.2.2.1
        omega
      unfold nextC at ht
      unfold nextU nextC
      by_cases h1 : blankB c = true
      · rw [if_pos h1] at ht; cases ht
      rw [if_neg h1] at ht
      by_cases h2 : (c == 37) = true
      · rw [if_pos h2] at ht; cases ht
      rw [if_neg h2] at ht
      by_cases h3 : smallB c = true
      · rw [if_pos h3] at ht
        have hk := name _ ht
        have hd : ¬ digitB c = true := fun e => by have := (digit_not c e).2.2.1; rw [h3] at this; cases this
        rw [if_neg hd, if_neg h1, if_neg h2, if_pos h3]
        rw [tw_all (by rw [List.length_cons] at hk; omega) hw]
        exact hnm _ rfl
      rw [if_neg h3] at ht
      by_cases h4 : greatB c = true
      · rw [if_pos h4] at ht; exact absurd ht (other _ _ _ _ _ (by decide))
      rw [if_neg h4] at ht
      by_cases h5 : digitB c = true
      · rw [if_pos h5] at ht
        split at ht
        · exact absurd ht (other _ _ _ _ _ (by decide))
        · cases ht
      rw [if_neg h5] at ht
      rw [if_neg h5, if_neg h1, if_neg h2, if_neg h3, if_neg h4, if_neg h5]
      by_cases h6 : (c == 39) = true
      · rw [if_pos h6] at ht
        cases hq : quoB r with
        | none => rw [hq] at ht; cases ht
        | some p =>
          rw [hq] at ht
          simp only at ht
          split at ht
          · exact absurd ht (other _ _ _ _ _ (by decide))
          · cases ht
      rw [if_neg h6] at ht
      rw [if_neg h6]
      by_cases h7 : (c == 46 && endB r) = true
      · rw [if_pos h7] at ht; exact absurd ht (other _ _ _ _ _ (by decide))
      rw [if_neg h7] at ht
      by_cases h8 : symB c = true
      · rw [if_pos h8] at ht
        have hk := name _ ht
        have h7' : ¬ (c == 46 && endB (r ++ R)) = true := by
          intro e
          cases r with
          | nil =>
            simp only [Bool.and_eq_true] at e
            exact h7 (by simp [e.1, endB])
          | cons d r => exact h7 e
        rw [if_neg h7', if_pos h8]
        have hs := sym_all (r := c :: r) hk hsy (by simp)
        rw [List.cons_append] at hs
        rw [hs]
        exact hnm _ rfl
      rw [if_neg h8] at ht
      have h7' : ¬ (c == 46 && endB (r ++ R)) = true := by
        intro e
        simp only [Bool.and_eq_true, beq_iff_eq] at e
        rw [e.1] at h8
        exact h8 (by decide)
      rw [if_neg h7', if_neg h8]
      by_cases h9 : (c == 59 || c == 33) = true
      · rw [if_pos h9] at ht
        rw [if_pos h9]
        exact hnm _ (name _ ht)
      rw [if_neg h9] at ht
      rw [if_neg h9]
      by_cases h10 : ((c == 91 && r.head? == some 93) || (c == 123 && r.head? == some 125)) = true
      · rw [if_pos h10] at ht
        have hr : (r ++ R).head? = r.head? := by
          cases r with
          | nil => simp at h10
          | cons d r => rfl
        rw [hr, if_pos h10]
        exact hnm _ (name _ ht)
      rw [if_neg h10] at ht
      by_cases h11 : [40, 41, 91, 93, 123, 125, 44, 124].contains c = true
      · rw [if_pos h11] at ht; exact absurd ht (other _ _ _ _ _ (by decide))
      rw [if_neg h11] at ht
      cases ht
    · cases h
theorem quo_stop : ∀ (name : List UInt8) (R : List UInt8), (∀ c ∈ name, mayQ c = true) → StopO R → quoB (name.flatMap escQ ++ 39 :: R) = some (name, (name.flatMap escQ).length + 1)
  | [], R, _, hR => by
    show quoB (39 :: R) = _
    cases R with
    | nil => rfl
    | cons d l =>
      have hd := (stop_not d hR).2.2.2
      rw [quoB, if_pos (show ((39 : UInt8) == 39) = true by decide), if_neg (by simp [hd])]
      rfl
  | c :: name, R, h, hR => by
    have ih := quo_stop name R (fun x hx => h x (List.mem_cons_of_mem _ hx)) hR
    rw [List.flatMap_cons, List.append_assoc]
    obtain ⟨d, r, hdr⟩ : ∃ d r, name.flatMap escQ ++ 39 :: R = d :: r := by
      cases hx : name.flatMap escQ ++ 39 :: R with
      | nil => simp at hx
      | cons d r => exact ⟨d, r, rfl⟩
    rw [hdr] at ih ⊢
    rw [quo_cons c (h c List.mem_cons_self) d r _ ih, List.length_append]
    simp only [Option.some.injEq, Prod.mk.injEq, true_and]
    omega
/-- The kind of a written name. -/
def nmK (s : List UInt8) : Nat := if plainB s then 1 else 2
def nmTok (s : List UInt8) (o : Bool) : TokB := ⟨nmK s, s, 0, (quoteB s).length, o⟩
theorem name_next {s : List UInt8} (hm : s.all mayQ = true) (hl : s.length ≤ 64) : ∃ c r, quoteB s = c :: r ∧ ∀ R, StopO R → nextU c (r ++ R) = .tok (nmTok s (openB R)) := by
  by_cases hp : plainB s = true
  · obtain ⟨c, r, e, h⟩ := plain_stop hp
    have hq : quoteB s = s := by unfold quoteB; rw [if_pos hp]
    refine ⟨c, r, by rw [hq]; exact e, fun R hR => ?_⟩
    rw [h R hR]
    unfold tokB nmTok nmK
    rw [if_pos hp, hq, List.drop_left]
  · have hq : quoteB s = 39 :: (s.flatMap escQ ++ [39]) := by
      unfold quoteB; rw [if_neg hp, if_pos (by simp only [Bool.and_eq_true, decide_eq_true_eq]; exact ⟨hl, hm⟩)]
    refine ⟨39, s.flatMap escQ ++ [39], hq, fun R hR => ?_⟩
    have hqs := quo_stop s R (List.all_eq_true.1 hm) hR
    have e : s.flatMap escQ ++ [39] ++ R = s.flatMap escQ ++ 39 :: R := by simp
    unfold nextU nextC
    rw [if_neg (by decide), if_neg (by decide), if_neg (by decide), if_neg (by decide), if_neg (by decide), if_neg (by decide), if_pos (by decide), e, hqs]
    simp only
    rw [if_pos (by simpa using hl)]
    unfold tokB nmTok nmK
    rw [if_neg hp, hq]
    have e2 : (39 :: (s.flatMap escQ ++ 39 :: R)).drop ((s.flatMap escQ).length + 1 + 1) = R := by
      rw [List.drop_succ_cons, show s.flatMap escQ ++ 39 :: R = (s.flatMap escQ ++ [39]) ++ R by simp, show (s.flatMap escQ).length + 1 = (s.flatMap escQ ++ [39]).length by simp, List.drop_left]
    rw [e2]
    simp
theorem tok_step {p : Nat} {c : UInt8} {r R : List UInt8} {t : TokB} {l : List (TokB × Nat)} (hn : nextU c (r ++ R) = .tok t) (ht : t.len = (c :: r).length) (hl : LexTo (p + (c :: r).length) R l) : LexTo p ((c :: r) ++ R) ((t, p) :: l) := by
  refine LexTo.tok (r := r ++ R) hn ?_
  rw [ht, ← List.cons_append, List.drop_left]
  exact hl
theorem pc_name {s : List UInt8} (hm : s.all mayQ = true) (hl : s.length ≤ 64) (p : Nat) : Pc p (quoteB s) [(nmTok s false, p)] := by
  obtain ⟨c, r, e, h⟩ := name_next hm hl
  intro R l hR hL
  have h1 := h R hR.o
  rw [stop_open hR] at h1
  rw [e] at hL ⊢
  exact tok_step h1 (by unfold nmTok; rw [e]) hL
def mkTok (c : UInt8) (o : Bool) : TokB := ⟨5, [c], 0, 1, o⟩
theorem mark_next (c : UInt8) (R : List UInt8) (h : [40, 41, 44, 124, 93, 125].contains c = true ∨ (c = 91 ∧ R.head? ≠ some 93) ∨ (c = 123 ∧ R.head? ≠ some 125)) : nextU c R = .tok (mkTok c (openB R)) := by
  have hc : (c = 40 ∨ c = 41 ∨ c = 44 ∨ c = 124 ∨ c = 93 ∨ c = 125) ∨ (c = 91 ∧ R.head? ≠ some 93) ∨ (c = 123 ∧ R.head? ≠ some 125) := by
    rcases h with h | h | h
    · left; simpa using h
    · right; left; exact h
    · right; right; exact h
  unfold nextU nextC
  rcases hc with (rfl | rfl | rfl | rfl | rfl | rfl) | ⟨rfl, h⟩ | ⟨rfl, h⟩
  all_goals
    rw [if_neg (by decide), if_neg (by decide), if_neg (by decide), if_neg (by decide), if_neg (by decide), if_neg (by decide), if_neg (by decide), if_neg (by simp), if_neg (by decide), if_neg (by decide), if_neg (by simp [*]), if_pos (by decide)]
    rfl
/-- A mark ahead of a piece. -/
theorem pc_mark {c : UInt8} {b : List UInt8} {t : List (TokB × Nat)} {p : Nat} (hne : b ≠ []) (hc : [40, 41, 44, 124, 93, 125].contains c = true ∨ (c = 91 ∧ b.head? ≠ some 93) ∨ (c = 123 ∧ b.head? ≠ some 125)) (hb : Pc (p + 1) b t) : Pc p (c :: b) ((mkTok c (openB b), p) :: t) := by
  intro R l hR hL
  obtain ⟨d, r, rfl⟩ : ∃ d r, b = d :: r := by
    cases b with
    | nil => exact absurd rfl hne
    | cons d r => exact ⟨d, r, rfl⟩
  have h1 := mark_next c (d :: r ++ R) hc
  refine LexTo.tok (t := mkTok c (openB (d :: r))) h1 ?_
  exact hb R l hR (by rw [List.length_cons] at hL; rw [show p + 1 + (d :: r).length = p + ((d :: r).length + 1) by omega]; exact hL)
/-- A mark behind a piece. -/
theorem pc_close {c : UInt8} {b : List UInt8} {t : List (TokB × Nat)} {p : Nat} (hc : c = 41 ∨ c = 93 ∨ c = 125) (hb : Pc p b t) : Pc p (b ++ [c]) (t ++ [(mkTok c false, p + b.length)]) := by
  intro R l hR hL
  have h1 := mark_next c R (Or.inl (by rcases hc with rfl | rfl | rfl <;> decide))
  rw [stop_open hR] at h1
  rw [List.append_assoc, List.append_assoc]
  refine hb (c :: R) _ (by rcases hc with rfl | rfl | rfl <;> (show stopB _ = true; decide)) ?_
  refine LexTo.tok (t := mkTok c false) h1 ?_
  rw [List.length_append] at hL
  exact hL
/-- Two pieces with a mark between. -/
theorem pc_comma {c : UInt8} {a b : List UInt8} {t u : List (TokB × Nat)} {p : Nat} (hc : c = 44 ∨ c = 124) (hne : b ≠ []) (ha : Pc p a t) (hb : Pc (p + a.length + 1) b u) : Pc p (a ++ c :: b) (t ++ (mkTok c (openB b), p + a.length) :: u) := by
  intro R l hR hL
  rw [List.append_assoc, List.append_assoc]
  refine ha (c :: b ++ R) _ (by rcases hc with rfl | rfl <;> (show stopB _ = true; decide)) ?_
  exact pc_mark (p := p + a.length) hne (Or.inl (by rcases hc with rfl | rfl <;> decide)) hb R l hR (by rw [List.length_append] at hL; rw [Nat.add_assoc]; exact hL)
theorem blank_step {p : Nat} {R : List UInt8} {l : List (TokB × Nat)} (h : LexTo (p + 1) R l) : LexTo p (32 :: R) l := LexTo.skip (k := 1) rfl h
/-- A name, a blank, a piece. -/
theorem pc_ahead {s b : List UInt8} {t : List (TokB × Nat)} {p : Nat} (hm : s.all mayQ = true) (hl : s.length ≤ 64) (hb : Pc (p + (quoteB s).length + 1) b t) : Pc p (quoteB s ++ 32 :: b) ((nmTok s false, p) :: t) := by
  intro R l hR hL
  rw [List.append_assoc]
  refine pc_name hm hl p (32 :: b ++ R) (t ++ l) (show stopB 32 = true by decide) ?_
  exact blank_step (hb R l hR (by rw [List.length_append, List.length_cons] at hL; rw [show p + (quoteB s).length + 1 + b.length = p + ((quoteB s).length + (b.length + 1)) by omega]; exact hL))
/-- A piece, a blank, a name, a blank, a piece. -/
theorem pc_between {a s b : List UInt8} {t u : List (TokB × Nat)} {p : Nat} (hm : s.all mayQ = true) (hl : s.length ≤ 64) (ha : Pc p a t) (hb : Pc (p + a.length + 1 + (quoteB s).length + 1) b u) : Pc p (a ++ 32 :: (quoteB s ++ 32 :: b)) (t ++ (nmTok s false, p + a.length + 1) :: u) := by
  intro R l hR hL
  rw [List.append_assoc, List.append_assoc]
  refine ha (32 :: (quoteB s ++ 32 :: b) ++ R) _ (show stopB 32 = true by decide) ?_
  refine blank_step ?_
  exact pc_ahead (p := p + a.length + 1) hm hl hb R l hR (by rw [List.length_append, List.length_cons] at hL; rw [show p + a.length + 1 + (quoteB s ++ 32 :: b).length = p + (a.length + ((quoteB s ++ 32 :: b).length + 1)) by omega]; exact hL)
/-- A name and what stands in brackets behind it. -/
theorem pc_open {s b : List UInt8} {t : List (TokB × Nat)} {p : Nat} (hm : s.all mayQ = true) (hl : s.length ≤ 64) (hne : b ≠ []) (hb : Pc (p + (quoteB s).length + 1) b t) : Pc p (quoteB s ++ 40 :: b) ((nmTok s true, p) :: (mkTok 40 (openB b), p + (quoteB s).length) :: t) := by
  intro R l hR hL
  obtain ⟨c, r, e, h⟩ := name_next hm hl
  have h1 := h (40 :: b ++ R) (Or.inr rfl)
  have h2 := pc_mark (p := p + (quoteB s).length) hne (Or.inl (by decide : [40, 41, 44, 124, 93, 125].contains (40 : UInt8) = true)) hb R l hR (by rw [List.length_append] at hL; rw [Nat.add_assoc]; exact hL)
  rw [List.append_assoc]
  rw [e] at h2 ⊢
  exact tok_step h1 (by unfold nmTok; rw [e]) h2

/-! Numbers. -/
def digF : Nat → Nat → List UInt8
  | 0, _ => []
  | f + 1, u => if u < 10 then [UInt8.ofNat (48 + u)] else digF f (u / 10) ++ [UInt8.ofNat (48 + u % 10)]
/-- A number's digits. -/
def digW (u : Nat) : List UInt8 := digF 25 u
theorem digF_eq : ∀ (f u : Nat), u < 10 ^ (f + 1) → digF (f + 1) u = Lib.decDigits u
  | 0, u, h => by
    rw [digF, Lib.decDigits, if_pos (by simpa using h), dif_pos (by simpa using h)]
  | f + 1, u, h => by
    rw [digF, Lib.decDigits]
    by_cases hu : u < 10
    · rw [if_pos hu, dif_pos hu]
    · rw [if_neg hu, dif_neg hu, digF_eq f (u / 10) (by rw [Nat.pow_succ] at h; omega)]
theorem ten_char : ∀ u : Nat, u < 10 → digitB (UInt8.ofNat (48 + u)) = true ∧ (UInt8.ofNat (48 + u)).toNat = 48 + u := by
  intro u hu
  have h : ((List.range 10).all fun u => digitB (UInt8.ofNat (48 + u)) && (UInt8.ofNat (48 + u)).toNat == 48 + u) = true := by decide +kernel
  have := List.all_eq_true.1 h u (List.mem_range.2 hu)
  simpa using this
theorem numB_snoc (l : List UInt8) (c : UInt8) : numB (l ++ [c]) = numB l * 10 + (c.toNat - 48) := by
  unfold numB
  rw [List.foldl_append]
  rfl
theorem digF_ok : ∀ (f u : Nat), u < 10 ^ (f + 1) → (digF (f + 1) u).all digitB = true ∧ digF (f + 1) u ≠ [] ∧ numB (digF (f + 1) u) = u ∧ (digF (f + 1) u).length ≤ f + 1
  | f, u, h => by
    rw [digF]
    by_cases hu : u < 10
    · obtain ⟨h1, h2⟩ := ten_char u hu
      rw [if_pos hu]
      refine ⟨by rw [List.all_cons, h1]; rfl, by simp, ?_, by simp⟩
      show 0 * 10 + ((UInt8.ofNat (48 + u)).toNat - 48) = u
      rw [h2]; omega
    · rw [if_neg hu]
      cases f with
      | zero => simp at h; omega
      | succ f =>
        have ih := digF_ok f (u / 10) (by rw [Nat.pow_succ] at h; omega)
        obtain ⟨h1, h2⟩ := ten_char (u % 10) (by omega)
        refine ⟨?_, by simp, ?_, ?_⟩
        · rw [List.all_append, ih.1, List.all_cons, h1]; rfl
        · rw [numB_snoc, ih.2.2.1, h2]; omega
        · rw [List.length_append, List.length_singleton]; omega
theorem digW_ok (u : Nat) (h : u < 10000000000000000000000000) : (digW u).all digitB = true ∧ digW u ≠ [] ∧ numB (digW u) = u ∧ (digW u).length ≤ 25 := digF_ok 24 u (by simpa using h)
theorem digit_word : ∀ c : UInt8, digitB c = true → wordB c = true := fun c h => by unfold wordB; rw [h]; simp
theorem dig_parts {u : Nat} (h : u < 10000000000000000000000000) : ∃ c r, digW u = c :: r ∧ digitB c = true ∧ r.all digitB = true := by
  obtain ⟨h1, h2, _⟩ := digW_ok u h
  cases hd : digW u with
  | nil => exact absurd hd h2
  | cons c r =>
    rw [hd] at h1
    simp only [List.all_cons, Bool.and_eq_true] at h1
    exact ⟨c, r, rfl, h1.1, h1.2⟩
def numTok (u : Nat) : TokB := ⟨4, [], u, (digW u).length, false⟩
theorem tw_all' {p : UInt8 → Bool} {r R : List UInt8} (h : r.all p = true) (hR : ∀ c l, R = c :: l → p c = false) : (r ++ R).takeWhile p = r :=
  tw_all (by rw [tw_self (List.all_eq_true.1 h)]) hR
theorem pc_num {u : Nat} (h : u < 10000000000000000000000000) (p : Nat) : Pc p (digW u) [(numTok u, p)] := by
  obtain ⟨c, r, e, hc, hr⟩ := dig_parts h
  have hn := (digW_ok u h).2.2.1
  intro R l hR hL
  rw [e] at hL hn ⊢
  have hst : ∀ d l, R = d :: l → digitB d = false := fun d l e => by subst e; exact (stop_not d (Or.inl hR)).2.2.1
  refine tok_step (t := numTok u) ?_ (by unfold numTok; rw [e]) hL
  unfold nextU
  rw [if_pos hc, tw_all' hr hst]
  unfold tokB numTok
  have e2 : (c :: (r ++ R)).take (r.length + 1) = c :: r := by rw [← List.cons_append, ← List.length_cons (a := c), List.take_left]
  have e3 : (c :: (r ++ R)).drop (r.length + 1) = R := by rw [← List.cons_append, ← List.length_cons (a := c), List.drop_left]
  rw [e2, e3, hn, stop_open hR, e]
  rfl
def minTok : TokB := ⟨1, [45], 0, 1, false⟩
theorem pc_neg {u : Nat} (h : u < 10000000000000000000000000) (p : Nat) : Pc p (45 :: digW u) [(minTok, p), (numTok u, p + 1)] := by
  intro R l hR hL
  have h1 := pc_num h (p + 1) R l hR (by rw [List.length_cons] at hL; rw [show p + 1 + (digW u).length = p + ((digW u).length + 1) by omega]; exact hL)
  obtain ⟨c, r, e, hc, hr⟩ := dig_parts h
  refine LexTo.tok (r := digW u ++ R) (t := minTok) ?_ h1
  rw [e, List.cons_append]
  have hs : symB c = false ∧ (c == 40) = false := by
    have h : ((List.range 256).all fun n => !digitB (UInt8.ofNat n) || (!symB (UInt8.ofNat n) && !(UInt8.ofNat n == 40))) = true := by decide +kernel
    have h1 := List.all_eq_true.1 h c.toNat (List.mem_range.2 c.toNat_lt)
    have e : UInt8.ofNat c.toNat = c := by simp
    rw [e, hc] at h1
    simpa using h1
  unfold nextU nextC
  rw [if_neg (by decide), if_neg (by decide), if_neg (by decide), if_neg (by decide), if_neg (by decide), if_neg (by decide), if_neg (by decide), if_neg (by simp), if_pos (by decide)]
  have hrun : symRun (45 :: c :: (r ++ R)) = 1 := by
    rw [symRun, if_pos (by rw [show symB 45 = true by decide]; simp), symRun, if_neg (by simp [hs.1])]
  rw [hrun]
  unfold nameB tokB minTok openB
  simp [hs.2]
def varTok (i : Nat) : TokB := ⟨3, 95 :: digW i, 0, (digW i).length + 1, false⟩
theorem pc_var {i : Nat} (h : i < 10000000000000000000000000) (p : Nat) : Pc p (95 :: digW i) [(varTok i, p)] := by
  have hd := (digW_ok i h).1
  intro R l hR hL
  have hst : ∀ d l, R = d :: l → wordB d = false := fun d l e => by subst e; exact (stop_not d (Or.inl hR)).1
  refine tok_step (t := varTok i) ?_ rfl hL
  have hw : (digW i).all wordB = true := List.all_eq_true.2 (fun c hc => digit_word c (List.all_eq_true.1 hd c hc))
  unfold nextU nextC
  rw [if_neg (by decide), if_neg (by decide), if_neg (by decide), if_neg (by decide), if_pos (by decide), tw_all' hw hst]
  unfold tokB varTok
  have e2 : (95 :: (digW i ++ R)).take ((digW i).length + 1) = 95 :: digW i := by rw [← List.cons_append, ← List.length_cons (a := (95 : UInt8)), List.take_left]
  have e3 : (95 :: (digW i ++ R)).drop ((digW i).length + 1) = R := by rw [← List.cons_append, ← List.length_cons (a := (95 : UInt8)), List.drop_left]
  rw [e2, e3, stop_open hR]
end Go.Proofs.YtobdhcaoeholhaaGreatDoor
/- Writing, as chapter 9 says it, over trees: pure. Nothing here is walked. -/
namespace Go.Proofs.YtobdhcaoeholhaaGreatDoor
open Go.RowKit
set_option linter.unusedVariables false

def zO : O × Bool := (⟨⟨#[]⟩, ⟨#[]⟩, 0⟩, false)
/-- A number in base ten. -/
def numW (n : Int) : List UInt8 := if n < 0 then 45 :: digW n.natAbs else digW n.toNat
def yfxL : List UInt8 := [121, 102, 120]
section
variable (vs : List Int)
/-- The place of a variable. -/
def idxW (n : Int) : Int := match vs.findIdx? (fun v => v == n) with
  | some i => (i : Nat)
  | none => -1
/-- What stands first. -/
def headW : Tm → List UInt8
  | .mk k n s _ => if k = 0 then 95 :: numW (idxW vs n) else if k = 1 then numW n else if k = 2 then quoteB (bl s) else []
/-- Terms, each as W says, with commas between. -/
def rowW (W : Tm → List UInt8) : List Tm → List UInt8
  | [] => []
  | [x] => W x
  | x :: r => W x ++ 44 :: rowW W r
def calledW (W : Tm → List UInt8) (x : Tm) : List UInt8 := headW vs x ++ (if x.args.isEmpty then [] else 40 :: (rowW W x.args ++ [41]))
def plainF : Nat → Tm → List UInt8
  | 0, _ => []
  | f + 1, x => calledW vs (plainF f) x
/-- A term without operators. -/
def PLAIN (x : Tm) : List UInt8 := plainF vs (sizeN x) x
variable (pre bet : List UInt8 → O × Bool)
/-- The operator by which a term is written. -/
def opW : Tm → O × Bool
  | .mk _ _ s [a] => if (pre (bl s)).2 && (plainB (bl s) && !(bl s == [45] && a.k == 1)) then pre (bl s) else zO
  | .mk _ _ s [_, _] => if bl s == [46] then zO else bet (bl s)
  | _ => zO
def levW (x : Tm) : Int := if x.k == 2 && x.args.isEmpty then max (pre (bl x.s)).1.l (bet (bl x.s)).1.l else (opW pre bet x).1.l
def placeW (B : Tm → List UInt8) (most : Int) (x : Tm) : List UInt8 := if levW pre bet x ≤ most then B x else 40 :: (B x ++ [41])
def mostW (x : Tm) (most : Int) : Int := if x.args.isEmpty && decide (0 < levW pre bet x) || (x.k == 1 && decide (x.n < 0)) then -1 else most
def besideW (B : Tm → List UInt8) (x : Tm) (most : Int) : List UInt8 := placeW pre bet B (mostW pre bet x most) x
def aheadW (B : Tm → List UInt8) (o : O) (x : Tm) : List UInt8 := quoteB (bl o.n) ++ 32 :: besideW pre bet B x (sidesB (bl o.k) o.l).2
def leftW (o : O) (x : Tm) : Int := if bl o.k == yfxL && !(bl (opW pre bet x).1.k == yfxL) then wrap64 ((sidesB (bl o.k) o.l).1 - 1) else (sidesB (bl o.k) o.l).1
def betweenW (B : Tm → List UInt8) (o : O) (x y : Tm) : List UInt8 :=
  besideW pre bet B x (leftW pre bet o x) ++ ((if bl o.n == [44] then [44] else 32 :: (quoteB (bl o.n) ++ [32])) ++ besideW pre bet B y (sidesB (bl o.k) o.l).2)
def nilW (x : Tm) : Bool := sameT x (aT [91, 93])
def tailW (B : Tm → List UInt8) (x : Tm) : List UInt8 := if nilW x then [] else 124 :: placeW pre bet B 999 x
def listW (B : Tm → List UInt8) (x : Tm) : List UInt8 := 91 :: (rowW (placeW pre bet B 999) (itemsT x).1 ++ (tailW pre bet B (itemsT x).2 ++ [93]))
/-- A term without brackets around it. -/
def bareW (B : Tm → List UInt8) (x : Tm) : List UInt8 :=
  if (opW pre bet x).2 then (match x.args with
    | [a] => aheadW pre bet B (opW pre bet x).1 a
    | [a, b] => betweenW pre bet B (opW pre bet x).1 a b
    | _ => [])
  else if x.k == 2 && (bl x.s == [46] && decide (x.args.length = 2)) then listW pre bet B x
  else if bl x.s == [123, 125] && decide (x.args.length = 1) then 123 :: ((match x.args with | [a] => placeW pre bet B 1200 a | _ => []) ++ [125])
  else calledW vs (placeW pre bet B 999) x
def bareF : Nat → Tm → List UInt8
  | 0, _ => []
  | f + 1, x => bareW vs pre bet (bareF f) x
def BARE (x : Tm) : List UInt8 := bareF vs pre bet (sizeN x) x
/-- A whole term. -/
def WRITE (x : Tm) : List UInt8 := placeW pre bet (BARE vs pre bet) 1200 x
end

theorem opW_one {pre bet : List UInt8 → O × Bool} {k n : Int} {s : ByteArray} {a : Tm} : opW pre bet (.mk k n s [a]) = if ((pre (bl s)).2 && (plainB (bl s) && !(bl s == [45] && a.k == 1))) = true then pre (bl s) else zO := rfl
theorem opW_two {pre bet : List UInt8 → O × Bool} {k n : Int} {s : ByteArray} {a c : Tm} : opW pre bet (.mk k n s [a, c]) = if (bl s == [46]) = true then zO else bet (bl s) := rfl
/-- What has no Args. -/
theorem bareW_leaf {vs : List Int} {pre bet : List UInt8 → O × Bool} {B : Tm → List UInt8} {k n : Int} {s : ByteArray} : bareW vs pre bet B (.mk k n s []) = headW vs (.mk k n s []) := by
  unfold bareW
  rw [if_neg (by show ¬ (false = true); decide), if_neg (by show ¬ ((k == 2 && (bl s == [46] && decide ((0 : Nat) = 2))) = true); simp), if_neg (by show ¬ ((bl s == [123, 125] && decide ((0 : Nat) = 1)) = true); simp)]
  unfold calledW
  simp [Tm.args]

/-! Enough is enough. -/
theorem rowW_agree {W W' : Tm → List UInt8} : ∀ {l : List Tm}, (∀ x ∈ l, W x = W' x) → rowW W l = rowW W' l
  | [], _ => rfl
  | [x], h => h x (by simp)
  | x :: y :: r, h => by
    show W x ++ 44 :: rowW W (y :: r) = W' x ++ 44 :: rowW W' (y :: r)
    rw [h x (by simp), rowW_agree (fun z hz => h z (List.mem_cons_of_mem _ hz))]
theorem placeW_agree {pre bet : List UInt8 → O × Bool} {B B' : Tm → List UInt8} {m : Int} {x : Tm} (h : B x = B' x) : placeW pre bet B m x = placeW pre bet B' m x := by
  unfold placeW; rw [h]
theorem items_size : ∀ (n : Nat) (t : Tm), sizeN t ≤ n → (∀ x ∈ (itemsT t).1, sizeN x < sizeN t) ∧ (sizeN (itemsT t).2 < sizeN t ∨ ((itemsT t).1 = [] ∧ (itemsT t).2 = t))
  | 0, t, h => by have := size_pos t; omega
  | n + 1, t, h => by
    cases hp : pairT t with
    | none => rw [items_none hp]; exact ⟨fun x hx => (by cases hx), Or.inr ⟨rfl, rfl⟩⟩
    | some q =>
      obtain ⟨a, b⟩ := q
      obtain ⟨h1, h2, h3, h4⟩ := pair_size hp
      have ih := items_size n b (by omega)
      rw [items_some hp]
      have ha : sizeN a < sizeN t := by
        cases t with
        | mk k n s ts =>
          cases (show ts = [a, b] from h2)
          rw [sizeN, sizesN, sizesN, sizesN]
          have := size_pos b
          omega
      refine ⟨fun x hx => ?_, Or.inl ?_⟩
      · rcases List.mem_cons.1 hx with rfl | hx
        · exact ha
        · have := ih.1 x hx; omega
      · rcases ih.2 with h | ⟨_, h⟩
        · show sizeN (itemsT b).2 < _; omega
        · show sizeN (itemsT b).2 < _; rw [h]; exact h1
theorem arg_size {x y : Tm} (h : y ∈ x.args) : sizeN y < sizeN x := by
  cases x with
  | mk k n s ts =>
    have := sizes_mem (show y ∈ ts from h)
    rw [sizeN]; omega
theorem calledW_agree {vs : List Int} {W W' : Tm → List UInt8} {x : Tm} (h : ∀ y, sizeN y < sizeN x → W y = W' y) : calledW vs W x = calledW vs W' x := by
  unfold calledW
  rw [rowW_agree (fun y hy => h y (arg_size hy))]
theorem bareW_agree {vs : List Int} {pre bet : List UInt8 → O × Bool} {B B' : Tm → List UInt8} {x : Tm} (h : ∀ y, sizeN y < sizeN x → B y = B' y) : bareW vs pre bet B x = bareW vs pre bet B' x := by
  unfold bareW
  split
  · split
    · rename_i a he
      unfold aheadW besideW
      rw [placeW_agree (h a (arg_size (by rw [he]; simp)))]
    · rename_i a b he
      unfold betweenW besideW
      rw [placeW_agree (h a (arg_size (by rw [he]; simp))), placeW_agree (h b (arg_size (by rw [he]; simp)))]
    · rfl
  · split
    · unfold listW tailW
      rename_i hl
      have hi := items_size (sizeN x) x (Nat.le_refl _)
      rw [rowW_agree (fun y hy => placeW_agree (h y (hi.1 y hy)))]
      rcases hi.2 with ht | ⟨h1, h2⟩
      · rw [placeW_agree (h _ ht)]
      · exfalso
        cases x with
        | mk k n s ts =>
          simp only [Bool.and_eq_true, beq_iff_eq, decide_eq_true_eq] at hl
          obtain ⟨hk, hs, hl⟩ := hl
          have hk2 : k = 2 := hk
          have hs2 : s.data.toList = [46] := hs
          have hl2 : ts.length = 2 := hl
          clear hk hs hl
          match ts, hl2 with
          | [a, b], _ =>
            have hp : pairT (.mk k n s [a, b]) = some (a, b) := by
              show (if (k == 2 && s.data.toList == [46]) = true then some (a, b) else none) = _
              rw [hk2, hs2]
              rfl
            rw [items_some hp] at h1
            cases h1
    · split
      · split
        · rename_i a he
          rw [placeW_agree (h a (arg_size (by rw [he]; simp)))]
        · rfl
      · exact calledW_agree (fun y hy => placeW_agree (h y hy))
theorem bareF_fuel {vs : List Int} {pre bet : List UInt8 → O × Bool} : ∀ (f f' : Nat) (x : Tm), sizeN x ≤ f → sizeN x ≤ f' → bareF vs pre bet f x = bareF vs pre bet f' x
  | 0, f', x, h, _ => by have := size_pos x; omega
  | f + 1, 0, x, _, h => by have := size_pos x; omega
  | f + 1, f' + 1, x, h, h' => by
    rw [bareF, bareF]
    exact bareW_agree (fun y hy => bareF_fuel f f' y (by omega) (by omega))
theorem BARE_eq {vs : List Int} {pre bet : List UInt8 → O × Bool} (x : Tm) : BARE vs pre bet x = bareW vs pre bet (BARE vs pre bet) x := by
  unfold BARE
  obtain ⟨n, hn⟩ : ∃ n, sizeN x = n + 1 := ⟨sizeN x - 1, by have := size_pos x; omega⟩
  rw [hn, bareF]
  exact bareW_agree (fun y hy => bareF_fuel n _ y (by omega) (Nat.le_refl _))
theorem plainF_fuel {vs : List Int} : ∀ (f f' : Nat) (x : Tm), sizeN x ≤ f → sizeN x ≤ f' → plainF vs f x = plainF vs f' x
  | 0, f', x, h, _ => by have := size_pos x; omega
  | f + 1, 0, x, _, h => by have := size_pos x; omega
  | f + 1, f' + 1, x, h, h' => by
    rw [plainF, plainF]
    exact calledW_agree (fun y hy => plainF_fuel f f' y (by omega) (by omega))
theorem PLAIN_eq {vs : List Int} (x : Tm) : PLAIN vs x = calledW vs (PLAIN vs) x := by
  unfold PLAIN
  obtain ⟨n, hn⟩ : ∃ n, sizeN x = n + 1 := ⟨sizeN x - 1, by have := size_pos x; omega⟩
  rw [hn, plainF]
  exact calledW_agree (fun y hy => plainF_fuel n _ y (by omega) (Nat.le_refl _))
end Go.Proofs.YtobdhcaoeholhaaGreatDoor
/- What the cards of this seat share: strconv's ErrRange is an error where the program's text lays it. -/
namespace Go.Proofs.YtobdhcaoeholhaaGreatDoor
open Go.RowKit
theorem star : "*" ++ "errors.errorString" = "*errors.errorString" := by decide
theorem row_err (u : TypeId) (h : Tryz.prog.typeName? 3 u = some "*errors.errorString") : u = 233 :=
  typeName_ptr_named (nm := "errors.errorString") (by rw [star]; kernel_rfl) (by kernel_rfl) (by decide) u (by rw [star]; exact h)
theorem err_of {l : List (String × DataW Unit)} {w : World} (hl : (l.all fun x => x.2.handleName?.isNone) = true) {nm : String} {text : List UInt8}
    (hf : l.filter (fun x => x.1 == "strconv.ErrRange") = [("strconv.ErrRange", .iface nm (.ptr (.agg [.lit (.string text)])))]) (hn : nm = "*errors.errorString") (h : laidMetH Tryz.prog l w) : Err w := by
  subst hn
  rw [MakeChecks.laidMetH_plain _ _ _ hl] at h
  have h1 := h.filter (fun x => x.1 == "strconv.ErrRange")
  rw [hf] at h1
  obtain ⟨a, s, hv, _⟩ := laid_sentinel h1 gRange (ti := 178) (by kernel_rfl) Tryz.underlying178 (tp := 233) row_err Tryz.underlying233 Tryz.underlying235 rfl rfl Tryz.underlying9 (by kernel_rfl) (by kernel_rfl)
  exact ⟨_, _, hv⟩
end Go.Proofs.YtobdhcaoeholhaaGreatDoor
/- The project's writer: where a variable stands among others; a term's head. -/
namespace Go.Proofs.YtobdhcaoeholhaaGreatDoor
open Go.RowKit
set_option linter.unusedVariables false
set_option maxRecDepth 100000

theorem idx_none {vs : List Int} {n : Int} (h : ∀ (i : Nat) (x : Int), vs[i]? = some x → ¬ x = n) : idxW vs n = -1 := by
  unfold idxW
  have : vs.findIdx? (fun v => v == n) = none := by
    rw [List.findIdx?_eq_none_iff]
    intro x hx
    obtain ⟨i, hi, rfl⟩ := List.getElem_of_mem hx
    simp only [beq_eq_false_iff_ne]
    exact h i _ (List.getElem?_eq_getElem hi)
  rw [this]
theorem idx_some {vs : List Int} {n : Int} {j : Nat} (hj : vs[j]? = some n) (h : ∀ (i : Nat) (x : Int), i < j → vs[i]? = some x → ¬ x = n) : idxW vs n = (j : Nat) := by
  unfold idxW
  have : vs.findIdx? (fun v => v == n) = some j := by
    rw [List.findIdx?_eq_some_iff_getElem]
    have hjl := List.getElem?_eq_some_iff.1 hj
    refine ⟨hjl.1, by rw [hjl.2]; exact beq_self_eq_true n, fun i hi => ?_⟩
    have hil : i < vs.length := Nat.lt_trans hi hjl.1
    have := h i (vs[i]'hil) hi (List.getElem?_eq_getElem hil)
    simpa using this
  rw [this]
set_option maxHeartbeats 2000000 in
theorem windex_at {vs : List Int} {w : World} {v : Value} (hv : Nums w v vs) (n : Int) : Calls Tryz.prog 112 #[v, .int .i64 n] w fun e w' => e = .returned (.int .i64 (idxW vs n)) ∧ w = w' := by
  obtain ⟨ao, cv, rfl, hl1, hl2⟩ := hv.len
  unfold maxLen at hl2
  have HV := Lib.hid hv
  obtain ⟨L, hL⟩ : ∃ L, vs.length = L := ⟨_, rfl⟩
  have HL := Lib.hid hL
  rw [hL] at hl1
  rw [hL]
  obtain ⟨X, hX⟩ : ∃ X, idxW vs n = X := ⟨_, rfl⟩
  rw [hX]
  have HX := Lib.hid hX
  rw [hL] at HV
  clear hv hL hX
  go_enter Tryz.func112, Tryz.ntmps112
  go_wp2_with fail
  go_loop [8] (fun v => ∃ j : Nat, j ≤ L ∧ v = .int .i64 j ∧ Hid (∀ (i : Nat) (x : Int), i < j → vs[i]? = some x → ¬ x = n)) (fun v => L - (intOf v).toNat)
  case atStart => exact ⟨0, Nat.zero_le _, rfl, Lib.hid (fun i x h => by omega)⟩
  case round =>
    obtain ⟨j, hj, rfl, HNO⟩ := hrel
    by_cases hlt : j < L
    · obtain ⟨x, hx⟩ : ∃ x, vs[j]? = some x := ⟨_, List.getElem?_eq_getElem (by rw [HL.out]; exact hlt)⟩
      obtain ⟨b, off, rfl, hbb, d0⟩ := HV.out.get hx
      have HXJ := Lib.hid hx
      clear hx
      have hjj : decide ((j : Int) < (L : Int)) = true := decide_eq_true (by omega)
      by_cases hxn : n = x
      · subst hxn
        have hxe : (n == n) = true := beq_self_eq_true n
        go_wp2
        go_ret
        exact ⟨ret_int ((idx_some HXJ.out HNO.out).symm.trans HX.out), rfl⟩
      · have hxe : (n == x) = false := beq_false_of_ne hxn
        have HNE := Lib.hid (fun e : x = n => hxn e.symm)
        clear hxn
        go_wp2
        go_round
        case rel =>
          refine ⟨j + 1, by omega, by go_num, Lib.hid (fun i y hi hy => ?_)⟩
          by_cases e : i = j
          · rw [e, HXJ.out] at hy
            cases hy
            exact HNE.out
          · exact HNO.out i y (by omega) hy
        case measure => simp [intOf]; omega
    · obtain rfl : L = j := by omega
      have hjj : decide ((L : Int) < (L : Int)) = false := decide_eq_false (by omega)
      have HF := Lib.hid (idx_none (vs := vs) (n := n) (fun i x hi => HNO.out i x (by rw [← HL.out]; exact (List.getElem?_eq_some_iff.1 hi).1) hi))
      go_wp2
      go_ret
      exact ⟨ret_int (HF.out.symm.trans HX.out), rfl⟩
theorem numW_itoa {n : Int} (h : n.natAbs < 10000000000000000000000000) : numW n = Lib.itoa n := by
  unfold numW digW Lib.itoa
  by_cases h0 : n < 0
  · rw [if_pos h0]
    rw [digF_eq 24 n.natAbs (by simpa using h)]
    simp [h0]
  · rw [if_neg h0]
    rw [digF_eq 24 n.toNat (by have : n.toNat = n.natAbs := by omega
                               rw [this]; simpa using h)]
    simp [h0]
theorem itoa_any {n : Int} (h1 : -9223372036854775808 ≤ n) (h2 : n ≤ 9223372036854775807) {w : World} (hc : Con w) : Calls Tryz.prog 137 #[.int .i64 n] w fun e w' => e = .returned (.string ⟨(numW n).toArray⟩) ∧ Below w.heap.size w w' :=
  (Tryz.strconv_Itoa n h1 h2 w hc.pow).mono fun e w' h => ⟨by rw [numW_itoa (by omega)]; exact h.1, by obtain ⟨k, os, rfl⟩ := h.2; exact Lib.below_grow _ _ (Nat.le_refl _) _ _⟩
theorem format_any {n : Int} (h1 : -9223372036854775808 ≤ n) (h2 : n ≤ 9223372036854775807) {w : World} (hc : Con w) : Calls Tryz.prog 138 #[.int .i64 n, .int .i64 10] w fun e w' => e = .returned (.string ⟨(numW n).toArray⟩) ∧ Below w.heap.size w w' :=
  (Tryz.strconv_FormatInt_10 n h1 h2 w hc.pow).mono fun e w' h => ⟨by rw [numW_itoa (by omega)]; exact h.1, by obtain ⟨k, os, rfl⟩ := h.2; exact Lib.below_grow _ _ (Nat.le_refl _) _ _⟩
end Go.Proofs.YtobdhcaoeholhaaGreatDoor
/- The project's writer: terms with commas between; a term with its name ahead. -/
namespace Go.Proofs.YtobdhcaoeholhaaGreatDoor
open Go.RowKit
set_option linter.unusedVariables false
set_option maxRecDepth 100000

/-- What a way of writing an Arg does. -/
def ArgC (f : Nat) (W : Tm → List UInt8) (n : Nat) (wb : Nat) (xs : List O) (vs : List Int) : Prop :=
  ∀ (y : Tm), sizeN y < n → goodT y = true → ∀ (M : Nat → Bool) (w : World) (out : List UInt8) (v : Value), Wr M w wb xs vs out → TmV (hide M w) y v → out.length + (W y).length ≤ 1000000000 → Calls Tryz.prog f #[.pointer (some ⟨wb, 0, none⟩), v] w (WPost M w wb xs vs (out ++ W y))
theorem row_take {W : Tm → List UInt8} : ∀ {l : List Tm} {i : Nat} {y : Tm}, l[i]? = some y → rowW W (l.take (i + 1)) = if i = 0 then W y else rowW W (l.take i) ++ 44 :: W y
  | [], i, y, h => by simp at h
  | x :: r, 0, y, h => by
    simp at h
    subst h
    simp [rowW]
  | x :: r, i + 1, y, h => by
    have h' : r[i]? = some y := by simpa using h
    have ih := row_take (W := W) h'
    rw [if_neg (by omega), List.take_succ_cons, List.take_succ_cons]
    obtain ⟨a, t, hat⟩ : ∃ a t, r.take (i + 1) = a :: t := by
      cases r with
      | nil => simp at h'
      | cons a r => exact ⟨a, r.take i, rfl⟩
    have e : rowW W (x :: r.take (i + 1)) = W x ++ 44 :: rowW W (r.take (i + 1)) := by rw [hat]; rfl
    rw [e, ih]
    by_cases h0 : i = 0
    · subst h0
      simp [rowW]
    · rw [if_neg h0]
      obtain ⟨b, u, hbu⟩ : ∃ b u, r.take i = b :: u := by
        cases r with
        | nil => simp at h'
        | cons b r =>
          cases i with
          | zero => exact absurd rfl h0
          | succ i => exact ⟨b, r.take i, rfl⟩
      have e2 : rowW W (x :: r.take i) = W x ++ 44 :: rowW W (r.take i) := by rw [hbu]; rfl
      rw [e2]
      simp
theorem row_len {W : Tm → List UInt8} : ∀ (l : List Tm) (i : Nat), (rowW W (l.take i)).length ≤ (rowW W l).length
  | [], i => by simp [rowW]
  | [x], 0 => by simp [rowW]
  | [x], i + 1 => by simp
  | x :: y :: r, 0 => by simp [rowW]
  | x :: y :: r, 1 => by simp [rowW]
  | x :: y :: r, i + 2 => by
    have := row_len (W := W) (y :: r) (i + 1)
    show (W x ++ 44 :: rowW W (y :: r.take i)).length ≤ (W x ++ 44 :: rowW W (y :: r)).length
    rw [List.length_append, List.length_append, List.length_cons, List.length_cons]
    have e : rowW W ((y :: r).take (i + 1)) = rowW W (y :: r.take i) := rfl
    rw [e] at this
    omega
theorem comma_bl : bl (⟨#[44]⟩ : ByteArray) = [44] := rfl
theorem open_bl1 : bl (⟨#[40]⟩ : ByteArray) = [40] := rfl
theorem shut_bl1 : bl (⟨#[41]⟩ : ByteArray) = [41] := rfl
set_option maxHeartbeats 4000000 in
theorem row_item {W : Tm → List UInt8} {n wb : Nat} {xs : List O} {vs : List Int} (HA : ArgC 136 W n wb xs vs) {l : List Tm} (hl : ∀ x ∈ l, sizeN x < n ∧ goodT x = true) {M : Nat → Bool} {w : World} {out : List UInt8} (h : Wr M w wb xs vs out) {v : Value} (ht : Tms (hide M w) v l) (hz : out.length + (rowW W l).length ≤ 1000000000) :
    Calls Tryz.prog 139 #[.pointer (some ⟨wb, 0, none⟩), v, .func (.func 136) #[.pointer (some ⟨wb, 0, none⟩)] #[]] w (WPost M w wb xs vs (out ++ rowW W l)) := by
  obtain ⟨a, c, rfl, h1, h2, h3⟩ := ht.len
  unfold BIG at h3
  unfold maxLen at h2
  obtain ⟨m, hm⟩ : ∃ m, l.length = m := ⟨_, rfl⟩
  have HT := Lib.hid ht
  have HM := Lib.hid hm
  rw [hm] at h1 h3 HT ⊢
  have HL := Lib.hid hl
  have HZ := Lib.hid hz
  have HAA := Lib.hid HA
  have HW := Lib.hid h
  clear h ht hm hl hz HA
  go_enter Tryz.func139, Tryz.ntmps139
  go_wp2_with fail
  go_loopw [10] (fun v wr => ∃ (i : Nat) (M1 : Nat → Bool), i ≤ m ∧ v = .int .i64 i ∧ Hid (Wr M1 wr wb xs vs (out ++ rowW W (l.take i))) ∧ Hid (Turn M M M1 M1 w wr)) (fun v _ => m - (intOf v).toNat)
  case atStart => exact ⟨0, M, Nat.zero_le _, rfl, Lib.hid (by simpa [rowW] using HW.out), Lib.hid (Turn.refl _ _ _)⟩
  case round =>
    obtain ⟨i, M1, hi, rfl, HR, HTU⟩ := hrel
    by_cases hil : i < m
    · have hdl : decide ((i : Int) < (m : Int)) = true := decide_eq_true (by omega)
      obtain ⟨y, hy⟩ : ∃ y, l[i]? = some y := ⟨_, List.getElem?_eq_getElem (by rw [HM.out]; exact hil)⟩
      have hmem := List.mem_of_getElem? hy
      have htm := HT.out.turn HTU.out
      obtain ⟨b, off, k', n', s', u', rfl, hbb, _, _, _, c0, c1, c2, c3, htu, hty⟩ := htm.get hy
      obtain ⟨au, cu, rfl, _⟩ := htu.len
      have hst := (Stays.unhide M1 wr).2
      have c0 := hst _ _ c0
      have c1 := hst _ _ c1
      have c2 := hst _ _ c2
      have c3 := hst _ _ c3
      obtain ⟨q, hq⟩ : ∃ q, y.args.length = q := ⟨_, rfl⟩
      rw [hq] at c3 hty
      have HTY := Lib.hid hty
      obtain ⟨w1, hw1, hb1, hz1, hx1⟩ := box_new wr #[.int .i64 k', .int .i64 n', .string s', .slice au q cu] 27
      have hrt := row_take (W := W) hy
      have hrl := row_len (W := W) l (i + 1)
      have HS := Lib.hid (HL.out y hmem)
      by_cases h0 : i = 0
      · subst h0
        simp only [Nat.zero_mul, Nat.add_zero] at c0 c1 c2 c3
        rw [if_pos rfl] at hrt
        rw [hrt] at hrl
        have HC := Lib.hid (HAA.out y HS.out.1 HS.out.2 M1 w1 _ _ (HR.out.later hb1) (TmV.later hb1 HTY.out) (by have := HZ.out; rw [show rowW W (l.take 0) = [] from rfl, List.append_nil]; omega))
        have HRT := Lib.hid hrt
        have hd0 : decide ((0 : Int) > 0) = false := by decide
        obtain ⟨b0, b1, b2, b3, bf⟩ := hx1.four
        have HB1 := Lib.hid hb1
        clear hy hmem htm htu hty hst hz1 hx1 hrt hrl hq hb1
        go_wp2_with fail
        (try rw [hw1])
        clear hw1
        go_wp2_with (go_at_call 136; go_fit (HC.out); rintro e w2 ⟨rfl, M2, g1, g2⟩; have G1 := Lib.hid g1; have G2 := Lib.hid (HTU.out.trans ((Turn.below HB1.out).trans g2)); clear g1 g2)
        go_roundw
        case rel => exact ⟨1, M2, by omega, by go_num, Lib.hid (by rw [HRT.out]; simpa [rowW] using G1.out), G2⟩
        case measure => simp [intOf]; omega
      · rw [if_neg h0] at hrt
        rw [hrt, List.length_append, List.length_cons] at hrl
        have HPT := Lib.hid (put_at (HR.out.later hb1) ⟨#[44]⟩ (by have := HZ.out; rw [comma_bl, List.length_append, List.length_singleton]; omega))
        have HRT := Lib.hid hrt
        have hd0 : decide ((i : Int) > 0) = true := decide_eq_true (by omega)
        have HX1 := Lib.hid hx1
        have HB1 := Lib.hid hb1
        have HTY1 := Lib.hid (TmV.later hb1 HTY.out)
        have HMB := Lib.hid (HR.out.new (Nat.le_refl _))
        have HRL := Lib.hid hrl
        clear hy hmem htm htu hty hst hz1 hx1 hrt hrl hq hb1
        go_wp2_with fail
        (try rw [hw1])
        clear hw1
        (go_wp2_with fail; go_fit (HPT.out); rintro e w2 ⟨rfl, M2, g1, g2⟩)
        have HC := Lib.hid (HAA.out y HS.out.1 HS.out.2 M2 w2 _ _ g1 (TmV.turn HTY1.out g2) (by have := HZ.out; have := HRL.out; rw [comma_bl, List.length_append, List.length_append, List.length_singleton]; omega))
        obtain ⟨b0, b1, b2, b3, bf⟩ := (HX1.out.turn g2 HMB.out).four
        have G2 := Lib.hid (HTU.out.trans ((Turn.below HB1.out).trans g2))
        clear g1 g2
        go_wp2_with (go_at_call 136; go_fit (HC.out); rintro e w3 ⟨rfl, M3, g3, g4⟩; have G3 := Lib.hid g3; have G4 := Lib.hid (G2.out.trans g4); clear g3 g4)
        go_roundw
        case rel => exact ⟨i + 1, M3, by omega, by go_num, Lib.hid (by rw [HRT.out]; have := G3.out; rw [comma_bl] at this; simpa using this), G4⟩
        case measure => simp [intOf]; omega
    · obtain rfl : m = i := by omega
      have hdl : decide ((m : Int) < (m : Int)) = false := decide_eq_false (by omega)
      have HE := Lib.hid (show l.take m = l from List.take_of_length_le (by rw [HM.out]; omega))
      go_wp2
      go_end0
      exact ⟨rfl, M1, by rw [← HE.out]; exact HR.out, HTU.out⟩
set_option maxHeartbeats 4000000 in
theorem row_plain {W : Tm → List UInt8} {n wb : Nat} {xs : List O} {vs : List Int} (HA : ArgC 57 W n wb xs vs) {l : List Tm} (hl : ∀ x ∈ l, sizeN x < n ∧ goodT x = true) {M : Nat → Bool} {w : World} {out : List UInt8} (h : Wr M w wb xs vs out) {v : Value} (ht : Tms (hide M w) v l) (hz : out.length + (rowW W l).length ≤ 1000000000) :
    Calls Tryz.prog 139 #[.pointer (some ⟨wb, 0, none⟩), v, .func (.func 57) #[.pointer (some ⟨wb, 0, none⟩)] #[]] w (WPost M w wb xs vs (out ++ rowW W l)) := by
  obtain ⟨a, c, rfl, h1, h2, h3⟩ := ht.len
  unfold BIG at h3
  unfold maxLen at h2
  obtain ⟨m, hm⟩ : ∃ m, l.length = m := ⟨_, rfl⟩
  have HT := Lib.hid ht
  have HM := Lib.hid hm
  rw [hm] at h1 h3 HT ⊢
  have HL := Lib.hid hl
  have HZ := Lib.hid hz
  have HAA := Lib.hid HA
  have HW := Lib.hid h
  clear h ht hm hl hz HA
  go_enter Tryz.func139, Tryz.ntmps139
  go_wp2_with fail
  go_loopw [10] (fun v wr => ∃ (i : Nat) (M1 : Nat → Bool), i ≤ m ∧ v = .int .i64 i ∧ Hid (Wr M1 wr wb xs vs (out ++ rowW W (l.take i))) ∧ Hid (Turn M M M1 M1 w wr)) (fun v _ => m - (intOf v).toNat)
  case atStart => exact ⟨0, M, Nat.zero_le _, rfl, Lib.hid (by simpa [rowW] using HW.out), Lib.hid (Turn.refl _ _ _)⟩
  case round =>
    obtain ⟨i, M1, hi, rfl, HR, HTU⟩ := hrel
    by_cases hil : i < m
    · have hdl : decide ((i : Int) < (m : Int)) = true := decide_eq_true (by omega)
      obtain ⟨y, hy⟩ : ∃ y, l[i]? = some y := ⟨_, List.getElem?_eq_getElem (by rw [HM.out]; exact hil)⟩
      have hmem := List.mem_of_getElem? hy
      have htm := HT.out.turn HTU.out
      obtain ⟨b, off, k', n', s', u', rfl, hbb, _, _, _, c0, c1, c2, c3, htu, hty⟩ := htm.get hy
      obtain ⟨au, cu, rfl, _⟩ := htu.len
      have hst := (Stays.unhide M1 wr).2
      have c0 := hst _ _ c0
      have c1 := hst _ _ c1
      have c2 := hst _ _ c2
      have c3 := hst _ _ c3
      obtain ⟨q, hq⟩ : ∃ q, y.args.length = q := ⟨_, rfl⟩
      rw [hq] at c3 hty
      have HTY := Lib.hid hty
      obtain ⟨w1, hw1, hb1, hz1, hx1⟩ := box_new wr #[.int .i64 k', .int .i64 n', .string s', .slice au q cu] 27
      have hrt := row_take (W := W) hy
      have hrl := row_len (W := W) l (i + 1)
      have HS := Lib.hid (HL.out y hmem)
      by_cases h0 : i = 0
      · subst h0
        simp only [Nat.zero_mul, Nat.add_zero] at c0 c1 c2 c3
        rw [if_pos rfl] at hrt
        rw [hrt] at hrl
        have HC := Lib.hid (HAA.out y HS.out.1 HS.out.2 M1 w1 _ _ (HR.out.later hb1) (TmV.later hb1 HTY.out) (by have := HZ.out; rw [show rowW W (l.take 0) = [] from rfl, List.append_nil]; omega))
        have HRT := Lib.hid hrt
        have hd0 : decide ((0 : Int) > 0) = false := by decide
        obtain ⟨b0, b1, b2, b3, bf⟩ := hx1.four
        have HB1 := Lib.hid hb1
        clear hy hmem htm htu hty hst hz1 hx1 hrt hrl hq hb1
        go_wp2_with fail
        (try rw [hw1])
        clear hw1
        go_wp2_with (go_at_call 57; go_fit (HC.out); rintro e w2 ⟨rfl, M2, g1, g2⟩; have G1 := Lib.hid g1; have G2 := Lib.hid (HTU.out.trans ((Turn.below HB1.out).trans g2)); clear g1 g2)
        go_roundw
        case rel => exact ⟨1, M2, by omega, by go_num, Lib.hid (by rw [HRT.out]; simpa [rowW] using G1.out), G2⟩
        case measure => simp [intOf]; omega
      · rw [if_neg h0] at hrt
        rw [hrt, List.length_append, List.length_cons] at hrl
        have HPT := Lib.hid (put_at (HR.out.later hb1) ⟨#[44]⟩ (by have := HZ.out; rw [comma_bl, List.length_append, List.length_singleton]; omega))
        have HRT := Lib.hid hrt
        have hd0 : decide ((i : Int) > 0) = true := decide_eq_true (by omega)
        have HX1 := Lib.hid hx1
        have HB1 := Lib.hid hb1
        have HTY1 := Lib.hid (TmV.later hb1 HTY.out)
        have HMB := Lib.hid (HR.out.new (Nat.le_refl _))
        have HRL := Lib.hid hrl
        clear hy hmem htm htu hty hst hz1 hx1 hrt hrl hq hb1
        go_wp2_with fail
        (try rw [hw1])
        clear hw1
        (go_wp2_with fail; go_fit (HPT.out); rintro e w2 ⟨rfl, M2, g1, g2⟩)
        have HC := Lib.hid (HAA.out y HS.out.1 HS.out.2 M2 w2 _ _ g1 (TmV.turn HTY1.out g2) (by have := HZ.out; have := HRL.out; rw [comma_bl, List.length_append, List.length_append, List.length_singleton]; omega))
        obtain ⟨b0, b1, b2, b3, bf⟩ := (HX1.out.turn g2 HMB.out).four
        have G2 := Lib.hid (HTU.out.trans ((Turn.below HB1.out).trans g2))
        clear g1 g2
        go_wp2_with (go_at_call 57; go_fit (HC.out); rintro e w3 ⟨rfl, M3, g3, g4⟩; have G3 := Lib.hid g3; have G4 := Lib.hid (G2.out.trans g4); clear g3 g4)
        go_roundw
        case rel => exact ⟨i + 1, M3, by omega, by go_num, Lib.hid (by rw [HRT.out]; have := G3.out; rw [comma_bl] at this; simpa using this), G4⟩
        case measure => simp [intOf]; omega
    · obtain rfl : m = i := by omega
      have hdl : decide ((m : Int) < (m : Int)) = false := decide_eq_false (by omega)
      have HE := Lib.hid (show l.take m = l from List.take_of_length_le (by rw [HM.out]; omega))
      go_wp2
      go_end0
      exact ⟨rfl, M1, by rw [← HE.out]; exact HR.out, HTU.out⟩
end Go.Proofs.YtobdhcaoeholhaaGreatDoor
