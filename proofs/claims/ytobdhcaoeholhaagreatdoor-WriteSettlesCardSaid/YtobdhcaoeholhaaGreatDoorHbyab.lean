import Derived.Test.YtobdhcaoeholhaaGreatDoorHbyaa
import Derived.Test.YtobdhcaoeholhaaGreatDoorRows
import Derived.Laws.ResultCell
set_option linter.unusedVariables false
set_option linter.unusedSimpArgs false
/- Reading, as chapter 8 says it, over a list of tokens: pure. Nothing here is walked. -/
namespace Go.Proofs.YtobdhcaoeholhaaGreatDoor
set_option linter.unusedVariables false

abbrev TokP := TokB × Nat
abbrev NmP := List UInt8 × Nat
def zTok : TokP := (⟨0, [], 0, 0, false⟩, 0)
/-- What is not read yet; how many variables there are; the names of those that have one. -/
structure RS where
  rest : List TokP
  next : Nat
  names : List NmP
abbrev Out (α : Type) := Option (α × RS)
abbrev TL := Tm × Int
abbrev TFun := Int → RS → Out TL
def ba (l : List UInt8) : ByteArray := ⟨l.toArray⟩
def vT (n : Int) : Tm := .mk 0 n ⟨#[]⟩ []
def iT (n : Int) : Tm := .mk 1 n ⟨#[]⟩ []
def aT (s : List UInt8) : Tm := .mk 2 0 (ba s) []
def headR (s : RS) : TokP := s.rest.head?.getD zTok
def dropR (s : RS) : RS := { s with rest := s.rest.tail }
def isMark (t : List UInt8) (q : TokP) : Bool := q.1.kind == 5 && q.1.text == t
def takesR (t : List UInt8) (s : RS) : Option RS := if isMark t (headR s) then some (dropR s) else none
/-- May it be an operator between, by its kind? -/
def opKind (q : TokP) : Bool := q.1.kind == 1 || (q.1.kind == 2 || isMark [44] q)
section
variable (pre bet : List UInt8 → O × Bool)
def betweenR (q : TokP) : O × Bool := if opKind q then bet q.1.text else (⟨⟨#[]⟩, ⟨#[]⟩, 0⟩, false)
def beginsR (q : TokP) : Bool :=
  if q.1.kind = 1 ∨ q.1.kind = 2 then q.1.opens || ((pre q.1.text).2 || !(betweenR bet q).2)
  else if q.1.kind = 3 ∨ q.1.kind = 4 then true
  else if q.1.kind = 5 then q.1.text == [40] || (q.1.text == [91] || q.1.text == [123])
  else false
def isMinusR (q x : TokP) : Bool := q.1.kind == 1 && (q.1.text == [45] && (x.1.kind == 4 && (x.2 : Int) == (q.2 : Int) + 1))
def varR (name : List UInt8) (s : RS) : Tm × RS :=
  match s.names.find? (fun p => p.1 == name) with
  | some p => (vT p.2, s)
  | none => (vT s.next, { s with names := if name = [95] then s.names else s.names ++ [(name, s.next)], next := s.next + 1 })
variable (T : TFun)
def itemsR : Nat → RS → Out (List Tm)
  | 0, _ => none
  | f + 1, s => match T 999 s with
    | none => none
    | some (p, s1) => match takesR [44] s1 with
      | none => some ([p.1], s1)
      | some s2 => match itemsR f s2 with
        | none => none
        | some (l, s3) => some (p.1 :: l, s3)
/-- As long as an operator between comes that may. -/
def loopR (most : Int) : Nat → TL → RS → Out TL
  | 0, _, _ => none
  | f + 1, p, s =>
    if (betweenR bet (headR s)).2 = false ∨ (betweenR bet (headR s)).1.l > most ∨ p.2 > (sidesB (bl (betweenR bet (headR s)).1.k) (betweenR bet (headR s)).1.l).1 then some (p, s)
    else match T (sidesB (bl (betweenR bet (headR s)).1.k) (betweenR bet (headR s)).1.l).2 (dropR s) with
      | none => none
      | some (q, s1) => loopR most f (.mk 2 0 (betweenR bet (headR s)).1.n [p.1, q.1], (betweenR bet (headR s)).1.l) s1
/-- A term of 1200 and the mark that closes it. -/
def closedR (t : List UInt8) (s : RS) : Out Tm := match T 1200 s with
  | none => none
  | some (p, s1) => match takesR t s1 with
    | none => none
    | some s2 => some (p.1, s2)
/-- What may stand behind the items. -/
def tailR (s : RS) : Out Tm := match takesR [124] s with
  | none => some (aT [91, 93], s)
  | some s1 => match T 999 s1 with
    | none => none
    | some (p, s2) => some (p.1, s2)
def rowR (s : RS) : Out Tm := match itemsR T (s.rest.length + 1) s with
  | none => none
  | some (l, s1) => match tailR T s1 with
    | none => none
    | some (t, s2) => match takesR [93] s2 with
      | none => none
      | some s3 => some (listT l t, s3)
def bracketR (b : List UInt8) (s : RS) : Out Tm :=
  if b = [40] then closedR T [41] s
  else if b = [123] then (match closedR T [125] s with
    | none => none
    | some (t, s1) => some (.mk 2 0 (ba [123, 125]) [t], s1))
  else if b = [91] then rowR T s
  else none
def argsR (name : List UInt8) (s : RS) : Out TL := match itemsR T (s.rest.length + 1) s with
  | none => none
  | some (l, s1) => match takesR [41] s1 with
    | none => none
    | some s2 => some ((.mk 2 0 (ba name) l, 0), s2)
def aheadR (name : List UInt8) (o : O) (s : RS) : Out TL := match T (sidesB (bl o.k) o.l).2 s with
  | none => none
  | some (p, s1) => some ((.mk 2 0 (ba name) [p.1], o.l), s1)
def isAheadR (q : TokP) (most : Int) (s : RS) : Bool := (pre q.1.text).2 && (decide ((pre q.1.text).1.l ≤ most) && beginsR pre bet (headR s))
def namedR (q : TokP) (most : Int) (s : RS) : Out TL :=
  if isMinusR q (headR s) then some ((iT (-((headR s).1.n : Int)), 0), dropR s)
  else if q.1.opens then argsR T q.1.text (dropR s)
  else if q.1.kind = 2 then some ((aT q.1.text, 0), s)
  else if isAheadR pre bet q most s then aheadR T q.1.text (pre q.1.text).1 s
  else if max (pre q.1.text).1.l (bet q.1.text).1.l ≤ most then some ((aT q.1.text, max (pre q.1.text).1.l (bet q.1.text).1.l), s)
  else none
def zeroR (o : Out Tm) : Out TL := match o with
  | none => none
  | some (t, s) => some ((t, 0), s)
def primR (most : Int) (s : RS) : Out TL :=
  if (headR s).1.kind = 1 ∨ (headR s).1.kind = 2 then namedR pre bet T (headR s) most (dropR s)
  else if (headR s).1.kind = 3 then some (((varR (headR s).1.text (dropR s)).1, 0), (varR (headR s).1.text (dropR s)).2)
  else if (headR s).1.kind = 4 then some ((iT ((headR s).1.n : Int), 0), dropR s)
  else if (headR s).1.kind = 5 then zeroR (bracketR T (headR s).1.text (dropR s))
  else none
def termB (most : Int) (s : RS) : Out TL := match primR pre bet T most s with
  | none => none
  | some (p, s1) => loopR bet T most (s1.rest.length + 1) p s1
end
def termF (pre bet : List UInt8 → O × Bool) : Nat → TFun
  | 0, _, _ => none
  | f + 1, most, s => termB pre bet (termF pre bet f) most s
/-- A term of at most that level, its own level, and what is not read. -/
def TERM (pre bet : List UInt8 → O × Bool) (most : Int) (s : RS) : Out TL := termF pre bet (s.rest.length + 1) most s

/-- What was read is gone. -/
def Shr (T : TFun) : Prop := ∀ most s p s', T most s = some (p, s') → s'.rest.length < s.rest.length
/-- They say the same of what has less than n tokens. -/
def Agree (n : Nat) (T T' : TFun) : Prop := ∀ most s, s.rest.length < n → T most s = T' most s
theorem dropS_le (s : RS) : (dropR s).rest.length ≤ s.rest.length := by unfold dropR; simp
theorem dropS_lt {s : RS} (h : s.rest ≠ []) : (dropR s).rest.length < s.rest.length := by
  unfold dropR
  cases hr : s.rest with
  | nil => exact absurd hr h
  | cons a r => simp
theorem head_ne {s : RS} (h : (headR s).1.kind ≠ 0) : s.rest ≠ [] := by
  intro e
  apply h
  unfold headR
  rw [e]
  rfl
theorem takes_lt {t : List UInt8} {s s' : RS} (h : takesR t s = some s') : s' = dropR s ∧ s'.rest.length < s.rest.length := by
  unfold takesR at h
  split at h
  · rename_i hm
    injection h with h
    subst h
    refine ⟨rfl, dropS_lt (head_ne ?_)⟩
    unfold isMark at hm
    simp only [Bool.and_eq_true, beq_iff_eq] at hm
    omega
  · cases h
theorem between_ne {bet : List UInt8 → O × Bool} {s : RS} (h : (betweenR bet (headR s)).2 = true) : s.rest ≠ [] := by
  apply head_ne
  intro e
  unfold betweenR opKind isMark at h
  rw [e] at h
  simp at h
theorem var_rest (name : List UInt8) (s : RS) : (varR name s).2.rest = s.rest := by
  unfold varR
  split <;> rfl
theorem items_shr {T : TFun} (hT : Shr T) : ∀ f s l s', itemsR T f s = some (l, s') → s'.rest.length < s.rest.length
  | 0, s, l, s', h => by cases h
  | f + 1, s, l, s', h => by
    rw [itemsR] at h
    cases h1 : T 999 s with
    | none => rw [h1] at h; cases h
    | some q =>
      obtain ⟨p, s1⟩ := q
      have := hT _ _ _ _ h1
      rw [h1] at h
      simp only at h
      cases h2 : takesR [44] s1 with
      | none => rw [h2] at h; cases h; exact this
      | some s2 =>
        have h3 := (takes_lt h2).2
        rw [h2] at h
        simp only at h
        cases h4 : itemsR T f s2 with
        | none => rw [h4] at h; cases h
        | some r =>
          obtain ⟨l', s3⟩ := r
          rw [h4] at h
          cases h
          have := items_shr hT f s2 l' s' h4
          omega
theorem loop_shr {bet : List UInt8 → O × Bool} {T : TFun} (hT : Shr T) (most : Int) : ∀ f p s q s', loopR bet T most f p s = some (q, s') → s'.rest.length ≤ s.rest.length
  | 0, p, s, q, s', h => by cases h
  | f + 1, p, s, q, s', h => by
    rw [loopR] at h
    split at h
    · cases h; exact Nat.le_refl _
    · split at h
      · cases h
      · rename_i r s1 h1
        have := hT _ _ _ _ h1
        have := loop_shr hT most f _ s1 q s' h
        have := dropS_le s
        omega
theorem closed_shr {T : TFun} (hT : Shr T) {t : List UInt8} {s s' : RS} {x : Tm} (h : closedR T t s = some (x, s')) : s'.rest.length < s.rest.length := by
  unfold closedR at h
  split at h
  · cases h
  · rename_i p s1 h1
    have := hT _ _ _ _ h1
    split at h
    · cases h
    · rename_i s2 h2
      cases h
      have := (takes_lt h2).2
      omega
theorem tail_shr {T : TFun} (hT : Shr T) {s s' : RS} {x : Tm} (h : tailR T s = some (x, s')) : s'.rest.length ≤ s.rest.length := by
  unfold tailR at h
  split at h
  · cases h; exact Nat.le_refl _
  · rename_i s1 h1
    have := (takes_lt h1).2
    split at h
    · cases h
    · rename_i p s2 h2
      cases h
      have := hT _ _ _ _ h2
      omega
theorem row_shr {T : TFun} (hT : Shr T) {s s' : RS} {x : Tm} (h : rowR T s = some (x, s')) : s'.rest.length < s.rest.length := by
  unfold rowR at h
  split at h
  · cases h
  · rename_i l s1 h1
    have := items_shr hT _ _ _ _ h1
    split at h
    · cases h
    · rename_i t s2 h2
      have := tail_shr hT h2
      split at h
      · cases h
      · rename_i s3 h3
        cases h
        have := (takes_lt h3).2
        omega
theorem bracket_shr {T : TFun} (hT : Shr T) {b : List UInt8} {s s' : RS} {x : Tm} (h : bracketR T b s = some (x, s')) : s'.rest.length < s.rest.length := by
  unfold bracketR at h
  split at h
  · exact closed_shr hT h
  · split at h
    · split at h
      · cases h
      · rename_i t s1 h1
        cases h
        exact closed_shr hT h1
    · split at h
      · exact row_shr hT h
      · cases h
theorem args_shr {T : TFun} (hT : Shr T) {n : List UInt8} {s s' : RS} {x : TL} (h : argsR T n s = some (x, s')) : s'.rest.length < s.rest.length := by
  unfold argsR at h
  split at h
  · cases h
  · rename_i l s1 h1
    have := items_shr hT _ _ _ _ h1
    split at h
    · cases h
    · rename_i s2 h2
      cases h
      have := (takes_lt h2).2
      omega
theorem ahead_shr {T : TFun} (hT : Shr T) {n : List UInt8} {o : O} {s s' : RS} {x : TL} (h : aheadR T n o s = some (x, s')) : s'.rest.length < s.rest.length := by
  unfold aheadR at h
  split at h
  · cases h
  · rename_i p s1 h1
    cases h
    exact hT _ _ _ _ h1
theorem named_shr {pre bet : List UInt8 → O × Bool} {T : TFun} (hT : Shr T) {q : TokP} {most : Int} {s s' : RS} {x : TL} (h : namedR pre bet T q most s = some (x, s')) : s'.rest.length ≤ s.rest.length := by
  have hd := dropS_le s
  unfold namedR at h
  split at h
  · cases h; exact hd
  · split at h
    · have := args_shr hT h
      omega
    · split at h
      · cases h; exact Nat.le_refl _
      · split at h
        · have := ahead_shr hT h
          omega
        · split at h
          · cases h; exact Nat.le_refl _
          · cases h
theorem zero_some {o : Out Tm} {x : TL} {s : RS} (h : zeroR o = some (x, s)) : o = some (x.1, s) ∧ x.2 = 0 := by
  cases o with
  | none => cases h
  | some p =>
    obtain ⟨t, s1⟩ := p
    cases h
    exact ⟨rfl, rfl⟩
theorem prim_shr {pre bet : List UInt8 → O × Bool} {T : TFun} (hT : Shr T) {most : Int} {s s' : RS} {x : TL} (h : primR pre bet T most s = some (x, s')) : s'.rest.length < s.rest.length := by
  unfold primR at h
  by_cases h0 : (headR s).1.kind = 0
  · simp [h0] at h
  have hd := dropS_lt (head_ne h0)
  split at h
  · have := named_shr hT h
    omega
  · split at h
    · cases h
      rw [var_rest]
      exact hd
    · split at h
      · cases h
        exact hd
      · split at h
        · have := bracket_shr hT (zero_some h).1
          omega
        · cases h
theorem term_shr {pre bet : List UInt8 → O × Bool} : ∀ f, Shr (termF pre bet f)
  | 0, most, s, p, s', h => by cases h
  | f + 1, most, s, p, s', h => by
    rw [termF] at h
    unfold termB at h
    split at h
    · cases h
    · rename_i q s1 h1
      have := prim_shr (term_shr f) h1
      have := loop_shr (term_shr f) most _ _ _ _ _ h
      omega
theorem TERM_shr {pre bet : List UInt8 → O × Bool} : Shr (TERM pre bet) := fun most s p s' h => term_shr _ most s p s' h

/-! Enough is enough. -/
theorem items_agree {T T' : TFun} (hT : Shr T) : ∀ f f' s, s.rest.length < f → s.rest.length < f' → Agree (s.rest.length + 1) T T' → itemsR T f s = itemsR T' f' s
  | 0, f', s, h, _, _ => by omega
  | f + 1, 0, s, _, h, _ => by omega
  | f + 1, f' + 1, s, h, h', hA => by
    rw [itemsR, itemsR, ← hA 999 s (by omega)]
    cases h1 : T 999 s with
    | none => rfl
    | some q =>
      obtain ⟨p, s1⟩ := q
      have := hT _ _ _ _ h1
      simp only
      cases h2 : takesR [44] s1 with
      | none => rfl
      | some s2 =>
        have h3 := (takes_lt h2).2
        simp only
        rw [items_agree hT f f' s2 (by omega) (by omega) (fun m s hs => hA m s (by omega))]
theorem loop_agree {bet : List UInt8 → O × Bool} {T T' : TFun} (hT : Shr T) (most : Int) : ∀ f f' p s, s.rest.length < f → s.rest.length < f' → Agree s.rest.length T T' → loopR bet T most f p s = loopR bet T' most f' p s
  | 0, f', p, s, h, _, _ => by omega
  | f + 1, 0, p, s, _, h, _ => by omega
  | f + 1, f' + 1, p, s, h, h', hA => by
    rw [loopR, loopR]
    split
    · rfl
    · rename_i hc
      have hb : (betweenR bet (headR s)).2 = true := by
        cases hb : (betweenR bet (headR s)).2 with
        | false => exact absurd (Or.inl hb) hc
        | true => rfl
      have hd := dropS_lt (between_ne hb)
      rw [← hA _ (dropR s) hd]
      cases h1 : T (sidesB (bl (betweenR bet (headR s)).1.k) (betweenR bet (headR s)).1.l).2 (dropR s) with
      | none => rfl
      | some q =>
        obtain ⟨q, s1⟩ := q
        have := hT _ _ _ _ h1
        simp only
        exact loop_agree hT most f f' _ s1 (by omega) (by omega) (fun m s hs => hA m s (by omega))
theorem closed_agree {T T' : TFun} {t : List UInt8} {s : RS} (hA : Agree (s.rest.length + 1) T T') : closedR T t s = closedR T' t s := by
  unfold closedR
  rw [hA 1200 s (by omega)]
theorem tail_agree {T T' : TFun} {s : RS} (hA : Agree s.rest.length T T') : tailR T s = tailR T' s := by
  unfold tailR
  cases h1 : takesR [124] s with
  | none => rfl
  | some s1 =>
    have := (takes_lt h1).2
    simp only
    rw [hA 999 s1 (by omega)]
theorem row_agree {T T' : TFun} (hT : Shr T) {s : RS} (hA : Agree (s.rest.length + 1) T T') : rowR T s = rowR T' s := by
  unfold rowR
  rw [← items_agree hT (s.rest.length + 1) (s.rest.length + 1) s (by omega) (by omega) hA]
  cases h1 : itemsR T (s.rest.length + 1) s with
  | none => rfl
  | some q =>
    obtain ⟨l, s1⟩ := q
    have := items_shr hT _ _ _ _ h1
    simp only
    rw [tail_agree (T' := T') (fun m s hs => hA m s (by omega))]
theorem bracket_agree {T T' : TFun} (hT : Shr T) {b : List UInt8} {s : RS} (hA : Agree (s.rest.length + 1) T T') : bracketR T b s = bracketR T' b s := by
  unfold bracketR
  rw [closed_agree hA, closed_agree hA, row_agree hT hA]
theorem args_agree {T T' : TFun} (hT : Shr T) {n : List UInt8} {s : RS} (hA : Agree (s.rest.length + 1) T T') : argsR T n s = argsR T' n s := by
  unfold argsR
  rw [items_agree hT (s.rest.length + 1) (s.rest.length + 1) s (by omega) (by omega) hA]
theorem named_agree {pre bet : List UInt8 → O × Bool} {T T' : TFun} (hT : Shr T) {q : TokP} {most : Int} {s : RS} (hA : Agree (s.rest.length + 1) T T') : namedR pre bet T q most s = namedR pre bet T' q most s := by
  have hd := dropS_le s
  unfold namedR aheadR
  rw [args_agree hT (fun m s hs => hA m s (by omega)), hA _ s (by omega)]
theorem prim_agree {pre bet : List UInt8 → O × Bool} {T T' : TFun} (hT : Shr T) {most : Int} {s : RS} (hA : Agree s.rest.length T T') : primR pre bet T most s = primR pre bet T' most s := by
  unfold primR
  by_cases h0 : (headR s).1.kind = 0
  · simp [h0]
  have hd := dropS_lt (head_ne h0)
  rw [named_agree hT (fun m s hs => hA m s (by omega)), bracket_agree hT (fun m s hs => hA m s (by omega))]
theorem termB_agree {pre bet : List UInt8 → O × Bool} {T T' : TFun} (hT : Shr T) {most : Int} {s : RS} (hA : Agree s.rest.length T T') : termB pre bet T most s = termB pre bet T' most s := by
  unfold termB
  rw [← prim_agree hT hA]
  cases h1 : primR pre bet T most s with
  | none => rfl
  | some q =>
    obtain ⟨p, s1⟩ := q
    have := prim_shr hT h1
    simp only
    exact loop_agree hT most _ _ p s1 (by omega) (by omega) (fun m s hs => hA m s (by omega))
theorem term_fuel {pre bet : List UInt8 → O × Bool} : ∀ n f f', n ≤ f → n ≤ f' → Agree n (termF pre bet f) (termF pre bet f')
  | 0, f, f', _, _, most, s, h => by omega
  | n + 1, 0, f', h, _, most, s, _ => by omega
  | n + 1, f + 1, 0, _, h, most, s, _ => by omega
  | n + 1, f + 1, f' + 1, h, h', most, s, hs => by
    rw [termF, termF]
    exact termB_agree (term_shr f) (fun m s' hs' => term_fuel n f f' (by omega) (by omega) m s' (by omega))
theorem TERM_agree {pre bet : List UInt8 → O × Bool} (f : Nat) : Agree f (termF pre bet f) (TERM pre bet) := fun most s hs => term_fuel (s.rest.length + 1) f _ (by omega) (by omega) most s (by omega)
theorem TERM_eq {pre bet : List UInt8 → O × Bool} (most : Int) (s : RS) : TERM pre bet most s = termB pre bet (TERM pre bet) most s := by
  show termF pre bet (s.rest.length + 1) most s = _
  rw [termF]
  exact termB_agree (term_shr _) (TERM_agree _)
/-! The loops, by themselves. -/
def LOOP (pre bet : List UInt8 → O × Bool) (most : Int) (p : TL) (s : RS) : Out TL := loopR bet (TERM pre bet) most (s.rest.length + 1) p s
def ITEMS (pre bet : List UInt8 → O × Bool) (s : RS) : Out (List Tm) := itemsR (TERM pre bet) (s.rest.length + 1) s
theorem TERM_none {pre bet : List UInt8 → O × Bool} {most : Int} {s : RS} (h : primR pre bet (TERM pre bet) most s = none) : TERM pre bet most s = none := by
  rw [TERM_eq]; unfold termB; rw [h]
theorem TERM_some {pre bet : List UInt8 → O × Bool} {most : Int} {s s1 : RS} {p : TL} (h : primR pre bet (TERM pre bet) most s = some (p, s1)) : TERM pre bet most s = LOOP pre bet most p s1 := by
  rw [TERM_eq]; unfold termB; rw [h]; rfl
def stopR (bet : List UInt8 → O × Bool) (most : Int) (p : TL) (s : RS) : Prop := (betweenR bet (headR s)).2 = false ∨ (betweenR bet (headR s)).1.l > most ∨ p.2 > (sidesB (bl (betweenR bet (headR s)).1.k) (betweenR bet (headR s)).1.l).1
theorem LOOP_stop {pre bet : List UInt8 → O × Bool} {most : Int} {p : TL} {s : RS} (h : stopR bet most p s) : LOOP pre bet most p s = some (p, s) := by
  unfold LOOP; rw [loopR]; exact if_pos h
theorem LOOP_none {pre bet : List UInt8 → O × Bool} {most : Int} {p : TL} {s : RS} (h : ¬ stopR bet most p s) (hT : TERM pre bet (sidesB (bl (betweenR bet (headR s)).1.k) (betweenR bet (headR s)).1.l).2 (dropR s) = none) : LOOP pre bet most p s = none := by
  unfold stopR at h
  unfold LOOP; rw [loopR]; rw [if_neg h, hT]
theorem LOOP_some {pre bet : List UInt8 → O × Bool} {most : Int} {p q : TL} {s s1 : RS} (h : ¬ stopR bet most p s) (hT : TERM pre bet (sidesB (bl (betweenR bet (headR s)).1.k) (betweenR bet (headR s)).1.l).2 (dropR s) = some (q, s1)) :
    LOOP pre bet most p s = LOOP pre bet most (.mk 2 0 (betweenR bet (headR s)).1.n [p.1, q.1], (betweenR bet (headR s)).1.l) s1 ∧ s1.rest.length < s.rest.length := by
  have h1 := TERM_shr _ _ _ _ hT
  have h2 := dropS_le s
  refine ⟨?_, by omega⟩
  unfold stopR at h
  unfold LOOP
  rw [loopR]
  rw [if_neg h, hT]
  exact loop_agree TERM_shr most _ _ _ s1 (by omega) (by omega) (fun _ _ _ => rfl)
theorem ITEMS_none {pre bet : List UInt8 → O × Bool} {s : RS} (h : TERM pre bet 999 s = none) : ITEMS pre bet s = none := by
  unfold ITEMS; rw [itemsR, h]
theorem ITEMS_last {pre bet : List UInt8 → O × Bool} {s s1 : RS} {p : TL} (h : TERM pre bet 999 s = some (p, s1)) (h2 : takesR [44] s1 = none) : ITEMS pre bet s = some ([p.1], s1) := by
  unfold ITEMS; rw [itemsR, h]; simp only [h2]
theorem ITEMS_more {pre bet : List UInt8 → O × Bool} {s s1 s2 : RS} {p : TL} (h : TERM pre bet 999 s = some (p, s1)) (h2 : takesR [44] s1 = some s2) : ITEMS pre bet s = (match ITEMS pre bet s2 with | none => none | some (l, s3) => some (p.1 :: l, s3)) ∧ s2.rest.length < s.rest.length := by
  have h3 := TERM_shr _ _ _ _ h
  have h4 := (takes_lt h2).2
  refine ⟨?_, by omega⟩
  unfold ITEMS
  rw [itemsR, h]
  simp only [h2]
  rw [items_agree TERM_shr s.rest.length (s2.rest.length + 1) s2 (by omega) (by omega) (fun _ _ _ => rfl)]
theorem rowR_eq {pre bet : List UInt8 → O × Bool} (s : RS) : rowR (TERM pre bet) s = (match ITEMS pre bet s with
  | none => none
  | some (l, s1) => match tailR (TERM pre bet) s1 with
    | none => none
    | some (t, s2) => match takesR [93] s2 with
      | none => none
      | some s3 => some (listT l t, s3)) := rfl
theorem argsR_eq {pre bet : List UInt8 → O × Bool} (name : List UInt8) (s : RS) : argsR (TERM pre bet) name s = (match ITEMS pre bet s with
  | none => none
  | some (l, s1) => match takesR [41] s1 with
    | none => none
    | some s2 => some ((.mk 2 0 (ba name) l, 0), s2)) := rfl

/-! Whole terms. -/
def anewR (l : List TokP) : RS := ⟨l, 0, []⟩
/-- A term and its end. -/
def wholeR (pre bet : List UInt8 → O × Bool) (l : List TokP) : Out Tm := match TERM pre bet 1200 (anewR l) with
  | none => none
  | some (p, s) => if (headR s).1.kind = 6 then some (p.1, dropR s) else none
inductive ReadR (α : Type) where
  | ok (x : α)
  | bad (e : Int)
def oneR (pre bet : List UInt8 → O × Bool) (l : List TokP) : ReadR (Tm × List NmP) := match wholeR pre bet l with
  | none => .bad 2
  | some (t, s) => if s.rest = [] then (if goodT t then .ok (t, s.names) else .bad 3) else .bad 2
end Go.Proofs.YtobdhcaoeholhaaGreatDoor
/- Terms in memory. Nothing here speaks of one program. -/
namespace Go.Proofs.YtobdhcaoeholhaaGreatDoor
open Go.RowKit

abbrev BIG : Nat := 140737488351232
def I64 (n : Int) : Prop := -9223372036854775808 ≤ n ∧ n ≤ 9223372036854775807
mutual
/-- The value reads as this term. -/
def TmV (w : World) : Tm → Value → Prop
  | .mk k n s ts, v => ∃ (a : Option Addr) (c : Nat), v = .agg #[.int .i64 k, .int .i64 n, .string s, .slice a ts.length c] ∧ ts.length ≤ c ∧ c ≤ maxLen ∧ ts.length * 56 ≤ BIG ∧ s.size ≤ BIG ∧ I64 k ∧ I64 n ∧
      (ts = [] ∨ ∃ b off, a = some ⟨b, off, none⟩ ∧ b < w.heap.size ∧ TmRow w ts b off)
/-- These terms lie there, one behind the other. -/
def TmRow (w : World) : List Tm → Nat → Nat → Prop
  | [], _, _ => True
  | x :: r, b, off => (∃ c0 c1 c2 c3, w.cell? ⟨b, off, none⟩ = some c0 ∧ w.cell? ⟨b, off + 1, none⟩ = some c1 ∧ w.cell? ⟨b, off + 2, none⟩ = some c2 ∧ w.cell? ⟨b, off + 3, none⟩ = some c3 ∧ TmV w x (.agg #[c0, c1, c2, c3])) ∧ TmRow w r b (off + 4)
end
/-- The value reads as these terms. -/
def Tms (w : World) (v : Value) (l : List Tm) : Prop :=
  ∃ (a : Option Addr) (c : Nat), v = .slice a l.length c ∧ l.length ≤ c ∧ c ≤ maxLen ∧ l.length * 56 ≤ BIG ∧ (l = [] ∨ ∃ b off, a = some ⟨b, off, none⟩ ∧ b < w.heap.size ∧ TmRow w l b off)
theorem tmV_iff {w : World} {k n : Int} {s : ByteArray} {ts : List Tm} {v : Value} : TmV w (.mk k n s ts) v ↔ ∃ u, v = .agg #[.int .i64 k, .int .i64 n, .string s, u] ∧ s.size ≤ BIG ∧ I64 k ∧ I64 n ∧ Tms w u ts := by
  rw [TmV]
  constructor
  · rintro ⟨a, c, h1, h2, h3, h4, h5, h6, h7, h8⟩
    exact ⟨_, h1, h5, h6, h7, a, c, rfl, h2, h3, h4, h8⟩
  · rintro ⟨u, h1, h5, h6, h7, a, c, rfl, h2, h3, h4, h8⟩
    exact ⟨a, c, h1, h2, h3, h4, h5, h6, h7, h8⟩
theorem TmRow.get {w : World} : ∀ {l : List Tm} {b off : Nat}, TmRow w l b off → ∀ (i : Nat) (x : Tm), l[i]? = some x →
    ∃ c0 c1 c2 c3, w.cell? ⟨b, off + i * 4, none⟩ = some c0 ∧ w.cell? ⟨b, off + i * 4 + 1, none⟩ = some c1 ∧ w.cell? ⟨b, off + i * 4 + 2, none⟩ = some c2 ∧ w.cell? ⟨b, off + i * 4 + 3, none⟩ = some c3 ∧ TmV w x (.agg #[c0, c1, c2, c3])
  | [], b, off, _, i, x, hx => by simp at hx
  | y :: r, b, off, h, 0, x, hx => by
    simp at hx
    subst hx
    rw [TmRow] at h
    rw [Nat.zero_mul, Nat.add_zero]
    exact h.1
  | y :: r, b, off, h, i + 1, x, hx => by
    rw [TmRow] at h
    have := TmRow.get h.2 i x (by simpa using hx)
    rw [show off + (i + 1) * 4 = off + 4 + i * 4 by omega]
    exact this
theorem TmRow.mk {w : World} : ∀ {l : List Tm} {b off : Nat}, (∀ (i : Nat) (x : Tm), l[i]? = some x →
    ∃ c0 c1 c2 c3, w.cell? ⟨b, off + i * 4, none⟩ = some c0 ∧ w.cell? ⟨b, off + i * 4 + 1, none⟩ = some c1 ∧ w.cell? ⟨b, off + i * 4 + 2, none⟩ = some c2 ∧ w.cell? ⟨b, off + i * 4 + 3, none⟩ = some c3 ∧ TmV w x (.agg #[c0, c1, c2, c3])) → TmRow w l b off
  | [], b, off, _ => by rw [TmRow]; trivial
  | y :: r, b, off, h => by
    rw [TmRow]
    refine ⟨?_, TmRow.mk fun i x hx => ?_⟩
    · have := h 0 y rfl
      rw [Nat.zero_mul, Nat.add_zero] at this
      exact this
    · have := h (i + 1) x (by simpa using hx)
      rw [show off + (i + 1) * 4 = off + 4 + i * 4 by omega] at this
      exact this
mutual
theorem TmV.ext {w w' : World} (hb : Below w.heap.size w w') : ∀ (x : Tm) (v : Value), TmV w x v → TmV w' x v
  | .mk k n s ts, v, h => by
    rw [TmV] at h ⊢
    obtain ⟨a, c, h1, h2, h3, h4, h5, h6, h7, h8⟩ := h
    refine ⟨a, c, h1, h2, h3, h4, h5, h6, h7, ?_⟩
    rcases h8 with h8 | ⟨b, off, e1, e2, e3⟩
    · exact Or.inl h8
    · exact Or.inr ⟨b, off, e1, Nat.lt_of_lt_of_le e2 hb.size, TmRow.ext hb ts b off e3⟩
theorem TmRow.ext {w w' : World} (hb : Below w.heap.size w w') : ∀ (l : List Tm) (b off : Nat), TmRow w l b off → TmRow w' l b off
  | [], b, off, _ => by rw [TmRow]; trivial
  | x :: r, b, off, h => by
    rw [TmRow] at h ⊢
    obtain ⟨⟨c0, c1, c2, c3, h0, h1, h2, h3, h4⟩, h5⟩ := h
    exact ⟨⟨c0, c1, c2, c3, cell_later hb h0, cell_later hb h1, cell_later hb h2, cell_later hb h3, TmV.ext hb x _ h4⟩, TmRow.ext hb r b (off + 4) h5⟩
end
theorem Tms.ext {w w' : World} {v : Value} {l : List Tm} (h : Tms w v l) (hb : Below w.heap.size w w') : Tms w' v l := by
  obtain ⟨a, c, h1, h2, h3, h4, h5⟩ := h
  refine ⟨a, c, h1, h2, h3, h4, ?_⟩
  rcases h5 with h5 | ⟨b, off, e1, e2, e3⟩
  · exact Or.inl h5
  · exact Or.inr ⟨b, off, e1, Nat.lt_of_lt_of_le e2 hb.size, TmRow.ext hb l b off e3⟩
theorem Tms.nil (w : World) : Tms w (.slice none 0 0) [] := ⟨none, 0, rfl, Nat.le_refl _, Nat.zero_le _, by simp, Or.inl rfl⟩
/-- The i-th of them. -/
theorem Tms.get {w : World} {a : Option Addr} {m c : Nat} {l : List Tm} (h : Tms w (.slice a m c) l) {i : Nat} {x : Tm} (hx : l[i]? = some x) :
    ∃ b off k n s u, a = some ⟨b, off, none⟩ ∧ b < w.heap.size ∧ x.k = k ∧ x.n = n ∧ x.s = s ∧ w.cell? ⟨b, off + i * 4, none⟩ = some (.int .i64 k) ∧ w.cell? ⟨b, off + i * 4 + 1, none⟩ = some (.int .i64 n) ∧ w.cell? ⟨b, off + i * 4 + 2, none⟩ = some (.string s) ∧ w.cell? ⟨b, off + i * 4 + 3, none⟩ = some u ∧ Tms w u x.args ∧
      TmV w x (.agg #[.int .i64 k, .int .i64 n, .string s, u]) := by
  obtain ⟨a', c', e, h1, h2, h3, h4⟩ := h
  cases e
  rcases h4 with rfl | ⟨b, off, rfl, hb, hr⟩
  · simp at hx
  · obtain ⟨c0, c1, c2, c3, d0, d1, d2, d3, d4⟩ := hr.get i x hx
    cases x with
    | mk k n s ts =>
      obtain ⟨u, hu, g1, g2, g3, g4⟩ := tmV_iff.1 d4
      simp only [Value.agg.injEq] at hu
      have hu' := congrArg Array.toList hu
      simp only [List.cons.injEq, and_true] at hu'
      obtain ⟨rfl, rfl, rfl, rfl⟩ := hu'
      exact ⟨b, off, k, n, s, _, rfl, hb, rfl, rfl, rfl, d0, d1, d2, d3, g4, d4⟩
theorem Tms.len {w : World} {v : Value} {l : List Tm} (h : Tms w v l) : ∃ a c, v = .slice a l.length c ∧ l.length ≤ c ∧ c ≤ maxLen ∧ l.length * 56 ≤ BIG := by
  obtain ⟨a, c, h1, h2, h3, h4, _⟩ := h
  exact ⟨a, c, h1, h2, h3, h4⟩
end Go.Proofs.YtobdhcaoeholhaaGreatDoor
/- Terms: small facts; a term as a parameter. -/
namespace Go.Proofs.YtobdhcaoeholhaaGreatDoor
open Go.RowKit
set_option linter.unusedVariables false

abbrev box4 (k n : Int) (s : ByteArray) (u : Value) (ty : TypeId) : Obj := .cells #[.int .i64 k, .int .i64 n, .string s, u] ty
theorem mem_size {k n : Int} {s : ByteArray} {ts : List Tm} {y : Tm} {N : Nat} (h : sizeN (.mk k n s ts) ≤ N + 1) (hy : y ∈ ts) : sizeN y ≤ N := by
  have := sizes_mem hy
  rw [sizeN] at h
  omega
/-- A term that came in is laid anew as a parameter. -/
theorem box_cells (w : World) (ty : TypeId) (c0 c1 c2 c3 : Value) {wr : World} (hb : Below (w.alloc (.cells #[c0, c1, c2, c3] ty)).heap.size (w.alloc (.cells #[c0, c1, c2, c3] ty)) wr) :
    wr.cell? ⟨w.heap.size, 0, none⟩ = some c0 ∧ wr.cell? ⟨w.heap.size, 1, none⟩ = some c1 ∧ wr.cell? ⟨w.heap.size, 2, none⟩ = some c2 ∧ wr.cell? ⟨w.heap.size, 3, none⟩ = some c3 :=
  ⟨cell_later hb (by simp), cell_later hb (by simp), cell_later hb (by simp), cell_later hb (by simp)⟩
end Go.Proofs.YtobdhcaoeholhaaGreatDoor
/- A row of the call's own, of elements of S cells each, reads as its elements; what is appended to it. Nothing here speaks of one program. -/
namespace Go.Proofs.YtobdhcaoeholhaaGreatDoor
open Go.RowKit

section
variable {α : Type} {S : Nat} {cells : α → List Value}
theorem flat_len (hc : ∀ x, (cells x).length = S) (L : List α) : (L.flatMap cells).length = L.length * S := by
  induction L with
  | nil => simp
  | cons a r ih => rw [List.flatMap_cons, List.length_append, ih, hc, List.length_cons, Nat.add_mul, Nat.one_mul, Nat.add_comm]
theorem flat_get (hc : ∀ x, (cells x).length = S) : ∀ (L : List α) (i : Nat) (x : α), L[i]? = some x → ∀ j, j < S → (L.flatMap cells)[i * S + j]? = (cells x)[j]?
  | [], i, x, h, _, _ => by simp at h
  | a :: r, 0, x, h, j, hj => by
    simp at h
    subst h
    rw [List.flatMap_cons, Nat.zero_mul, Nat.zero_add, List.getElem?_append_left (by rw [hc]; exact hj)]
  | a :: r, i + 1, x, h, j, hj => by
    have e : (i + 1) * S + j = S + (i * S + j) := by rw [Nat.add_mul, Nat.one_mul]; omega
    rw [List.flatMap_cons, List.getElem?_append_right (by rw [hc, e]; omega), hc, e, Nat.add_sub_cancel_left]
    exact flat_get hc r i x (by simpa using h) j hj
/-- What the call owns reads as these. -/
theorem Elems.owned (hc : ∀ x, (cells x).length = S) {w : World} {B : Nat} {e : TypeId} {v : Value} {L : List α} (h : w.ownsRow B e S v L.length (L.flatMap cells)) : Elems S cells w v L := by
  rcases h.2 with ⟨rfl, h0⟩ | ⟨g, cap, cur, rfl, _, hg, h1, h2, h3, h4⟩
  · obtain rfl := List.length_eq_zero_iff.1 h0
    exact ⟨none, 0, rfl, Nat.le_refl _, Nat.zero_le _, Or.inl rfl⟩
  · refine ⟨_, cap, rfl, h1, h2, Or.inr ⟨g, 0, rfl, (Array.getElem?_eq_some_iff.1 hg).1, fun i x hx j u hu => ?_⟩⟩
    have hj : j < S := by have := (List.getElem?_eq_some_iff.1 hu).1; rwa [hc] at this
    have hi := (List.getElem?_eq_some_iff.1 hx).1
    have h5 := flat_get hc L i x hx j hj
    have hle : i * S + S ≤ L.length * S := by
      have : (i + 1) * S ≤ L.length * S := Nat.mul_le_mul_right _ hi
      rwa [Nat.add_mul, Nat.one_mul] at this
    rw [← h4, List.getElem?_take, if_pos (by omega), hu] at h5
    rw [Nat.zero_add, World.cell?, hg]
    simpa using h5
end
theorem cell_new (w : World) (cs : Array Value) (ty : TypeId) (j : Nat) (u : Value) (h : cs.toList[j]? = some u) : (w.alloc (.cells cs ty)).cell? ((⟨w.heap.size, 0, none⟩ : Addr).add j) = some u := by
  have h1 : (w.alloc (.cells cs ty)).heap[w.heap.size]? = some (.cells cs ty) := by
    show (w.heap.push _)[w.heap.size]? = _
    simp
  rw [add_plain, Nat.zero_add, World.cell?, h1]
  simpa using h
end Go.Proofs.YtobdhcaoeholhaaGreatDoor
/- A row of terms of the call's own; a term's fields. Nothing here speaks of one program. -/
namespace Go.Proofs.YtobdhcaoeholhaaGreatDoor
open Go.RowKit
set_option linter.unusedVariables false

theorem TmV.full {w : World} {x : Tm} {v : Value} (h : TmV w x v) : ∃ k n s a m c, v = .agg #[.int .i64 k, .int .i64 n, .string s, .slice a m c] := by
  cases x with
  | mk k n s ts =>
    obtain ⟨u, rfl, _, _, _, hu⟩ := tmV_iff.1 h
    obtain ⟨a, c, rfl, _⟩ := hu.len
    exact ⟨_, _, _, _, _, _, rfl⟩
/-- A term beside the value of its Args. -/
abbrev TmP := Tm × Value
def pCells (p : TmP) : List Value := [.int .i64 p.1.k, .int .i64 p.1.n, .string p.1.s, p.2]
def pVal (p : TmP) : Value := .agg #[.int .i64 p.1.k, .int .i64 p.1.n, .string p.1.s, p.2]
theorem pCells_len (p : TmP) : (pCells p).length = 4 := rfl
theorem TmV.pair {w : World} {x : Tm} {v : Value} (h : TmV w x v) : ∃ u, v = pVal (x, u) := by
  cases x with
  | mk k n s ts =>
    obtain ⟨u, rfl, _⟩ := tmV_iff.1 h
    exact ⟨u, rfl⟩
theorem pCells_one (L : List TmP) {w : World} (h : ∀ p ∈ L, TmV w p.1 (pVal p)) : ∀ u ∈ L.flatMap pCells, u.oneCell' = true := by
  intro u hu
  obtain ⟨p, hp, hx⟩ := List.mem_flatMap.1 hu
  have hv := h p hp
  obtain ⟨x, q⟩ := p
  cases x with
  | mk k n s ts =>
    obtain ⟨u', hu', _, _, _, hq⟩ := tmV_iff.1 hv
    have : u' = q := by
      simp only [pVal, Value.agg.injEq] at hu'
      have h2 := congrArg Array.toList hu'
      simp only [List.cons.injEq, and_true] at h2
      exact h2.2.2.2.symm
    subst this
    obtain ⟨a, c, rfl, _⟩ := hq.len
    simp [pCells] at hx
    rcases hx with rfl | rfl | rfl | rfl <;> rfl
def RowP (w : World) (base : Nat) (ty : TypeId) (v : Value) (ps : List TmP) : Prop := w.ownsRow base ty 4 v ps.length (ps.flatMap pCells)
/-- What the call owns reads as these terms. -/
theorem RowP.terms {w : World} {base : Nat} {ty : TypeId} {v : Value} {ps : List TmP} (h : RowP w base ty v ps) (hp : ∀ p ∈ ps, TmV w p.1 (pVal p)) (hl : ps.length * 56 ≤ BIG) : Tms w v (ps.map (·.1)) := by
  obtain ⟨a, c, rfl, h1, h2, h3⟩ := Elems.owned pCells_len h
  refine ⟨a, c, by rw [List.length_map], by rw [List.length_map]; exact h1, h2, by rw [List.length_map]; exact hl, ?_⟩
  rcases h3 with rfl | ⟨b, off, rfl, hb, hc⟩
  · left; rfl
  · refine Or.inr ⟨b, off, rfl, hb, TmRow.mk fun i x hx => ?_⟩
    rw [List.getElem?_map] at hx
    obtain ⟨p, hpi, rfl⟩ := Option.map_eq_some_iff.1 hx
    have hv := hp p (List.mem_of_getElem? hpi)
    exact ⟨_, _, _, _, hc i p hpi 0 _ rfl, by rw [Nat.add_assoc]; exact hc i p hpi 1 _ rfl, by rw [Nat.add_assoc]; exact hc i p hpi 2 _ rfl, by rw [Nat.add_assoc]; exact hc i p hpi 3 _ rfl, hv⟩
/-- The parts of a pair under the list's name. -/
theorem pair_kind {t a b : Tm} (h : pairT t = some (a, b)) : t.k = 2 ∧ t.s = dotS ∧ t.args = [a, b] := by
  obtain ⟨_, h1, h2, h3⟩ := pair_size h
  exact ⟨h2, h3, h1⟩
end Go.Proofs.YtobdhcaoeholhaaGreatDoor
/- Package term: the makers, Comp, Size. -/
namespace Go.Proofs.YtobdhcaoeholhaaGreatDoor
open Go.RowKit
set_option linter.unusedVariables false

theorem results_cell1 {fn : Func} {p : Tmp} {ty : TypeId} (h : fn.results = #[.cell p ty]) (tmps : Array Value) (P : Program) (w : World) :
    (results fn tmps).run P w = ((asAddr (tmps.getD p undef)).run P w).andThen fun a w₁ => (loadVar ty a).run P w₁ := by
  simp only [results, h]
  simp [Sem.run_bind, Result.andThen]
/-- The row that is read, beside the values of the Args. -/
theorem TmRow.pairs {w : World} : ∀ {l : List Tm} {b off : Nat}, TmRow w l b off → ∃ ps : List TmP, ps.map (·.1) = l ∧ (∀ p ∈ ps, TmV w p.1 (pVal p)) ∧ ∀ j u, (ps.flatMap pCells)[j]? = some u → w.cell? ⟨b, off + j, none⟩ = some u
  | [], b, off, _ => ⟨[], rfl, fun p h => by simp at h, fun j u h => by simp at h⟩
  | x :: r, b, off, h => by
    rw [TmRow] at h
    obtain ⟨⟨c0, c1, c2, c3, h0, h1, h2, h3, h4⟩, h5⟩ := h
    obtain ⟨ps, e1, e2, e3⟩ := TmRow.pairs h5
    obtain ⟨u, hu⟩ := h4.pair
    rw [hu] at h4
    simp only [pVal, Value.agg.injEq] at hu
    have h2' := congrArg Array.toList hu
    simp only [List.cons.injEq, and_true] at h2'
    obtain ⟨rfl, rfl, rfl, rfl⟩ := h2'
    refine ⟨(x, c3) :: ps, by simp [e1], fun p hp => ?_, fun j u hj => ?_⟩
    · rcases List.mem_cons.1 hp with rfl | hp
      · exact h4
      · exact e2 p hp
    · rw [List.flatMap_cons] at hj
      by_cases hlt : j < 4
      · rw [List.getElem?_append_left (by rw [pCells_len]; exact hlt)] at hj
        match j, hlt with
        | 0, _ => cases hj; exact h0
        | 1, _ => cases hj; exact h1
        | 2, _ => cases hj; exact h2
        | 3, _ => cases hj; exact h3
      · rw [List.getElem?_append_right (by rw [pCells_len]; omega), pCells_len] at hj
        have := e3 _ _ hj
        rw [show off + 4 + (j - 4) = off + j by omega] at this
        exact this
theorem Tms.pairs {w : World} {v : Value} {l : List Tm} (h : Tms w v l) : ∃ (ps : List TmP) (a : Option Addr) (c : Nat), v = .slice a l.length c ∧ ps.length = l.length ∧ ps.map (·.1) = l ∧ (∀ p ∈ ps, TmV w p.1 (pVal p)) ∧ l.length * 56 ≤ BIG ∧ (l.length = 0 ∨ ∃ ad, a = some ad ∧ ∀ j u, (ps.flatMap pCells)[j]? = some u → w.cell? (ad.add j) = some u) := by
  obtain ⟨a, c, h1, h2, h3, h4, h5⟩ := h
  rcases h5 with rfl | ⟨b, off, rfl, hb, hr⟩
  · exact ⟨[], a, c, h1, rfl, rfl, fun p h => by simp at h, h4, Or.inl rfl⟩
  · obtain ⟨ps, e1, e2, e3⟩ := hr.pairs
    exact ⟨ps, _, c, h1, by rw [← e1, List.length_map], e1, e2, h4, Or.inr ⟨_, rfl, fun j u hj => by rw [add_plain]; exact e3 j u hj⟩⟩
theorem infoTerm : (Tryz.prog.info? 27).map (fun i => (i.zero, i.size, i.bytes)) = some (some (.agg #[.int .i64 0, .int .i64 0, .string ⟨#[]⟩, .slice none 0 0]), 4, 56) := by kernel_rfl
theorem leaf_tm (w : World) {k n : Int} {s : ByteArray} (hk : I64 k) (hn : I64 n) (hs : s.size ≤ BIG) : TmV w (.mk k n s []) (.agg #[.int .i64 k, .int .i64 n, .string s, .slice none 0 0]) :=
  tmV_iff.2 ⟨_, rfl, hs, hk, hn, Tms.nil w⟩
theorem i64_0 : I64 0 := by unfold I64; omega
theorem i64_1 : I64 1 := by unfold I64; omega
theorem i64_2 : I64 2 := by unfold I64; omega
theorem var_at (w : World) (n : Int) : Calls Tryz.prog 20 #[.int .i64 n] w fun e w' => e = .returned (.agg #[.int .i64 0, .int .i64 n, .string ⟨#[]⟩, .slice none 0 0]) ∧ Below w.heap.size w w' := by
  go_enter Tryz.func20, Tryz.ntmps20
  go_wp2
  refine bodyPost_ret (v := .agg #[.int .i64 0, .int .i64 n, .string ⟨#[]⟩, .slice none 0 0]) (by rw [results_cell1 rfl]; go_simp) rfl ⟨rfl, ?_⟩
  exact bel1' _ _
theorem int_at (w : World) (n : Int) : Calls Tryz.prog 26 #[.int .i64 n] w fun e w' => e = .returned (.agg #[.int .i64 1, .int .i64 n, .string ⟨#[]⟩, .slice none 0 0]) ∧ Below w.heap.size w w' := by
  go_enter Tryz.func26, Tryz.ntmps26
  go_wp2
  refine bodyPost_ret (v := .agg #[.int .i64 1, .int .i64 n, .string ⟨#[]⟩, .slice none 0 0]) (by rw [results_cell1 rfl]; go_simp) rfl ⟨rfl, ?_⟩
  exact bel1' _ _
theorem atom_at (w : World) (s : ByteArray) : Calls Tryz.prog 28 #[.string s] w fun e w' => e = .returned (.agg #[.int .i64 2, .int .i64 0, .string s, .slice none 0 0]) ∧ Below w.heap.size w w' := by
  go_enter Tryz.func28, Tryz.ntmps28
  go_wp2
  refine bodyPost_ret (v := .agg #[.int .i64 2, .int .i64 0, .string s, .slice none 0 0]) (by rw [results_cell1 rfl]; go_simp) rfl ⟨rfl, ?_⟩
  exact bel1' _ _
theorem cso {w : World} {a b : Addr} {v : Value} (h : a ≠ b) : (w.setCell a v).cell? b = w.cell? b := by apply World.cell?_setCell_other; exact h
theorem css {w : World} {a : Addr} {u v : Value} (h : w.cell? a = some u) : (w.setCell a v).cell? a = some v := by apply World.cell?_setCell_same; exact h
/-- Four cells of a box set one behind the other. -/
def setFour (w : World) (B : Nat) (v0 v1 v2 v3 : Value) : World := (((w.setCell ⟨B, 0, none⟩ v0).setCell ⟨B, 1, none⟩ v1).setCell ⟨B, 2, none⟩ v2).setCell ⟨B, 3, none⟩ v3
theorem four_cells {w : World} {B : Nat} {a0 a1 a2 a3 : Value} (v0 v1 v2 v3 : Value) (c0 : w.cell? ⟨B, 0, none⟩ = some a0) (c1 : w.cell? ⟨B, 1, none⟩ = some a1) (c2 : w.cell? ⟨B, 2, none⟩ = some a2) (c3 : w.cell? ⟨B, 3, none⟩ = some a3) :
    (setFour w B v0 v1 v2 v3).cell? ⟨B, 0, none⟩ = some v0 ∧ (setFour w B v0 v1 v2 v3).cell? ⟨B, 1, none⟩ = some v1 ∧ (setFour w B v0 v1 v2 v3).cell? ⟨B, 2, none⟩ = some v2 ∧ (setFour w B v0 v1 v2 v3).cell? ⟨B, 3, none⟩ = some v3 := by
  have ne : ∀ i j : Nat, i ≠ j → (⟨B, i, none⟩ : Addr) ≠ ⟨B, j, none⟩ := fun i j h e => by
    simp only [Addr.mk.injEq] at e
    exact h e.2.1
  unfold setFour
  refine ⟨?_, ?_, ?_, ?_⟩
  · rw [cso (ne 3 0 (by omega)), cso (ne 2 0 (by omega)), cso (ne 1 0 (by omega)), css c0]
  · rw [cso (ne 3 1 (by omega)), cso (ne 2 1 (by omega)), css (u := a1) (by rw [cso (ne 0 1 (by omega))]; exact c1)]
  · rw [cso (ne 3 2 (by omega)), css (u := a2) (by rw [cso (ne 1 2 (by omega)), cso (ne 0 2 (by omega))]; exact c2)]
  · rw [css (u := a3) (by rw [cso (ne 2 3 (by omega)), cso (ne 1 3 (by omega)), cso (ne 0 3 (by omega))]; exact c3)]
theorem four_far (w : World) (B : Nat) (v0 v1 v2 v3 : Value) (b j : Nat) (h : b ≠ B) : (setFour w B v0 v1 v2 v3).cell? ⟨b, j, none⟩ = w.cell? ⟨b, j, none⟩ := by
  have ne : ∀ i, (⟨B, i, none⟩ : Addr) ≠ ⟨b, j, none⟩ := fun i e => by
    simp only [Addr.mk.injEq] at e
    exact h e.1.symm
  unfold setFour
  rw [cso (ne 3), cso (ne 2), cso (ne 1), cso (ne 0)]
theorem four_below {w0 w : World} {D B : Nat} (v0 v1 v2 v3 : Value) (h : Below D w0 w) (hB : D ≤ B) : Below D w0 (setFour w B v0 v1 v2 v3) :=
  (((h.setCell (p := ⟨B, 0, none⟩) hB v0).setCell (p := ⟨B, 1, none⟩) hB v1).setCell (p := ⟨B, 2, none⟩) hB v2).setCell (p := ⟨B, 3, none⟩) hB v3
theorem four_row {w : World} {base B n k : Nat} {e : TypeId} {v : Value} {xs : List Value} (v0 v1 v2 v3 : Value) (h : w.ownsRow base e k v n xs) (hB : B < base) : (setFour w B v0 v1 v2 v3).ownsRow base e k v n xs :=
  ownsRow_setCell_below (ownsRow_setCell_below (ownsRow_setCell_below (ownsRow_setCell_below h (a := ⟨B, 0, none⟩) hB v0) (a := ⟨B, 1, none⟩) hB v1) (a := ⟨B, 2, none⟩) hB v2) (a := ⟨B, 3, none⟩) hB v3
theorem four_kept {w w4 : World} {c0 c1 c2 c3 : Value} {ty : TypeId} (h : w4.heap[w.heap.size]? = (w.alloc (.cells #[c0, c1, c2, c3] ty)).heap[w.heap.size]?) :
    w4.cell? ⟨w.heap.size, 0, none⟩ = some c0 ∧ w4.cell? ⟨w.heap.size, 1, none⟩ = some c1 ∧ w4.cell? ⟨w.heap.size, 2, none⟩ = some c2 ∧ w4.cell? ⟨w.heap.size, 3, none⟩ = some c3 ∧ ∀ j, w4.frozen? ⟨w.heap.size, j, none⟩ = false := by
  refine ⟨?_, ?_, ?_, ?_, fun j => ?_⟩
  · rw [World.cell?_of_block (w := w.alloc (.cells #[c0, c1, c2, c3] ty)) h]; simp
  · rw [World.cell?_of_block (w := w.alloc (.cells #[c0, c1, c2, c3] ty)) h]; simp
  · rw [World.cell?_of_block (w := w.alloc (.cells #[c0, c1, c2, c3] ty)) h]; simp
  · rw [World.cell?_of_block (w := w.alloc (.cells #[c0, c1, c2, c3] ty)) h]; simp
  · rw [World.frozen?_of_block (w := w.alloc (.cells #[c0, c1, c2, c3] ty)) h]; simp
set_option maxHeartbeats 2000000 in
theorem comp_ps {w : World} {ao : Option Addr} {m c : Nat} (ps : List TmP) (s : ByteArray) (hpl : ps.length = m) (hbig : m * 56 ≤ BIG) (hone : ∀ u ∈ ps.flatMap pCells, u.oneCell' = true)
    (hsrc : m = 0 ∨ ∃ ad, ao = some ad ∧ ∀ j u, (ps.flatMap pCells)[j]? = some u → w.cell? (ad.add j) = some u) :
    Calls Tryz.prog 19 #[.string s, .slice ao m c] w fun e w' => ∃ a c', e = .returned (.agg #[.int .i64 2, .int .i64 0, .string s, .slice a m c']) ∧ RowP w' (w.heap.size + 1) 27 (.slice a m c') ps ∧ Below w.heap.size w w' := by
  obtain ⟨i0, hi0, hz0, hs0, hb0⟩ := info_parts infoTerm
  have hfl : (ps.flatMap pCells).length = m * 4 := by rw [flat_len pCells_len, hpl]
  have HPL := Lib.hid hpl
  unfold BIG at hbig
  obtain ⟨news, hnews⟩ : ∃ news, ps.flatMap pCells = news := ⟨_, rfl⟩
  rw [hnews] at hfl hone hsrc
  have HN := Lib.hid hnews
  have hsrc' : m = 0 ∨ ∃ ad, ao = some ad ∧ ∀ j u, news[j]? = some u → (w.alloc (.cells #[.int .i64 0, .int .i64 0, .string ⟨#[]⟩, .slice none 0 0] 27)).cell? (ad.add j) = some u := by
    rcases hsrc with h | ⟨ad, e, h⟩
    · exact Or.inl h
    · exact Or.inr ⟨ad, e, fun j u hj => Lib.cell?_alloc_some _ (h j u hj)⟩
  clear hpl hnews hsrc
  go_enter Tryz.func19, Tryz.ntmps19
  go_wp2_with (at_builtin; refine wpList_append_k rfl _ _ 25 rfl (w.heap.size + 1) 27 i0 (.agg #[.int .i64 0, .int .i64 0, .string ⟨#[]⟩, .slice none 0 0]) 4 56 Tryz.underlying25 hi0 hz0 hs0 (by decide) hb0 rfl (.slice none 0 0) 0 [] rfl (World.ownsRow_nil _ _ _ _) ao m c news rfl hfl hsrc' hone (by unfold maxLen; omega) (by omega) (by simp) m news (by omega) rfl ?_; intro a4 c4 w4 hown4 hgrow4 hat4; obtain ⟨e0, e1, e2, e3, g0⟩ := four_kept (hgrow4.block w.heap.size (by simp) (by simp [Value.ownBlock])))
  have hB : Below w.heap.size w w4 := (bel1' w _).grown hgrow4 (by simp) (fun q hq => by simp [Value.ownBlock] at hq)
  refine bodyPost_ret (v := .agg #[.int .i64 2, .int .i64 0, .string s, .slice a4 m c4]) (by rw [results_cell1 rfl]; go_simp) rfl ⟨a4, c4, rfl, ?_⟩
  have hF : Below w.heap.size w (setFour w4 w.heap.size (.int .i64 2) (.int .i64 0) (.string s) (.slice a4 m c4)) := four_below _ _ _ _ hB (Nat.le_refl _)
  refine ⟨?_, hF⟩
  unfold RowP
  rw [HPL.out, HN.out]
  exact four_row _ _ _ _ hown4 (by omega)
theorem comp_at {w : World} {v : Value} {l : List Tm} (s : ByteArray) (hs : s.size ≤ BIG) (h : Tms w v l) :
    Calls Tryz.prog 19 #[.string s, v] w fun e w' => ∃ a c, e = .returned (.agg #[.int .i64 2, .int .i64 0, .string s, .slice a l.length c]) ∧ TmV w' (.mk 2 0 s l) (.agg #[.int .i64 2, .int .i64 0, .string s, .slice a l.length c]) ∧ Below w.heap.size w w' := by
  obtain ⟨ps, ao, c, rfl, hpl, hpm, hpa, hbig, hsrc⟩ := h.pairs
  refine (comp_ps (c := c) ps s hpl hbig (pCells_one ps hpa) hsrc).mono ?_
  rintro e w' ⟨a, c', rfl, hR, hB⟩
  refine ⟨a, c', rfl, ?_, hB⟩
  have hT := hR.terms (fun p hp => TmV.ext hB _ _ (hpa p hp)) (by rw [hpl]; exact hbig)
  rw [hpm] at hT
  exact tmV_iff.2 ⟨_, rfl, hs, i64_2, i64_0, hT⟩
end Go.Proofs.YtobdhcaoeholhaaGreatDoor
/- Package term: Size. -/
namespace Go.Proofs.YtobdhcaoeholhaaGreatDoor
open Go.RowKit
set_option linter.unusedVariables false

theorem sizes_drop' : ∀ {ts : List Tm} {i : Nat} {y : Tm}, ts[i]? = some y → sizesN (ts.take (i + 1)) = sizesN (ts.take i) + sizeN y
  | x :: r, 0, y, h => by
    simp at h; subst h
    simp [sizesN]
  | x :: r, i + 1, y, h => by
    have := sizes_drop' (ts := r) (i := i) (y := y) (by simpa using h)
    simp only [List.take_succ_cons, sizesN, this]
    omega
  | [], i, y, h => by simp at h
theorem sizes_take' (ts : List Tm) (i : Nat) : sizesN (ts.take i) ≤ sizesN ts := by
  induction ts generalizing i with
  | nil => simp
  | cons x r ih =>
    cases i with
    | zero => simp [sizesN]
    | succ i =>
      simp only [List.take_succ_cons, sizesN]
      have := ih i
      omega
theorem TmV.four {w : World} {x : Tm} {v : Value} (h : TmV w x v) : ∃ k n s u, v = .agg #[.int .i64 k, .int .i64 n, .string s, u] := by
  obtain ⟨u, rfl⟩ := h.pair
  exact ⟨_, _, _, _, rfl⟩
set_option maxHeartbeats 2000000 in
set_option maxRecDepth 100000 in
theorem count_at : ∀ (N : Nat) (x : Tm), sizeN x ≤ N → ∀ (q : Nat), 1 ≤ q → q ≤ 1000000 → ∀ (w : World) (v : Value), TmV w x v →
    Calls Tryz.prog 106 #[v, .int .i64 q] w fun e w' => e = .returned (.int .i64 (min (sizeN x) q : Nat)) ∧ Below w.heap.size w w'
  | 0, x, h, q, hq1, hq, w, v, hv => by have := size_pos x; omega
  | N + 1, .mk k n s ts, h, q, hq1, hq, w, v, hv => by
    obtain ⟨u, rfl, hs, hk, hn, hu⟩ := tmV_iff.1 hv
    obtain ⟨a, c, rfl, h1, h2, h3⟩ := hu.len
    unfold BIG at h3
    obtain ⟨m, hm⟩ : ∃ m, ts.length = m := ⟨_, rfl⟩
    have IH := Lib.hid (fun (y : Tm) (hy : y ∈ ts) => count_at N y (mem_size h hy))
    have HU := Lib.hid hu
    have HM := Lib.hid hm
    rw [hm] at h1 h3 hu HU ⊢
    obtain ⟨r, hr⟩ : ∃ r, min (sizeN (.mk k n s ts)) q = r := ⟨_, rfl⟩
    rw [hr]
    have HR := Lib.hid (show min (sizesN ts + 1) q = r by rw [← hr, sizeN])
    clear hv hu hm hr h
    go_enter Tryz.func106, Tryz.ntmps106
    go_wp2_with fail
    go_loopw [5, 11] (fun z v wr => ∃ i t : Nat, i ≤ m ∧ v = .int .i64 i ∧ z = .int .i64 t ∧ Hid (t = min (sizesN (ts.take i) + 1) q) ∧ t ≤ q ∧ Hid (Below (w.alloc (.cells #[.int .i64 k, .int .i64 n, .string s, .slice a m c] 27)).heap.size (w.alloc (.cells #[.int .i64 k, .int .i64 n, .string s, .slice a m c] 27)) wr)) (fun _ v _ => m - (intOf v).toNat)
    case atStart => exact ⟨0, 1, Nat.zero_le _, rfl, rfl, Lib.hid (by simp [sizesN]; omega), by omega, Lib.hid (Below.refl _ _)⟩
    case round =>
      obtain ⟨i, t, hi, rfl, rfl, HT, ht, HB⟩ := hrel
      have HBW := Lib.hid (Ext.trans' (bel1' w _) HB.out)
      by_cases hil : i < m
      · obtain ⟨y, hy⟩ : ∃ y, ts[i]? = some y := ⟨_, List.getElem?_eq_getElem (by rw [HM.out]; exact hil)⟩
        have hst := sizes_take' ts (i + 1)
        have hds := sizes_drop' hy
        obtain ⟨b, off, k', n', s', u', rfl, hbb, _, _, _, c0, c1, c2, c3, htu, hty⟩ := (HU.out.ext HBW.out).get hy
        obtain ⟨au, cu, rfl, _⟩ := htu.len
        clear htu
        by_cases htq : t < q
        · obtain ⟨d, hd⟩ : ∃ d, q - t = d := ⟨_, rfl⟩
          have hqt : (q : Int) - t = d := by omega
          have htq' : ((t : Int) == q) = false := by apply beq_false_of_ne; omega
          have HNE := Lib.hid (show ¬ t = q by omega)
          have ih := IH.out y (List.mem_of_getElem? hy) d (by omega) (by omega) _ _ (TmV.ext (bel1' wr (box4 k' n' s' (.slice au y.args.length cu) 27)) _ _ hty)
          obtain ⟨z, hz⟩ : ∃ z, min (sizeN y) d = z := ⟨_, rfl⟩
          rw [hz] at ih
          have HN : Hid (t + z = min (sizesN (ts.take (i + 1)) + 1) q) := Lib.hid (by
            have := HT.out
            rw [hds]
            omega)
          have hzd : z ≤ d := by omega
          have hzq : t + z ≤ q := by omega
          clear hst hds hz hy hty hd HT
          (go_wp2_with fail; go_fit (ih); rintro e w2 ⟨rfl, b2⟩)
          have B2 := Lib.hid (Ext.trans' HB.out (Ext.trans' (bel1' _ _) b2))
          clear b2
          go_wp2
          go_roundw
          case rel => exact ⟨i + 1, t + z, by omega, by go_num, by go_num, HN, hzq, B2⟩
          case measure => simp [intOf]; omega
        · have hrt : q = r := by
            have a1 := HT.out
            have a2 := HR.out
            have a3 := sizes_take' ts i
            omega
          have htq2 : t = q := by omega
          subst hrt htq2
          clear hst hds hy hty
          go_wp2
          go_ret
          exact ⟨rfl, Ext.trans' HBW.out (bel1' _ _)⟩
      · have hrt : t = r := by
          have a1 := HT.out
          have a2 := HR.out
          rw [List.take_of_length_le (by rw [HM.out]; omega)] at a1
          omega
        subst hrt
        go_wp2
        go_ret
        exact ⟨rfl, HBW.out⟩
theorem size_at (x : Tm) (w : World) (v : Value) (hv : TmV w x v) : Calls Tryz.prog 66 #[v] w fun e w' => e = .returned (.int .i64 (min (sizeN x) 2001 : Nat)) ∧ Below w.heap.size w w' := by
  have C := fun w (h : TmV w x v) => count_at _ x (Nat.le_refl _) 2001 (by omega) (by omega) w v h
  obtain ⟨z, hz⟩ : ∃ z, min (sizeN x) 2001 = z := ⟨_, rfl⟩
  rw [hz] at C ⊢
  obtain ⟨k, n, s, u, rfl⟩ := hv.four
  have hv0 := TmV.ext (bel1' w (box4 k n s u 27)) _ _ hv
  clear hz hv
  go_enter Tryz.func66, Tryz.ntmps66
  (go_wp2_with fail; go_fit (C _ hv0); rintro e w1 ⟨rfl, b1⟩)
  have B1 := Lib.hid (Ext.trans' (bel1' w _) b1)
  clear b1
  go_wp2
  go_ret
  exact ⟨rfl, B1.out⟩
end Go.Proofs.YtobdhcaoeholhaaGreatDoor
