import Derived.Test.YtobdhcaoeholhaaGreatDoorHbyaj
import Derived.Test.YtobdhcaoeholhaaGreatDoorHbyak
import Derived.Test.YtobdhcaoeholhaaGreatDoorHbyai
set_option linter.unusedVariables false
set_option linter.unusedSimpArgs false
/- What is written is read as it was, but for its variables' numbers. Pure. -/
namespace Go.Proofs.YtobdhcaoeholhaaGreatDoor
open Go.RowKit
set_option linter.unusedVariables false

/-- What a good table tells of a name. -/
structure TabW (pre bet : List UInt8 → O × Bool) : Prop where
  pre1 : ∀ n, (pre n).2 = true → bl (pre n).1.n = n ∧ sideB (bl (pre n).1.k) = 1 ∧ 1 ≤ (pre n).1.l ∧ (pre n).1.l ≤ 1200
  pre0 : ∀ n, (pre n).2 = false → pre n = zO
  bet1 : ∀ n, (bet n).2 = true → bl (bet n).1.n = n ∧ sideB (bl (bet n).1.k) = 2 ∧ 1 ≤ (bet n).1.l ∧ (bet n).1.l ≤ 1200
  bet0 : ∀ n, (bet n).2 = false → bet n = zO
  curly : (pre [123, 125]).2 = false
  comma : (bet [44]).2 = true → (bet [44]).1.l = 1000
  nil : (pre [91, 93]).2 = false ∧ (bet [91, 93]).2 = false
theorem may_parts {n k : List UInt8} {l : Int} (h : mayB n k l = true) : sideB k ≠ 0 ∧ 1 ≤ l ∧ l ≤ 1200 ∧ (n = [44] → l = 1000) ∧ n ≠ [123, 125] ∧ n ≠ [91, 93] := by
  unfold mayB at h
  by_cases h0 : (n == [44]) = true
  · rw [if_pos h0] at h
    simp only [Bool.and_eq_true, beq_iff_eq] at h
    have hn : n = [44] := by simpa using h0
    rw [h.1, h.2, hn]
    exact ⟨by decide, by decide, by decide, fun _ => rfl, by decide, by decide⟩
  rw [if_neg h0] at h
  have hn : n ≠ [44] := by simpa using h0
  split at h
  · cases h
  split at h
  · cases h
  split at h
  · cases h
  split at h
  · cases h
  rename_i h3 h4
  simp only [Bool.and_eq_true, decide_eq_true_eq, bne_iff_ne] at h
  exact ⟨h.1.1.2, h.1.2, h.2, fun e => absurd e hn, by simpa using h4, by simpa using h3⟩
theorem one_find {xs : List O} {n : List UInt8} {s : Int} (h : (oneB xs n s).2 = true) : (oneB xs n s).1 ∈ xs ∧ key (oneB xs n s).1 = (n, s) ∧ goodB xs = true := by
  rcases place_cases xs n s with ⟨h1, h2⟩ | ⟨k, y, h1, h2, h3, _⟩
  · have := one_none (xs := xs) (n := n) (s := s) (fun x hx => by
      obtain ⟨j, hj, rfl⟩ := List.getElem_of_mem hx
      exact (isAt_no _ _ _).1 (h2 j _ (List.getElem?_eq_getElem hj)))
    rw [this] at h; cases h
  · have hg : goodB xs = true := by
      cases hg : goodB xs with
      | true => rfl
      | false => unfold oneB at h; rw [hg] at h; simp at h
    have := one_mem hg (List.mem_of_getElem? h2) ((isAt_iff _ _ _).1 h3)
    rw [this]
    exact ⟨List.mem_of_getElem? h2, (isAt_iff _ _ _).1 h3, hg⟩
theorem one_not {xs : List O} {n : List UInt8} {s : Int} (h : (oneB xs n s).2 = false) : oneB xs n s = zO := by
  unfold oneB at h ⊢
  split at h
  · rename_i hc; rw [if_pos hc]; rfl
  · cases h
theorem wone_ok {xs : List O} {n : List UInt8} {s : Int} (h : (oneB xs n s).2 = true) : bl (oneB xs n s).1.n = n ∧ sideB (bl (oneB xs n s).1.k) = s ∧ 1 ≤ (oneB xs n s).1.l ∧ (oneB xs n s).1.l ≤ 1200 ∧ (n = [44] → (oneB xs n s).1.l = 1000) ∧ n ≠ [123, 125] ∧ n ≠ [91, 93] := by
  obtain ⟨h1, h2, h3⟩ := one_find h
  have hm := ((good_iff xs).1 h3).2.1 _ h1
  have hk := Prod.mk.inj h2
  have := may_parts (show mayB (bl (oneB xs n s).1.n) (bl (oneB xs n s).1.k) (oneB xs n s).1.l = true from hm)
  rw [hk.1] at this
  exact ⟨hk.1, hk.2, this.2⟩
theorem tab_of (xs : List O) : TabW (preO xs) (betO xs) where
  pre1 := fun n h => by obtain ⟨h1, h2, h3, h4, _⟩ := wone_ok h; exact ⟨h1, h2, h3, h4⟩
  pre0 := fun n h => one_not h
  bet1 := fun n h => by obtain ⟨h1, h2, h3, h4, _⟩ := wone_ok h; exact ⟨h1, h2, h3, h4⟩
  bet0 := fun n h => one_not h
  curly := by
    cases h : (preO xs [123, 125]).2 with
    | false => rfl
    | true => exact absurd rfl (wone_ok h).2.2.2.2.2.1
  comma := fun h => (wone_ok h).2.2.2.2.1 rfl
  nil := by
    refine ⟨?_, ?_⟩
    · cases h : (preO xs [91, 93]).2 with
      | false => rfl
      | true => exact absurd rfl (wone_ok h).2.2.2.2.2.2
    · cases h : (betO xs [91, 93]).2 with
      | false => rfl
      | true => exact absurd rfl (wone_ok h).2.2.2.2.2.2
theorem side_two {k : List UInt8} (h : sideB k = 2) : k = [120, 102, 120] ∨ k = [120, 102, 121] ∨ k = [121, 102, 120] := by
  unfold sideB at h
  split at h
  · left; rename_i h1; simpa using h1
  split at h
  · right; left; rename_i h1; simpa using h1
  split at h
  · right; right; rename_i h1; simpa using h1
  split at h
  · cases h
  split at h
  · cases h
  · cases h
theorem side_one {k : List UInt8} (h : sideB k = 1) : k = [102, 121] ∨ k = [102, 120] := by
  unfold sideB at h
  split at h
  · cases h
  split at h
  · cases h
  split at h
  · cases h
  split at h
  · left; rename_i h1; simpa using h1
  split at h
  · right; rename_i h1; simpa using h1
  · cases h
theorem w64 {l : Int} (h1 : 0 ≤ l) (h2 : l ≤ 1200) : wrap64 (l - 1) = l - 1 := IntWalk.wrap64_in _ (by omega)
/-- What may stand beside an operator between. -/
theorem sides_two {k : List UInt8} {l : Int} (h : sideB k = 2) (h1 : 1 ≤ l) (h2 : l ≤ 1200) :
    (k ≠ yfxL ∧ (sidesB k l).1 = l - 1 ∧ (sidesB k l).2 ≤ l ∧ 0 ≤ (sidesB k l).2) ∨ (k = yfxL ∧ (sidesB k l).1 = l ∧ (sidesB k l).2 = l - 1) := by
  have hw := w64 (l := l) (by omega) h2
  rcases side_two h with rfl | rfl | rfl
  · left
    refine ⟨by decide, ?_, ?_, ?_⟩
    · show wrap64 (l - 1) = _; exact hw
    · show wrap64 (l - 1) ≤ _; rw [hw]; omega
    · show _ ≤ wrap64 (l - 1); rw [hw]; omega
  · left
    refine ⟨by decide, ?_, ?_, ?_⟩
    · show wrap64 (l - 1) = _; exact hw
    · show l ≤ l; omega
    · show _ ≤ l; omega
  · right
    exact ⟨rfl, rfl, by show wrap64 (l - 1) = _; exact hw⟩
theorem sides_one {k : List UInt8} {l : Int} (h : sideB k = 1) (h1 : 1 ≤ l) (h2 : l ≤ 1200) : k ≠ yfxL ∧ (sidesB k l).2 ≤ l ∧ 0 ≤ (sidesB k l).2 := by
  have hw := w64 (l := l) (by omega) h2
  rcases side_one h with rfl | rfl
  · exact ⟨by decide, by show l ≤ l; omega, by show _ ≤ l; omega⟩
  · exact ⟨by decide, by show wrap64 (l - 1) ≤ _; rw [hw]; omega, by show _ ≤ wrap64 (l - 1); rw [hw]; omega⟩

/-! Variables by their places. -/
mutual
def renT (vs : List Int) : Tm → Tm
  | .mk k n s ts => .mk k (if k = 0 then idxW vs n else n) s (renL vs ts)
def renL (vs : List Int) : List Tm → List Tm
  | [] => []
  | x :: r => renT vs x :: renL vs r
end
mutual
/-- Its numbers are of a size that there is. -/
def numsT : Tm → Prop
  | .mk k n _ ts => (k = 1 → n.natAbs < 10000000000000000000000000) ∧ numsL ts
def numsL : List Tm → Prop
  | [] => True
  | x :: r => numsT x ∧ numsL r
end
theorem nums_mem : ∀ {l : List Tm} {x : Tm}, numsL l → x ∈ l → numsT x
  | y :: r, x, hf, h => by
    rw [numsL] at hf
    rcases List.mem_cons.1 h with rfl | h
    · exact hf.1
    · exact nums_mem hf.2 h
def nmsW (k : Nat) : List NmP := (List.range k).map fun i => (95 :: digW i, i)
def stW (L : List TokP) (acc : List Int) : RS := ⟨L, acc.length, nmsW acc.length⟩
theorem digW_inj {i j : Nat} (hi : i < 10000000000000000000000000) (hj : j < 10000000000000000000000000) (h : digW i = digW j) : i = j := by
  have h1 := (digW_ok i hi).2.2.1
  have h2 := (digW_ok j hj).2.2.1
  rw [h] at h1
  omega
theorem nms_find {k i : Nat} (hk : k < 10000000000000000000000000) (hi : i < k) : (nmsW k).find? (fun p => p.1 == 95 :: digW i) = some (95 :: digW i, i) := by
  unfold nmsW
  induction k with
  | zero => omega
  | succ k ih =>
    rw [List.range_succ, List.map_append, List.find?_append]
    by_cases h : i < k
    · rw [ih (by omega) h]; rfl
    · obtain rfl : i = k := by omega
      have : ((List.range i).map fun j => ((95 :: digW j, j) : NmP)).find? (fun p => p.1 == 95 :: digW i) = none := by
        rw [List.find?_eq_none]
        intro p hp
        obtain ⟨j, hj, rfl⟩ := List.mem_map.1 hp
        have hj := List.mem_range.1 hj
        simp only [beq_iff_eq, List.cons.injEq, true_and]
        intro e
        have := digW_inj (by omega) (by omega) e
        omega
      rw [this]
      simp
theorem nms_none {k i : Nat} (hk : i < 10000000000000000000000000) (hi : k ≤ i) : (nmsW k).find? (fun p => p.1 == 95 :: digW i) = none := by
  unfold nmsW
  rw [List.find?_eq_none]
  intro p hp
  obtain ⟨j, hj, rfl⟩ := List.mem_map.1 hp
  have hj := List.mem_range.1 hj
  simp only [beq_iff_eq, List.cons.injEq, true_and]
  intro e
  have := digW_inj (by omega) (by omega) e
  omega
mutual
theorem vars_pre : ∀ (t : Tm) (l : List Int), l <+: varsT t l
  | .mk k n s ts, l => by
    rw [varsT]
    split
    · split
      · exact List.prefix_refl _
      · exact List.prefix_append _ _
    · exact varss_pre ts l
theorem varss_pre : ∀ (ts : List Tm) (l : List Int), l <+: varsL ts l
  | [], l => List.prefix_refl _
  | x :: r, l => by
    rw [varsL]
    exact (vars_pre x l).trans (varss_pre r _)
end
theorem vars_list (t : Tm) : ∀ (l : List Tm) (acc : List Int), varsT (listT l t) acc = varsT t (varsL l acc)
  | [], acc => rfl
  | x :: r, acc => by
    rw [listT, consT, varsT, if_neg (by decide), varsL, varsL, varsL, vars_list t r, varsL]
theorem ren_list (vs : List Int) (t : Tm) : ∀ (l : List Tm), renT vs (listT l t) = listT (renL vs l) (renT vs t)
  | [] => rfl
  | x :: r => by
    rw [listT, consT, renT, renL, renL, renL, renL, ren_list vs t r, listT, consT, if_neg (by decide)]
theorem find_prefix {l vs : List Int} {n : Int} (h : l <+: vs) {i : Nat} (hi : l.findIdx? (fun v => v == n) = some i) : vs.findIdx? (fun v => v == n) = some i := by
  obtain ⟨r, rfl⟩ := h
  rw [List.findIdx?_append, hi]
  rfl
theorem idx_nat {vs : List Int} {n : Int} (h : n ∈ vs) : ∃ i, vs.findIdx? (fun v => v == n) = some i ∧ idxW vs n = (i : Nat) ∧ i < vs.length := by
  cases hf : vs.findIdx? (fun v => v == n) with
  | none =>
    rw [List.findIdx?_eq_none_iff] at hf
    exact absurd (hf n h) (by simp)
  | some i =>
    refine ⟨i, rfl, by unfold idxW; rw [hf], ?_⟩
    obtain ⟨hi, _⟩ := List.findIdx?_eq_some_iff_getElem.1 hf
    exact hi
/-- What a variable is read as. -/
theorem var_reads {vs acc : List Int} {n : Int} {s : ByteArray} (h : varsT (.mk 0 n s []) acc <+: vs) (hv : vs.length < 10000000000000000000000000) (L : List TokP) :
    ∃ i : Nat, idxW vs n = i ∧ i < vs.length ∧ varR (95 :: digW i) (stW L acc) = (vT (i : Nat), stW L (varsT (.mk 0 n s []) acc)) := by
  rw [varsT, if_pos rfl] at h ⊢
  have hne : (95 :: digW 0 : List UInt8) ≠ [95] := by decide
  by_cases hc : acc.contains n = true
  · rw [if_pos hc] at h ⊢
    have hm : n ∈ acc := by simpa using hc
    obtain ⟨i, h1, h2, h3⟩ := idx_nat hm
    have h4 := find_prefix h h1
    have hl := h.length_le
    refine ⟨i, by unfold idxW; rw [h4], by omega, ?_⟩
    unfold varR stW
    simp only
    rw [nms_find (by omega) h3]
  · rw [if_neg hc] at h ⊢
    have hm : n ∉ acc := by simpa using hc
    have hf : (acc ++ [n]).findIdx? (fun v => v == n) = some acc.length := by
      rw [List.findIdx?_append]
      have : acc.findIdx? (fun v => v == n) = none := by
        rw [List.findIdx?_eq_none_iff]
        intro x hx
        simp only [beq_eq_false_iff_ne]
        intro e
        rw [e] at hx
        exact hm hx
      rw [this]
      simp
    have h4 := find_prefix h hf
    have hl := h.length_le
    rw [List.length_append, List.length_singleton] at hl
    refine ⟨acc.length, by unfold idxW; rw [h4], by omega, ?_⟩
    unfold varR stW
    simp only
    rw [nms_none (by omega) (Nat.le_refl _)]
    have hd : (95 :: digW acc.length) ≠ [95] := by
      intro e
      exact (digW_ok acc.length (by omega)).2.1 (List.cons.inj e).2
    rw [if_neg hd]
    simp only [Prod.mk.injEq, true_and]
    congr 1
    · simp
    · rw [List.length_append, List.length_singleton]
      unfold nmsW
      rw [List.range_succ, List.map_append]
      rfl

/-! What stands behind. -/
def hdL (L : List TokP) : TokP := L.head?.getD zTok
section
variable (pre bet : List UInt8 → O × Bool)
/-- Nothing of that level goes on. -/
def FolL (y : Int) (L : List TokP) : Prop := (hdL L).1.kind ≠ 4 ∧ ((betweenR bet (hdL L)).2 = false ∨ (betweenR bet (hdL L)).1.l > y)
def ClosL (L : List TokP) : Prop := beginsR pre bet (hdL L) = false
/-- These tokens read so, whatever stands behind. -/
def Reads (vs : List Int) (x : Tm) (lv rb : Int) (clo : Bool) (t : List TokP) : Prop :=
  ∀ acc, varsT x acc <+: vs → ∀ most, lv ≤ most → ∀ L, FolL bet rb L → (clo = true → ClosL pre bet L) →
    TERM pre bet most (stW (t ++ L) acc) = LOOP pre bet most (renT vs x, lv) (stW L (varsT x acc))
/-- A text of a term, by itself. -/
structure Wrt (vs : List Int) (x : Tm) (lv rb : Int) (clo beg : Bool) (b : List UInt8) : Prop where
  head : ∃ c r, b = c :: r ∧ c ≠ 93 ∧ c ≠ 125
  toks : ∀ p, ∃ h tl, Pc p b (h :: tl) ∧ h.2 = p ∧ (beg = true → beginsR pre bet h = true) ∧ Reads pre bet vs x lv rb clo (h :: tl)
end
section
variable {pre bet : List UInt8 → O × Bool} {vs : List Int}
theorem FolL.le {y z : Int} {L : List TokP} (h : FolL bet y L) (hz : z ≤ y) : FolL bet z L := ⟨h.1, by
  rcases h.2 with h | h
  · exact Or.inl h
  · exact Or.inr (by omega)⟩
theorem fol_stop {y lv : Int} {L : List TokP} {acc : List Int} {t : Tm} (h : FolL bet y L) : LOOP pre bet y (t, lv) (stW L acc) = some ((t, lv), stW L acc) := by
  refine LOOP_stop ?_
  rcases h.2 with h | h
  · exact Or.inl h
  · exact Or.inr (Or.inl h)
theorem Wrt.ne {x : Tm} {lv rb : Int} {clo beg : Bool} {b : List UInt8} (h : Wrt pre bet vs x lv rb clo beg b) : b ≠ [] := by
  obtain ⟨c, r, e, _⟩ := h.head
  rw [e]; simp
theorem mark_close {c : UInt8} {o : Bool} {p : Nat} {L : List TokP} (hc : c = 41 ∨ c = 93 ∨ c = 125 ∨ c = 124) (y : Int) : FolL bet y ((mkTok c o, p) :: L) ∧ ClosL pre bet ((mkTok c o, p) :: L) := by
  have h0 : hdL ((mkTok c o, p) :: L) = (mkTok c o, p) := rfl
  refine ⟨⟨by rw [h0]; show (5 : Nat) ≠ 4; omega, Or.inl ?_⟩, ?_⟩
  · rw [h0]
    unfold betweenR
    have : opKind (mkTok c o, p) = false := by
      rcases hc with rfl | rfl | rfl | rfl <;> rfl
    rw [this]; rfl
  · unfold ClosL
    rw [h0]
    rcases hc with rfl | rfl | rfl | rfl <;> rfl
theorem mark_comma (hT : TabW pre bet) {o : Bool} {p : Nat} {L : List TokP} {y : Int} (hy : y ≤ 999) : FolL bet y ((mkTok 44 o, p) :: L) ∧ ClosL pre bet ((mkTok 44 o, p) :: L) := by
  have h0 : hdL ((mkTok 44 o, p) :: L) = (mkTok 44 o, p) := rfl
  refine ⟨⟨by rw [h0]; show (5 : Nat) ≠ 4; omega, ?_⟩, rfl⟩
  rw [h0]
  show (bet [44]).2 = false ∨ (bet [44]).1.l > y
  cases h : (bet [44]).2 with
  | false => exact Or.inl rfl
  | true => right; rw [hT.comma h]; omega
theorem head_st (h : TokP) (tl L : List TokP) (acc : List Int) : headR (stW (h :: tl ++ L) acc) = h := rfl
theorem drop_st (h : TokP) (tl L : List TokP) (acc : List Int) : dropR (stW (h :: tl ++ L) acc) = stW (tl ++ L) acc := rfl
theorem hd_st (L : List TokP) (acc : List Int) : headR (stW L acc) = hdL L := rfl
/-- A term in brackets. -/
theorem Wrt.bracket {x : Tm} {lv rb : Int} {clo beg : Bool} {b : List UInt8} (h : Wrt pre bet vs x lv rb clo beg b) (hl : lv ≤ 1200) : Wrt pre bet vs x 0 (-1) false true (40 :: (b ++ [41])) where
  head := ⟨40, _, rfl, by decide, by decide⟩
  toks := fun p => by
    obtain ⟨hd, tl, h1, h2, h3, h4⟩ := h.toks (p + 1)
    refine ⟨(mkTok 40 (openB (b ++ [41])), p), (hd :: tl) ++ [(mkTok 41 false, p + 1 + b.length)], ?_, rfl, fun _ => rfl, ?_⟩
    · exact pc_mark (by simp) (Or.inl (by decide)) (pc_close (Or.inl rfl) h1)
    · intro acc ha most hm L hL hc
      obtain ⟨g1, g2⟩ := mark_close (pre := pre) (bet := bet) (o := false) (p := p + 1 + b.length) (L := L) (c := 41) (Or.inl rfl) 1200
      have hr := h4 acc ha 1200 hl ((mkTok 41 false, p + 1 + b.length) :: L) (mark_close (pre := pre) (Or.inl rfl) rb).1 (fun _ => g2)
      rw [fol_stop g1] at hr
      have hp : primR pre bet (TERM pre bet) most (stW ((mkTok 40 (openB (b ++ [41])), p) :: ((hd :: tl) ++ [(mkTok 41 false, p + 1 + b.length)]) ++ L) acc) = some ((renT vs x, 0), stW L (varsT x acc)) := by
        unfold primR
        rw [head_st, drop_st]
        rw [if_neg (by show ¬ ((5 : Nat) = 1 ∨ (5 : Nat) = 2); omega), if_neg (by show ¬ (5 : Nat) = 3; omega), if_neg (by show ¬ (5 : Nat) = 4; omega), if_pos (by rfl)]
        show zeroR (bracketR (TERM pre bet) [40] _) = _
        unfold bracketR
        rw [if_pos rfl]
        unfold closedR
        rw [List.append_assoc, List.singleton_append, hr]
        rfl
      rw [TERM_some hp]
/-- An Arg or an item. -/
theorem Wrt.place {x : Tm} {lv rb : Int} {clo beg : Bool} {B : Tm → List UInt8} (h : Wrt pre bet vs x lv rb clo beg (B x)) (h0 : lv ≤ levW pre bet x) (hl : levW pre bet x ≤ 1200) (hr : rb ≤ levW pre bet x) {m : Int} (hm : 0 ≤ m) :
    ∃ lv' rb' clo' beg', lv' ≤ m ∧ rb' ≤ m ∧ Wrt pre bet vs x lv' rb' clo' beg' (placeW pre bet B m x) := by
  unfold placeW
  by_cases hc : levW pre bet x ≤ m
  · rw [if_pos hc]
    exact ⟨lv, rb, clo, beg, by omega, by omega, h⟩
  · rw [if_neg hc]
    exact ⟨0, -1, false, true, hm, by omega, h.bracket (by omega)⟩
/-- Is it bracketed beside an operator, whatever its level? -/
def cloW (x : Tm) : Bool := x.args.isEmpty && decide (0 < levW pre bet x)
def begW (x : Tm) : Bool := !(cloW (pre := pre) (bet := bet) x || (x.k == 1 && decide (x.n < 0)))
/-- What stands beside an operator. -/
theorem Wrt.beside {x : Tm} {lv rb : Int} {B : Tm → List UInt8} (h : Wrt pre bet vs x lv rb (cloW (pre := pre) (bet := bet) x) (begW (pre := pre) (bet := bet) x) (B x)) (h0 : lv ≤ levW pre bet x) (hl : levW pre bet x ≤ 1200) (hn : 0 ≤ levW pre bet x) {m : Int} :
    (Wrt pre bet vs x 0 (-1) false true (besideW pre bet B x m)) ∨ (levW pre bet x ≤ m ∧ Wrt pre bet vs x lv rb false true (besideW pre bet B x m)) := by
  unfold besideW placeW mostW
  by_cases hc : (x.args.isEmpty && decide (0 < levW pre bet x) || (x.k == 1 && decide (x.n < 0))) = true
  · left
    rw [if_pos hc, if_neg (by omega)]
    exact h.bracket (by omega)
  · rw [if_neg hc]
    have hb : begW (pre := pre) (bet := bet) x = true := by
      unfold begW cloW
      simp only [Bool.not_eq_true] at hc
      rw [hc]; rfl
    have hcl : cloW (pre := pre) (bet := bet) x = false := by
      cases h1 : cloW (pre := pre) (bet := bet) x with
      | false => rfl
      | true => unfold cloW at h1; rw [h1] at hc; simp at hc
    by_cases hl2 : levW pre bet x ≤ m
    · rw [if_pos hl2]
      right
      rw [hb, hcl] at h
      exact ⟨hl2, h⟩
    · rw [if_neg hl2]
      left
      exact h.bracket (by omega)
end
end Go.Proofs.YtobdhcaoeholhaaGreatDoor
/- What is written is read as it was: each way of writing. Pure. -/
namespace Go.Proofs.YtobdhcaoeholhaaGreatDoor
open Go.RowKit
set_option linter.unusedVariables false

section
variable {pre bet : List UInt8 → O × Bool} {vs : List Int}
/-- A mark ends the row here. -/
def EndL (pre bet : List UInt8 → O × Bool) (L : List TokP) : Prop := FolL bet 999 L ∧ ClosL pre bet L ∧ isMark [44] (hdL L) = false
theorem end_mark {c : UInt8} {o : Bool} {p : Nat} {L : List TokP} (hc : c = 41 ∨ c = 93 ∨ c = 125 ∨ c = 124) : EndL pre bet ((mkTok c o, p) :: L) :=
  ⟨(mark_close (pre := pre) hc 999).1, (mark_close (bet := bet) hc 999).2, by rcases hc with rfl | rfl | rfl | rfl <;> rfl⟩
theorem takes_no {t : List UInt8} {L : List TokP} {acc : List Int} (h : isMark t (hdL L) = false) : takesR t (stW L acc) = none := by
  unfold takesR
  rw [hd_st, h]; rfl
theorem takes_yes {c : UInt8} {o : Bool} {p : Nat} {L : List TokP} {acc : List Int} : takesR [c] (stW ((mkTok c o, p) :: L) acc) = some (stW L acc) := by
  unfold takesR
  have : isMark [c] (headR (stW ((mkTok c o, p) :: L) acc)) = true := by
    show ((5 : Nat) == 5 && [c] == [c]) = true
    simp
  rw [if_pos this]
  rfl
def RowOK (pre bet : List UInt8 → O × Bool) (vs : List Int) (W : Tm → List UInt8) (l : List Tm) : Prop := ∀ x ∈ l, ∃ lv rb clo beg, lv ≤ 999 ∧ rb ≤ 999 ∧ Wrt pre bet vs x lv rb clo beg (W x)
/-- Terms with commas between. -/
theorem row_wrt (hT : TabW pre bet) {W : Tm → List UInt8} : ∀ {l : List Tm}, l ≠ [] → RowOK pre bet vs W l →
    (∃ c r, rowW W l = c :: r ∧ c ≠ 93 ∧ c ≠ 125) ∧ ∀ p, ∃ t, Pc p (rowW W l) t ∧ ∀ acc, varsL l acc <+: vs → ∀ L, EndL pre bet L → ITEMS pre bet (stW (t ++ L) acc) = some (renL vs l, stW L (varsL l acc))
  | [], hne, _ => absurd rfl hne
  | [x], _, h => by
    obtain ⟨lv, rb, clo, beg, h1, h2, hw⟩ := h x (by simp)
    refine ⟨hw.head, fun p => ?_⟩
    obtain ⟨hd, tl, g1, g2, g3, g4⟩ := hw.toks p
    refine ⟨hd :: tl, g1, fun acc ha L hL => ?_⟩
    have hr := g4 acc ha 999 h1 L (hL.1.le h2) (fun _ => hL.2.1)
    rw [fol_stop hL.1] at hr
    rw [ITEMS_last hr (takes_no hL.2.2)]
    rfl
  | x :: y :: r, _, h => by
    obtain ⟨lv, rb, clo, beg, h1, h2, hw⟩ := h x (by simp)
    obtain ⟨⟨c, rr, e1, _, _⟩, hrow⟩ := row_wrt hT (l := y :: r) (by simp) (fun z hz => h z (List.mem_cons_of_mem _ hz))
    obtain ⟨c0, r0, e0, n1, n2⟩ := hw.head
    refine ⟨⟨c0, r0 ++ 44 :: rowW W (y :: r), by show W x ++ 44 :: rowW W (y :: r) = _; rw [e0]; rfl, n1, n2⟩, fun p => ?_⟩
    obtain ⟨hd, tl, g1, g2, g3, g4⟩ := hw.toks p
    obtain ⟨t, k1, k2⟩ := hrow (p + (W x).length + 1)
    refine ⟨(hd :: tl) ++ (mkTok 44 (openB (rowW W (y :: r))), p + (W x).length) :: t, pc_comma (Or.inl rfl) (by rw [e1]; simp) g1 k1, fun acc ha L hL => ?_⟩
    rw [varsL] at ha
    obtain ⟨m1, m2⟩ := mark_comma hT (o := openB (rowW W (y :: r))) (p := p + (W x).length) (L := t ++ L) (y := 999) (by omega)
    have hr := g4 acc ((varss_pre _ _).trans ha) 999 h1 ((mkTok 44 (openB (rowW W (y :: r))), p + (W x).length) :: (t ++ L)) (m1.le h2) (fun _ => m2)
    rw [fol_stop m1] at hr
    have hi := (ITEMS_more hr takes_yes).1
    rw [k2 _ ha L hL] at hi
    have e : ∀ (A : List TokP) (q : TokP), A ++ q :: t ++ L = A ++ q :: (t ++ L) := fun A q => by rw [List.append_assoc]; rfl
    rw [e, hi]
    rfl
theorem ba_bl (s : ByteArray) : ba (bl s) = s := by
  unfold ba bl
  rfl
/-- A name with Args. -/
theorem wrt_comp (hT : TabW pre bet) {W : Tm → List UInt8} {s : ByteArray} {ts : List Tm} (hm : (bl s).all mayQ = true) (hl : (bl s).length ≤ 64) (hne : ts ≠ []) (h : RowOK pre bet vs W ts) :
    Wrt pre bet vs (.mk 2 0 s ts) 0 (-1) false true (quoteB (bl s) ++ 40 :: (rowW W ts ++ [41])) where
  head := by
    obtain ⟨c, r, e, hn⟩ := name_next hm hl
    refine ⟨c, r ++ 40 :: (rowW W ts ++ [41]), by rw [e]; rfl, ?_, ?_⟩
    · rintro rfl
      have := hn [] trivial
      rw [List.append_nil] at this
      have e2 := mark_next 93 r (Or.inl (by decide))
      rw [e2] at this
      injection this with this
      have hk := congrArg TokB.kind this
      unfold nmTok nmK mkTok at hk
      simp only at hk
      split at hk <;> omega
    · rintro rfl
      have := hn [] trivial
      rw [List.append_nil] at this
      have e2 := mark_next 125 r (Or.inl (by decide))
      rw [e2] at this
      injection this with this
      have hk := congrArg TokB.kind this
      unfold nmTok nmK mkTok at hk
      simp only at hk
      split at hk <;> omega
  toks := fun p => by
    obtain ⟨⟨c, r, e1, _, _⟩, hrow⟩ := row_wrt hT hne h
    obtain ⟨t, k1, k2⟩ := hrow (p + (quoteB (bl s)).length + 1)
    refine ⟨_, _, pc_open hm hl (by simp) (pc_close (Or.inl rfl) k1), rfl, fun _ => ?_, ?_⟩
    · unfold beginsR
      rw [if_pos (by show nmK (bl s) = 1 ∨ nmK (bl s) = 2; unfold nmK; split <;> simp)]
      rfl
    · intro acc ha most hmo L hL hc
      rw [varsT, if_neg (by decide)] at ha ⊢
      rw [renT, if_neg (by decide)]
      generalize openB (rowW W ts ++ [41]) = o1
      have hk : (nmTok (bl s) true, p).1.kind = 1 ∨ (nmTok (bl s) true, p).1.kind = 2 := by
        show nmK (bl s) = 1 ∨ nmK (bl s) = 2
        unfold nmK; split <;> simp
      have hit := k2 acc ha ((mkTok 41 false, p + (quoteB (bl s)).length + 1 + (rowW W ts).length) :: L) (end_mark (Or.inl rfl))
      have hp : primR pre bet (TERM pre bet) most (stW ((nmTok (bl s) true, p) :: (mkTok 40 o1, p + (quoteB (bl s)).length) :: (t ++ [(mkTok 41 false, p + (quoteB (bl s)).length + 1 + (rowW W ts).length)]) ++ L) acc) = some ((.mk 2 0 s (renL vs ts), 0), stW L (varsL ts acc)) := by
        unfold primR
        rw [head_st, drop_st, if_pos hk]
        unfold namedR
        have hmin : isMinusR (nmTok (bl s) true, p) (headR (stW ((mkTok 40 o1, p + (quoteB (bl s)).length) :: (t ++ [(mkTok 41 false, p + (quoteB (bl s)).length + 1 + (rowW W ts).length)]) ++ L) acc)) = false := by
          unfold isMinusR
          show (_ && (_ && ((5 : Nat) == 4 && _))) = false
          simp
        rw [hmin, if_neg (by simp), if_pos (by rfl), drop_st, argsR_eq, List.append_assoc, List.singleton_append, hit]
        simp only
        rw [takes_yes]
        simp only
        have : (nmTok (bl s) true).text = bl s := rfl
        rw [this, ba_bl]
      rw [TERM_some hp]
theorem name_head {s : ByteArray} (hm : (bl s).all mayQ = true) (hl : (bl s).length ≤ 64) (R : List UInt8) : ∃ c r, quoteB (bl s) ++ R = c :: r ∧ c ≠ 93 ∧ c ≠ 125 := by
  obtain ⟨c, r, e, hn⟩ := name_next hm hl
  refine ⟨c, r ++ R, by rw [e]; rfl, ?_, ?_⟩
  · rintro rfl
    have := hn [] trivial
    rw [List.append_nil, mark_next 93 r (Or.inl (by decide))] at this
    injection this with this
    have hk := congrArg TokB.kind this
    unfold nmTok nmK mkTok at hk
    simp only at hk
    split at hk <;> omega
  · rintro rfl
    have := hn [] trivial
    rw [List.append_nil, mark_next 125 r (Or.inl (by decide))] at this
    injection this with this
    have hk := congrArg TokB.kind this
    unfold nmTok nmK mkTok at hk
    simp only at hk
    split at hk <;> omega
theorem nmK_or (s : List UInt8) : nmK s = 1 ∨ nmK s = 2 := by unfold nmK; split <;> simp
theorem minus_no {q : TokP} {L : List TokP} {acc : List Int} (h : (hdL L).1.kind ≠ 4) : isMinusR q (headR (stW L acc)) = false := by
  rw [hd_st]
  unfold isMinusR
  have : ((hdL L).1.kind == 4) = false := beq_false_of_ne h
  rw [this]
  simp
/-- An atom. -/
theorem wrt_atom (hT : TabW pre bet) {s : ByteArray} (hm : (bl s).all mayQ = true) (hl : (bl s).length ≤ 64) :
    ∃ lv, lv ≤ levW pre bet (.mk 2 0 s []) ∧ Wrt pre bet vs (.mk 2 0 s []) lv (-1) (cloW (pre := pre) (bet := bet) (.mk 2 0 s [])) (begW (pre := pre) (bet := bet) (.mk 2 0 s [])) (quoteB (bl s)) := by
  have hlev : levW pre bet (.mk 2 0 s []) = max (pre (bl s)).1.l (bet (bl s)).1.l := rfl
  have hpl : 0 ≤ (pre (bl s)).1.l := by
    cases h : (pre (bl s)).2 with
    | true => have := (hT.pre1 _ h).2.2.1; omega
    | false => rw [hT.pre0 _ h]; exact Int.le_refl _
  have hbl : 0 ≤ (bet (bl s)).1.l := by
    cases h : (bet (bl s)).2 with
    | true => have := (hT.bet1 _ h).2.2.1; omega
    | false => rw [hT.bet0 _ h]; exact Int.le_refl _
  refine ⟨if nmK (bl s) = 2 then 0 else levW pre bet (.mk 2 0 s []), ?_, ?_⟩
  · split
    · rw [hlev]; omega
    · exact Int.le_refl _
  refine ⟨?_, fun p => ⟨(nmTok (bl s) false, p), [], pc_name hm hl p, rfl, fun hb => ?_, ?_⟩⟩
  · have := name_head hm hl []
    rwa [List.append_nil] at this
  · unfold beginsR
    rw [if_pos (show (nmTok (bl s) false, p).1.kind = 1 ∨ (nmTok (bl s) false, p).1.kind = 2 from nmK_or (bl s))]
    unfold begW cloW at hb
    simp only [Bool.not_eq_true', Bool.or_eq_false_iff] at hb
    have h0 : decide (0 < levW pre bet (.mk 2 0 s [])) = false := by
      have := hb.1
      show decide (0 < levW pre bet (.mk 2 0 s [])) = false
      simpa [Tm.args] using this
    rw [hlev] at h0
    have h0 : ¬ (0 < max (pre (bl s)).1.l (bet (bl s)).1.l) := of_decide_eq_false h0
    have hb2 : (bet (bl s)).2 = false := by
      cases h : (bet (bl s)).2 with
      | false => rfl
      | true => have := (hT.bet1 _ h).2.2.1; omega
    have : (betweenR bet (nmTok (bl s) false, p)).2 = false := by
      unfold betweenR
      split
      · exact hb2
      · rfl
    rw [this]
    simp
  · intro acc ha most hmo L hL hc
    rw [show varsT (.mk 2 0 s []) acc = acc by rw [varsT, if_neg (by decide), varsL], show renT vs (.mk 2 0 s []) = .mk 2 0 s [] by rw [renT, if_neg (by decide), renL]]
    have hp : primR pre bet (TERM pre bet) most (stW ([(nmTok (bl s) false, p)] ++ L) acc) = some ((.mk 2 0 s [], if nmK (bl s) = 2 then 0 else levW pre bet (.mk 2 0 s [])), stW L acc) := by
      unfold primR
      rw [head_st, drop_st, if_pos (show (nmTok (bl s) false, p).1.kind = 1 ∨ (nmTok (bl s) false, p).1.kind = 2 from nmK_or (bl s))]
      unfold namedR
      rw [List.nil_append, minus_no hL.1, if_neg (by simp), if_neg (by show ¬ (false = true); simp)]
      have ht : (nmTok (bl s) false, p).1.text = bl s := rfl
      have hkk : (nmTok (bl s) false, p).1.kind = nmK (bl s) := rfl
      rw [ht, hkk]
      by_cases h2 : nmK (bl s) = 2
      · rw [if_pos h2, if_pos h2]
        unfold aT
        rw [ba_bl]
      · rw [if_neg h2, if_neg h2]
        rw [if_neg h2] at hmo
        have hah : isAheadR pre bet (nmTok (bl s) false, p) most (stW L acc) = false := by
          unfold isAheadR
          rw [ht, hd_st]
          cases h : (pre (bl s)).2 with
          | false => rfl
          | true =>
            have hcl : cloW (pre := pre) (bet := bet) (.mk 2 0 s []) = true := by
              unfold cloW
              have := (hT.pre1 _ h).2.2.1
              show (true && decide (0 < max (pre (bl s)).1.l (bet (bl s)).1.l)) = true
              rw [Bool.true_and]
              exact decide_eq_true (by omega)
            have := hc hcl
            unfold ClosL at this
            rw [this]
            simp
        rw [hah, if_neg (by simp), if_pos (by rw [hlev] at hmo; exact hmo), hlev]
        unfold aT
        rw [ba_bl]
    rw [TERM_some hp]
/-- A number. -/
theorem wrt_num {n : Int} (hn : n.natAbs < 10000000000000000000000000) : Wrt pre bet vs (.mk 1 n ⟨#[]⟩ []) 0 (-1) false (!decide (n < 0)) (numW n) := by
  unfold numW
  by_cases h0 : n < 0
  · rw [if_pos h0]
    refine ⟨⟨45, _, rfl, by decide, by decide⟩, fun p => ⟨_, _, pc_neg hn p, rfl, fun hb => by simp [h0] at hb, ?_⟩⟩
    intro acc ha most hmo L hL hc
    rw [show varsT (.mk 1 n ⟨#[]⟩ []) acc = acc by rw [varsT, if_neg (by decide), varsL], show renT vs (.mk 1 n ⟨#[]⟩ []) = .mk 1 n ⟨#[]⟩ [] by rw [renT, if_neg (by decide), renL]]
    have hp : primR pre bet (TERM pre bet) most (stW ([(minTok, p), (numTok n.natAbs, p + 1)] ++ L) acc) = some ((.mk 1 n ⟨#[]⟩ [], 0), stW L acc) := by
      unfold primR
      rw [head_st, drop_st, if_pos (by exact Or.inl rfl)]
      unfold namedR
      rw [head_st, drop_st]
      have hmin : isMinusR (minTok, p) (numTok n.natAbs, p + 1) = true := by
        unfold isMinusR minTok numTok
        simp
      rw [if_pos hmin]
      have e : -(((numTok n.natAbs, p + 1) : TokP).1.n : Int) = n := by
        show -((n.natAbs : Nat) : Int) = n
        omega
      rw [e]
      rfl
    rw [TERM_some hp]
  · rw [if_neg h0]
    have hn' : n.toNat < 10000000000000000000000000 := by omega
    refine ⟨?_, fun p => ⟨_, _, pc_num hn' p, rfl, fun _ => rfl, ?_⟩⟩
    · obtain ⟨c, r, e, hc, _⟩ := dig_parts hn'
      refine ⟨c, r, e, ?_, ?_⟩
      · rintro rfl; revert hc; decide
      · rintro rfl; revert hc; decide
    · intro acc ha most hmo L hL hc
      rw [show varsT (.mk 1 n ⟨#[]⟩ []) acc = acc by rw [varsT, if_neg (by decide), varsL], show renT vs (.mk 1 n ⟨#[]⟩ []) = .mk 1 n ⟨#[]⟩ [] by rw [renT, if_neg (by decide), renL]]
      have hp : primR pre bet (TERM pre bet) most (stW ([(numTok n.toNat, p)] ++ L) acc) = some ((.mk 1 n ⟨#[]⟩ [], 0), stW L acc) := by
        unfold primR
        rw [head_st, drop_st, if_neg (by show ¬ ((4 : Nat) = 1 ∨ (4 : Nat) = 2); omega), if_neg (by show ¬ (4 : Nat) = 3; omega), if_pos (by rfl)]
        have e : (((numTok n.toNat, p) : TokP).1.n : Int) = n := by
          show ((n.toNat : Nat) : Int) = n
          omega
        rw [e]
        rfl
      rw [TERM_some hp]
/-- A variable. -/
theorem wrt_var {n : Int} {s : ByteArray} (hs : s = ⟨#[]⟩) (hv : vs.length < 10000000000000000000000000) (hn : n ∈ vs) : Wrt pre bet vs (.mk 0 n s []) 0 (-1) false true (95 :: numW (idxW vs n)) := by
  obtain ⟨i, h1, h2, h3⟩ := idx_nat hn
  have e : numW (idxW vs n) = digW i := by
    rw [h2]
    unfold numW
    rw [if_neg (by omega)]
    simp
  rw [e]
  refine ⟨⟨95, _, rfl, by decide, by decide⟩, fun p => ⟨_, _, pc_var (by omega) p, rfl, fun _ => rfl, ?_⟩⟩
  intro acc ha most hmo L hL hc
  obtain ⟨j, g1, g2, g3⟩ := var_reads ha hv L
  have hij : i = j := by rw [h2] at g1; omega
  subst hij
  rw [renT, if_pos rfl, renL, g1]
  have hp : primR pre bet (TERM pre bet) most (stW ([(varTok i, p)] ++ L) acc) = some ((.mk 0 (i : Nat) s [], 0), stW L (varsT (.mk 0 n s []) acc)) := by
    unfold primR
    rw [head_st, drop_st, if_neg (by show ¬ ((3 : Nat) = 1 ∨ (3 : Nat) = 2); omega), if_pos (by rfl)]
    have ht : ((varTok i, p) : TokP).1.text = 95 :: digW i := rfl
    rw [ht, List.nil_append, g3, hs]
    rfl
  rw [TERM_some hp]
end
end Go.Proofs.YtobdhcaoeholhaaGreatDoor
/- What is written is read as it was: lists, operators; every term. Pure. -/
namespace Go.Proofs.YtobdhcaoeholhaaGreatDoor
open Go.RowKit
set_option linter.unusedVariables false

section
variable {pre bet : List UInt8 → O × Bool} {vs : List Int}
theorem app_row (A t L : List TokP) (q : TokP) : A ++ q :: t ++ L = A ++ q :: (t ++ L) := by rw [List.append_assoc]; rfl
theorem nil_ren : renT vs (aT [91, 93]) = aT [91, 93] := by unfold aT; rw [renT, if_neg (by decide), renL]
theorem nil_vars (acc : List Int) : varsT (aT [91, 93]) acc = acc := by unfold aT; rw [varsT, if_neg (by decide), varsL]
/-- A list. -/
theorem wrt_list (hT : TabW pre bet) {W : Tm → List UInt8} {l : List Tm} {t : Tm} (hne : l ≠ []) (h : RowOK pre bet vs W l) (ht : nilW t = false → ∃ lv rb clo beg, lv ≤ 999 ∧ rb ≤ 999 ∧ Wrt pre bet vs t lv rb clo beg (W t)) :
    Wrt pre bet vs (listT l t) 0 (-1) false true (91 :: (rowW W l ++ ((if nilW t then [] else 124 :: W t) ++ [93]))) := by
  obtain ⟨⟨c, r, e1, n1, n2⟩, hrow⟩ := row_wrt hT hne h
  refine ⟨⟨91, _, rfl, by decide, by decide⟩, fun p => ?_⟩
  obtain ⟨tr, k1, k2⟩ := hrow (p + 1)
  have hopen : ∀ X : List UInt8, (rowW W l ++ X).head? ≠ some 93 := fun X => by rw [e1]; simpa using n1
  have hne2 : ∀ X : List UInt8, rowW W l ++ X ≠ [] := fun X => by rw [e1]; simp
  cases hn : nilW t with
  | true =>
    have he : t = aT [91, 93] := (same_iff _ _).1 hn
    subst he
    rw [if_pos rfl, List.nil_append]
    refine ⟨_, _, pc_mark (hne2 _) (Or.inr (Or.inl ⟨rfl, hopen _⟩)) (pc_close (Or.inr (Or.inl rfl)) k1), rfl, fun _ => rfl, ?_⟩
    intro acc ha most hmo L hL hc
    rw [vars_list, nil_vars] at ha ⊢
    rw [ren_list, nil_ren]
    generalize openB (rowW W l ++ [93]) = o1
    have hit := k2 acc ha ((mkTok 93 false, p + 1 + (rowW W l).length) :: L) (end_mark (Or.inr (Or.inl rfl)))
    have hp : primR pre bet (TERM pre bet) most (stW ((mkTok 91 o1, p) :: (tr ++ [(mkTok 93 false, p + 1 + (rowW W l).length)]) ++ L) acc) = some ((listT (renL vs l) (aT [91, 93]), 0), stW L (varsL l acc)) := by
      unfold primR
      rw [head_st, drop_st]
      rw [if_neg (by show ¬ ((5 : Nat) = 1 ∨ (5 : Nat) = 2); omega), if_neg (by show ¬ (5 : Nat) = 3; omega), if_neg (by show ¬ (5 : Nat) = 4; omega), if_pos (by rfl)]
      show zeroR (bracketR (TERM pre bet) [91] _) = _
      unfold bracketR
      rw [if_neg (by decide), if_neg (by decide), if_pos rfl, rowR_eq, app_row, List.nil_append, hit]
      simp only
      unfold tailR
      rw [takes_no (by rfl)]
      simp only
      rw [takes_yes]
      rfl
    rw [TERM_some hp]
  | false =>
    obtain ⟨lv, rb, clo, beg, h1, h2, hw⟩ := ht hn
    obtain ⟨hd, tl, g1, g2, g3, g4⟩ := hw.toks (p + 1 + (rowW W l).length + 1)
    rw [if_neg (by simp)]
    rw [show (124 :: W t) ++ [93] = 124 :: (W t ++ [93]) from rfl]
    have hneW := hw.ne
    refine ⟨_, _, pc_mark (hne2 _) (Or.inr (Or.inl ⟨rfl, hopen _⟩)) (pc_comma (Or.inr rfl) (by simp) k1 (pc_close (Or.inr (Or.inl rfl)) g1)), rfl, fun _ => rfl, ?_⟩
    intro acc ha most hmo L hL hc
    rw [vars_list] at ha ⊢
    rw [ren_list]
    generalize openB (rowW W l ++ 124 :: (W t ++ [93])) = o1
    generalize openB (W t ++ [93]) = o2
    generalize p + 1 + (rowW W l).length + 1 + (W t).length = p3
    generalize p + 1 + (rowW W l).length = p2 at *
    have hit := k2 acc ((vars_pre t _).trans ha) ((mkTok 124 o2, p2) :: ((hd :: tl) ++ [(mkTok 93 false, p3)] ++ L)) (end_mark (Or.inr (Or.inr (Or.inr rfl))))
    obtain ⟨m1, m2⟩ := mark_close (pre := pre) (bet := bet) (c := 93) (o := false) (p := p3) (L := L) (Or.inr (Or.inl rfl)) 999
    have hr := g4 (varsL l acc) ha 999 h1 ((mkTok 93 false, p3) :: L) (m1.le h2) (fun _ => m2)
    rw [fol_stop m1] at hr
    have hp : primR pre bet (TERM pre bet) most (stW ((mkTok 91 o1, p) :: (tr ++ (mkTok 124 o2, p2) :: ((hd :: tl) ++ [(mkTok 93 false, p3)])) ++ L) acc) = some ((listT (renL vs l) (renT vs t), 0), stW L (varsT t (varsL l acc))) := by
      unfold primR
      rw [head_st, drop_st]
      rw [if_neg (by show ¬ ((5 : Nat) = 1 ∨ (5 : Nat) = 2); omega), if_neg (by show ¬ (5 : Nat) = 3; omega), if_neg (by show ¬ (5 : Nat) = 4; omega), if_pos (by rfl)]
      show zeroR (bracketR (TERM pre bet) [91] _) = _
      unfold bracketR
      rw [if_neg (by decide), if_neg (by decide), if_pos rfl, rowR_eq, app_row, hit]
      simp only
      unfold tailR
      rw [takes_yes]
      simp only
      rw [app_row, List.nil_append, hr]
      simp only
      rw [takes_yes]
      rfl
    rw [TERM_some hp]
/-- A term in braces. -/
theorem wrt_curly {x : Tm} {lv rb : Int} {clo beg : Bool} {b : List UInt8} {s : ByteArray} (hs : bl s = [123, 125]) (h : Wrt pre bet vs x lv rb clo beg b) (hl : lv ≤ 1200) : Wrt pre bet vs (.mk 2 0 s [x]) 0 (-1) false true (123 :: (b ++ [125])) where
  head := ⟨123, _, rfl, by decide, by decide⟩
  toks := fun p => by
    obtain ⟨hd, tl, h1, h2, h3, h4⟩ := h.toks (p + 1)
    obtain ⟨c, r, e, n1, n2⟩ := h.head
    refine ⟨(mkTok 123 (openB (b ++ [125])), p), (hd :: tl) ++ [(mkTok 125 false, p + 1 + b.length)], ?_, rfl, fun _ => rfl, ?_⟩
    · exact pc_mark (by simp) (Or.inr (Or.inr ⟨rfl, by rw [e]; simpa using n2⟩)) (pc_close (Or.inr (Or.inr rfl)) h1)
    · intro acc ha most hm L hL hc
      rw [varsT, if_neg (by decide), varsL, varsL] at ha ⊢
      rw [renT, if_neg (by decide), renL, renL]
      obtain ⟨g1, g2⟩ := mark_close (pre := pre) (bet := bet) (o := false) (p := p + 1 + b.length) (L := L) (c := 125) (Or.inr (Or.inr (Or.inl rfl))) 1200
      have hr := h4 acc ha 1200 hl ((mkTok 125 false, p + 1 + b.length) :: L) (mark_close (pre := pre) (Or.inr (Or.inr (Or.inl rfl))) rb).1 (fun _ => g2)
      rw [fol_stop g1] at hr
      have hp : primR pre bet (TERM pre bet) most (stW ((mkTok 123 (openB (b ++ [125])), p) :: ((hd :: tl) ++ [(mkTok 125 false, p + 1 + b.length)]) ++ L) acc) = some ((.mk 2 0 s [renT vs x], 0), stW L (varsT x acc)) := by
        unfold primR
        rw [head_st, drop_st]
        rw [if_neg (by show ¬ ((5 : Nat) = 1 ∨ (5 : Nat) = 2); omega), if_neg (by show ¬ (5 : Nat) = 3; omega), if_neg (by show ¬ (5 : Nat) = 4; omega), if_pos (by rfl)]
        show zeroR (bracketR (TERM pre bet) [123] _) = _
        unfold bracketR
        rw [if_neg (by decide), if_pos rfl]
        unfold closedR
        rw [app_row, List.nil_append, hr]
        simp only
        rw [takes_yes]
        simp only
        unfold zeroR
        rw [show ba [123, 125] = s by rw [← hs, ba_bl]]
      rw [TERM_some hp]
/-- By an operator ahead. -/
theorem wrt_ahead (hT : TabW pre bet) {s : ByteArray} {a : Tm} {lv rb : Int} {b : List UInt8} (hm : (bl s).all mayQ = true) (hl : (bl s).length ≤ 64) (ho : (pre (bl s)).2 = true) (hp : plainB (bl s) = true)
    (hlv : lv ≤ (sidesB (bl (pre (bl s)).1.k) (pre (bl s)).1.l).2) (hrb : rb ≤ (sidesB (bl (pre (bl s)).1.k) (pre (bl s)).1.l).2) (h : Wrt pre bet vs a lv rb false true b) :
    Wrt pre bet vs (.mk 2 0 s [a]) (pre (bl s)).1.l (sidesB (bl (pre (bl s)).1.k) (pre (bl s)).1.l).2 false true (quoteB (bl s) ++ 32 :: b) where
  head := name_head hm hl _
  toks := fun p => by
    obtain ⟨hd, tl, g1, g2, g3, g4⟩ := h.toks (p + (quoteB (bl s)).length + 1)
    have hk : nmK (bl s) = 1 := by unfold nmK; rw [if_pos hp]
    have hkk : (nmTok (bl s) false, p).1.kind = 1 := hk
    have hlen : 1 ≤ (quoteB (bl s)).length := by
      obtain ⟨c, r, e, _⟩ := name_next hm hl
      rw [e]; simp
    refine ⟨(nmTok (bl s) false, p), hd :: tl, pc_ahead hm hl g1, rfl, fun _ => ?_, ?_⟩
    · unfold beginsR
      rw [if_pos (by exact Or.inl hkk)]
      show (false || ((pre (bl s)).2 || _)) = true
      rw [ho]; rfl
    · intro acc ha most hmo L hL hc
      rw [varsT, if_neg (by decide), varsL, varsL] at ha ⊢
      rw [renT, if_neg (by decide), renL, renL]
      have hr := g4 acc ha _ hlv L (hL.le hrb) (fun h => by cases h)
      rw [fol_stop hL] at hr
      have hpr : primR pre bet (TERM pre bet) most (stW ((nmTok (bl s) false, p) :: (hd :: tl) ++ L) acc) = some ((.mk 2 0 s [renT vs a], (pre (bl s)).1.l), stW L (varsT a acc)) := by
        unfold primR
        rw [head_st, drop_st, if_pos (by exact Or.inl hkk)]
        unfold namedR
        rw [head_st]
        have hmin : isMinusR (nmTok (bl s) false, p) hd = false := by
          unfold isMinusR
          have : ((hd.2 : Int) == (((nmTok (bl s) false, p) : TokP).2 : Int) + 1) = false := beq_false_of_ne (by
            rw [g2]
            show ((p + (quoteB (bl s)).length + 1 : Nat) : Int) ≠ (p : Int) + 1
            omega)
          rw [this]
          simp
        rw [hmin, if_neg (by simp), if_neg (by show ¬ (false = true); simp), if_neg (by rw [hkk]; decide)]
        have hah : isAheadR pre bet (nmTok (bl s) false, p) most (stW (hd :: tl ++ L) acc) = true := by
          unfold isAheadR
          rw [head_st, g3 rfl]
          show ((pre (bl s)).2 && (decide ((pre (bl s)).1.l ≤ most) && true)) = true
          rw [ho, decide_eq_true hmo]
          rfl
        rw [hah, if_pos rfl]
        show aheadR (TERM pre bet) (bl s) (pre (bl s)).1 _ = _
        unfold aheadR
        rw [hr]
        simp only
        rw [ba_bl]
      rw [TERM_some hpr]
/-- By an operator between. -/
theorem wrt_between (hT : TabW pre bet) {s : ByteArray} {a c : Tm} {lva rba lvc rbc : Int} {ta tc : List UInt8} (hm : (bl s).all mayQ = true) (hl : (bl s).length ≤ 64) (ho : (bet (bl s)).2 = true)
    (hlva : lva ≤ (sidesB (bl (bet (bl s)).1.k) (bet (bl s)).1.l).1) (hlva2 : lva ≤ (bet (bl s)).1.l) (hrba : rba < (bet (bl s)).1.l) (ha : Wrt pre bet vs a lva rba false true ta)
    (hlvc : lvc ≤ (sidesB (bl (bet (bl s)).1.k) (bet (bl s)).1.l).2) (hrbc : rbc ≤ (sidesB (bl (bet (bl s)).1.k) (bet (bl s)).1.l).2) (hc : Wrt pre bet vs c lvc rbc false true tc) :
    Wrt pre bet vs (.mk 2 0 s [a, c]) (bet (bl s)).1.l (sidesB (bl (bet (bl s)).1.k) (bet (bl s)).1.l).2 false true (ta ++ ((if bl s == [44] then [44] else 32 :: (quoteB (bl s) ++ [32])) ++ tc)) := by
  have hb := hT.bet1 _ ho
  obtain ⟨c0, r0, e0, n1, n2⟩ := ha.head
  refine ⟨⟨c0, _, by rw [e0]; rfl, n1, n2⟩, fun p => ?_⟩
  obtain ⟨hd, tl, g1, g2, g3, g4⟩ := ha.toks p
  -- what is read, whatever the operator's token
  have key : ∀ (q hc' : TokP) (tc' : List TokP), opKind q = true → q.1.text = bl s → q.1.kind ≠ 4 → Reads pre bet vs c lvc rbc false (hc' :: tc') → Reads pre bet vs (.mk 2 0 s [a, c]) (bet (bl s)).1.l (sidesB (bl (bet (bl s)).1.k) (bet (bl s)).1.l).2 false ((hd :: tl) ++ q :: (hc' :: tc')) := by
    intro q hc' tc' hq hqt hqk hrc acc hac most hmo L hL hcl
    rw [varsT, if_neg (by decide), varsL, varsL, varsL] at hac ⊢
    rw [renT, if_neg (by decide), renL, renL, renL, app_row]
    have hbq : betweenR bet q = bet (bl s) := by unfold betweenR; rw [if_pos hq, hqt]
    have hfol : FolL bet rba (q :: (hc' :: tc' ++ L)) := ⟨hqk, Or.inr (by show (betweenR bet q).1.l > rba; rw [hbq]; omega)⟩
    have h1 := g4 acc ((vars_pre c _).trans hac) most (by omega) (q :: (hc' :: tc' ++ L)) hfol (fun h => by cases h)
    have h2 := hrc (varsT a acc) hac _ hlvc L (hL.le hrbc) (fun h => by cases h)
    rw [fol_stop hL] at h2
    have hst : ¬ stopR bet most (renT vs a, lva) (stW (q :: (hc' :: tc' ++ L)) (varsT a acc)) := by
      unfold stopR
      rw [show headR (stW (q :: (hc' :: tc' ++ L)) (varsT a acc)) = q from rfl, hbq, ho]
      rintro (h | h | h)
      · cases h
      · omega
      · omega
    have h3 := LOOP_some (pre := pre) hst (by rw [show headR (stW (q :: (hc' :: tc' ++ L)) (varsT a acc)) = q from rfl, hbq]; exact h2)
    rw [show headR (stW (q :: (hc' :: tc' ++ L)) (varsT a acc)) = q from rfl, hbq] at h3
    rw [h1, h3.1]
    have hn : (bet (bl s)).1.n = s := by rw [← ba_bl (bet (bl s)).1.n, hb.1, ba_bl]
    rw [hn]
  by_cases h44 : (bl s == [44]) = true
  · have e44 : bl s = [44] := by simpa using h44
    rw [if_pos h44]
    obtain ⟨hc', tc', k1, k2, k3, k4⟩ := hc.toks (p + ta.length + 1)
    refine ⟨hd, tl ++ (mkTok 44 (openB tc), p + ta.length) :: (hc' :: tc'), ?_, g2, fun _ => g3 rfl, ?_⟩
    · exact pc_comma (Or.inl rfl) hc.ne g1 k1
    · exact key (mkTok 44 (openB tc), p + ta.length) hc' tc' (by show (_ || (_ || ((5 : Nat) == 5 && ([44] : List UInt8) == [44]))) = true; simp) e44.symm (by show (5 : Nat) ≠ 4; omega) k4
  · rw [if_neg h44]
    obtain ⟨hc', tc', k1, k2, k3, k4⟩ := hc.toks (p + ta.length + 1 + (quoteB (bl s)).length + 1)
    refine ⟨hd, tl ++ (nmTok (bl s) false, p + ta.length + 1) :: (hc' :: tc'), ?_, g2, fun _ => g3 rfl, ?_⟩
    · have := pc_between hm hl g1 k1
      rw [show (32 :: (quoteB (bl s) ++ [32])) ++ tc = 32 :: (quoteB (bl s) ++ 32 :: tc) by simp]
      exact this
    · refine key (nmTok (bl s) false, p + ta.length + 1) hc' tc' ?_ rfl ?_ k4
      · show (nmK (bl s) == 1 || (nmK (bl s) == 2 || _)) = true
        rcases nmK_or (bl s) with h | h <;> rw [h] <;> rfl
      · show nmK (bl s) ≠ 4
        rcases nmK_or (bl s) with h | h <;> omega
end
end Go.Proofs.YtobdhcaoeholhaaGreatDoor
/- The project's reader: between. -/
namespace Go.Proofs.YtobdhcaoeholhaaGreatDoor
open Go.RowKit
set_option linter.unusedVariables false

theorem Below.set3 {B : Nat} {w w' : World} (h : Below B w w') {b : Nat} (hb : B ≤ b) (u0 u1 u2 : Value) : Below B w (Go.Proofs.YtobdhcaoeholhaaGreatDoor.set3 w' b u0 u1 u2) :=
  ((h.setCell (p := ⟨b, 0, none⟩) hb _).setCell (p := ⟨b, 1, none⟩) hb _).setCell (p := ⟨b, 2, none⟩) hb _
theorem Below.set4 {B : Nat} {w w' : World} (h : Below B w w') {b : Nat} (hb : B ≤ b) (u0 u1 u2 u3 : Value) : Below B w (Go.Proofs.YtobdhcaoeholhaaGreatDoor.set4 w' b u0 u1 u2 u3) :=
  (Below.set3 h hb u0 u1 u2).setCell (p := ⟨b, 3, none⟩) hb _
theorem far3 {w : World} {b j c : Nat} {v : Value} (h : w.cell? ⟨b, j, none⟩ = some v) (hne : b ≠ c) (u0 u1 u2 : Value) : (set3 w c u0 u1 u2).cell? ⟨b, j, none⟩ = some v := by
  rw [far_cell hne, far_cell hne, far_cell hne]; exact h
theorem far4 {w : World} {b j c : Nat} {v : Value} (h : w.cell? ⟨b, j, none⟩ = some v) (hne : b ≠ c) (u0 u1 u2 u3 : Value) : (set4 w c u0 u1 u2 u3).cell? ⟨b, j, none⟩ = some v := by
  rw [far_cell hne]; exact far3 h hne _ _ _
theorem Ops.bare {D : Nat → Bool} {w : World} {v : Value} {xs : List O} (h : Ops (hide D w) v xs) : Ops w v xs := Elems.stay h (Stays.unhide D w)
set_option maxHeartbeats 2000000 in
theorem between_yes {D M : Nat → Bool} {w : World} {rb : Nat} {xs : List O} {s : RS} (h : St D M w rb xs s) (q : TokP) (hq : headR s = q) (ho : opKind q = true) :
    Calls Tryz.prog 109 #[.pointer (some ⟨rb, 0, none⟩)] w fun e w' => e = .returned (.tuple #[oVal (oneB xs q.1.text 2).1, .bool (oneB xs q.1.text 2).2]) ∧ Below w.heap.size w w' := by
  have HN := Lib.hid (fun wq hq => next_at (h.later (w' := wq) hq))
  rw [hq] at HN
  have HI := Lib.hid (fun wq (hb : Below w.heap.size w wq) (v : Value) (hv : Ops wq v xs) => in_walk hv ⟨q.1.text.toArray⟩)
  obtain ⟨⟨⟨yn, yk, yl⟩, yg⟩, hy⟩ : ∃ y, oneB xs q.1.text 2 = y := ⟨_, rfl⟩
  rw [show bl (⟨q.1.text.toArray⟩ : ByteArray) = q.1.text from rfl, hy] at HI
  rw [hy]
  obtain ⟨w1, hw1, hb1, hz1, hx1⟩ := box_new w #[.string ⟨#[]⟩, .string ⟨#[]⟩, .int .i64 0] 33
  have H := Lib.hid h
  have hlt := h.lt
  have HK := Lib.hid ho
  clear h hq hy ho
  go_enter Tryz.func109, Tryz.ntmps109
  go_wp2_with fail
  (try rw [hw1])
  clear hw1
  (go_wp2_with fail; go_fit (HN.out _ hb1); rintro e w2 ⟨rfl, hb2⟩)
  obtain ⟨w3, hw3, hb3, hz3, hx3⟩ := box_new w2 #[.int .i64 (q.1.kind : Int), .string ⟨q.1.text.toArray⟩, .int .i64 (q.1.n : Int), .bool q.1.opens, .int .i64 (q.2 : Int)] 52
  obtain ⟨r0, r1, r2, rf⟩ := ((hx1.ext hb2).ext hb3).three
  obtain ⟨d0, d1, d2, d3, d4, df⟩ := hx3.five
  have HB3 := Lib.hid (Ext.trans' (Ext.trans' hb1 hb2) hb3)
  obtain ⟨vo, _, _, p0, _, _, _, _, po, _⟩ := (H.out.later HB3.out).parts
  have PO := Lib.hid po.bare
  have hsz := hb2.size
  have hne : rb ≠ w.heap.size := by omega
  have hne2 : rb ≠ w2.heap.size := by omega
  have hne3 : w2.heap.size ≠ w.heap.size := by omega
  have HX := Lib.hid ((hx1.ext hb2).ext hb3)
  clear hb1 hb2 hb3 HN hx1 hx3 po
  have hk : ((q.1.kind : Int) == 1) = true ∨ (((q.1.kind : Int) == 1) = false ∧ ((q.1.kind : Int) == 2) = true) ∨ (((q.1.kind : Int) == 1) = false ∧ ((q.1.kind : Int) == 2) = false ∧ ((q.1.kind : Int) == 5) = true ∧ (q.1.text == [44]) = true) := by
    have hk := HK.out
    unfold opKind isMark at hk
    by_cases h1 : q.1.kind = 1
    · left; rw [h1]; rfl
    by_cases h2 : q.1.kind = 2
    · right; left; rw [h2]; exact ⟨rfl, rfl⟩
    by_cases h5 : q.1.kind = 5
    · right; right; rw [h5]; rw [h5] at hk; simpa using hk
    · simp [h1, h2, h5] at hk
  rcases hk with hk1 | ⟨hk1, hk2⟩ | ⟨hk1, hk2, hk5, hkt⟩
  all_goals
    go_wp2_with fail
    (try rw [hw3])
    clear hw3
    go_wp2_with fail
    refine wp_region_held_drew (S := fun w' => w'.cell? ⟨rb, 0, none⟩ = some vo ∧ w'.cell? ⟨w2.heap.size, 1, none⟩ = some (.string ⟨q.1.text.toArray⟩)) (by kernel_rfl) (⟨p0, d1⟩) (fun hHeld => ?_)
    first | (refine held_t (i := 0) hHeld ?_; apply Exists.intro; refine ⟨fun wq hq => ?_, ?_⟩; (focus ((try dsimp only at hq); go_simp; (first | done | with_reducible rfl | fail)))) | refine held_s (i := 0) hHeld ?_ | fail
    first | (refine held_t (i := 1) hHeld ?_; apply Exists.intro; refine ⟨fun wq hq => ?_, ?_⟩; (focus ((try dsimp only at hq); go_simp; (first | done | with_reducible rfl | fail)))) | refine held_s (i := 1) hHeld ?_ | fail
    first | (refine held_t (i := 2) hHeld ?_; apply Exists.intro; refine ⟨fun wq hq => ?_, ?_⟩; (focus ((try dsimp only at hq); go_simp; (first | done | with_reducible rfl | fail)))) | refine held_s (i := 2) hHeld ?_ | fail
    first | (refine held_t (i := 3) hHeld ?_; apply Exists.intro; refine ⟨fun wq hq => ?_, ?_⟩; (focus ((try dsimp only at hq); go_simp; (first | done | with_reducible rfl | fail)))) | refine held_s (i := 3) hHeld ?_ | fail
    first | (refine held_t (i := 4) hHeld ?_; apply Exists.intro; refine ⟨fun wq hq => ?_, ?_⟩; (focus ((try dsimp only at hq); go_simp; (first | done | with_reducible rfl | fail)))) | refine held_s (i := 4) hHeld ?_ | fail
    first | (refine held_t (i := 5) hHeld ?_; apply Exists.intro; refine ⟨fun wq hq => ?_, ?_⟩; (focus ((try dsimp only at hq); go_simp; (first | done | with_reducible rfl | fail)))) | refine held_s (i := 5) hHeld ?_ | fail
    try simp only [Act.put, List.setIfInBounds_toArray, List.set_cons_zero, List.set_cons_succ]
    refine held_c 6 fun K hK => ?_
    go_simp
    (go_at_call 37; refine (HI.out _ (Ext.trans' HB3.out (Below.refl _ _).drew) _ (PO.out.ext (Below.refl _ _).drew)).mono ?_; rintro e w4 ⟨rfl, hb4⟩; obtain ⟨e0, e1, e2, ef⟩ := ((HX.out.ext (Below.refl _ _).drew).ext hb4).three; have HB4 := Lib.hid (Ext.trans' (Ext.trans' HB3.out (Below.refl _ _).drew) hb4))
    refine hK.out _ _ (⟨cell_later hb4 hHeld.1, cell_later hb4 hHeld.2⟩) (fun hHeld => ?_)
    clear hK K
    try simp only [Act.put, List.setIfInBounds_toArray, List.set_cons_zero, List.set_cons_succ]
    first | (refine held_t (i := 7) hHeld ?_; apply Exists.intro; refine ⟨fun wq hq => ?_, ?_⟩; (focus ((try dsimp only at hq); go_simp; (first | done | with_reducible rfl | fail)))) | refine held_s (i := 7) hHeld ?_ | fail
    first | (refine held_t (i := 8) hHeld ?_; apply Exists.intro; refine ⟨fun wq hq => ?_, ?_⟩; (focus ((try dsimp only at hq); go_simp; (first | done | with_reducible rfl | fail)))) | refine held_s (i := 8) hHeld ?_ | fail
    try simp only [Act.put, List.setIfInBounds_toArray, List.set_cons_zero, List.set_cons_succ]
    refine held_c 9 fun K hK => ?_
    go_simp
    skip
    refine hK.out _ _ (⟨far3 hHeld.1 hne _ _ _, far3 hHeld.2 hne3 _ _ _⟩) (fun hHeld => ?_)
    clear hK K
    try simp only [Act.put, List.setIfInBounds_toArray, List.set_cons_zero, List.set_cons_succ]
    first | (refine held_t (i := 10) hHeld ?_; apply Exists.intro; refine ⟨fun wq hq => ?_, ?_⟩; (focus ((try dsimp only at hq); go_simp; (first | done | with_reducible rfl | fail)))) | refine held_s (i := 10) hHeld ?_ | fail
    try simp only [Act.put, List.setIfInBounds_toArray, List.set_cons_zero, List.set_cons_succ]
    refine wpAnyH_done (by kernel_rfl) ?_ _
    go_wp2
    refine bodyPost_ret (v := .tuple #[.agg #[.string yn, .string yk, .int .i64 yl], .bool yg]) (by rw [results_cell_tmp rfl]; go_simp) rfl ⟨rfl, Below.set3 HB4.out (Nat.le_refl _) _ _ _⟩
set_option maxHeartbeats 1000000 in
theorem between_no {D M : Nat → Bool} {w : World} {rb : Nat} {xs : List O} {s : RS} (h : St D M w rb xs s) (q : TokP) (hq : headR s = q) (ho : opKind q = false) :
    Calls Tryz.prog 109 #[.pointer (some ⟨rb, 0, none⟩)] w fun e w' => e = .returned (.tuple #[.agg #[.string ⟨#[]⟩, .string ⟨#[]⟩, .int .i64 0], .bool false]) ∧ Below w.heap.size w w' := by
  have HN := Lib.hid (fun wq hq => next_at (h.later (w' := wq) hq))
  rw [hq] at HN
  obtain ⟨w1, hw1, hb1, hz1, hx1⟩ := box_new w #[.string ⟨#[]⟩, .string ⟨#[]⟩, .int .i64 0] 33
  have HK := Lib.hid ho
  clear h hq ho
  go_enter Tryz.func109, Tryz.ntmps109
  go_wp2_with fail
  (try rw [hw1])
  clear hw1
  (go_wp2_with fail; go_fit (HN.out _ hb1); rintro e w2 ⟨rfl, hb2⟩)
  obtain ⟨w3, hw3, hb3, hz3, hx3⟩ := box_new w2 #[.int .i64 (q.1.kind : Int), .string ⟨q.1.text.toArray⟩, .int .i64 (q.1.n : Int), .bool q.1.opens, .int .i64 (q.2 : Int)] 52
  obtain ⟨r0, r1, r2, rf⟩ := ((hx1.ext hb2).ext hb3).three
  obtain ⟨d0, d1, d2, d3, d4, df⟩ := hx3.five
  have HB3 := Lib.hid (Ext.trans' (Ext.trans' hb1 hb2) hb3)
  clear hb1 hb2 hb3 HN hx1 hx3
  have hk : ((q.1.kind : Int) == 1) = false ∧ ((q.1.kind : Int) == 2) = false ∧ (((q.1.kind : Int) == 5) = false ∨ (((q.1.kind : Int) == 5) = true ∧ (q.1.text == [44]) = false)) := by
    have hk := HK.out
    unfold opKind isMark at hk
    simp only [Bool.or_eq_false_iff, Bool.and_eq_false_iff, beq_eq_false_iff_ne] at hk
    obtain ⟨h1, h2, h3⟩ := hk
    refine ⟨beq_false_of_ne (by omega), beq_false_of_ne (by omega), ?_⟩
    by_cases h5 : q.1.kind = 5
    · right
      rcases h3 with h3 | h3
      · exact absurd h5 h3
      · exact ⟨by rw [h5]; rfl, beq_false_of_ne h3⟩
    · left; exact beq_false_of_ne (by omega)
  obtain ⟨hk1, hk2, hk5 | ⟨hk5, hkt⟩⟩ := hk
  all_goals
    go_wp2_with fail
    (try rw [hw3])
    clear hw3
    go_wp2
    refine bodyPost_ret (v := .tuple #[.agg #[.string ⟨#[]⟩, .string ⟨#[]⟩, .int .i64 0], .bool false]) (by rw [results_cell_tmp rfl]; go_simp) rfl ⟨rfl, Below.set3 HB3.out (Nat.le_refl _) _ _ _⟩
theorem between_at {D M : Nat → Bool} {w : World} {rb : Nat} {xs : List O} {s : RS} (h : St D M w rb xs s) :
    Calls Tryz.prog 109 #[.pointer (some ⟨rb, 0, none⟩)] w fun e w' => e = .returned (.tuple #[oVal (betweenR (betO xs) (headR s)).1, .bool (betweenR (betO xs) (headR s)).2]) ∧ Below w.heap.size w w' := by
  unfold betweenR
  cases ho : opKind (headR s) with
  | true => exact between_yes h _ rfl ho
  | false => exact between_no h _ rfl ho
end Go.Proofs.YtobdhcaoeholhaaGreatDoor
