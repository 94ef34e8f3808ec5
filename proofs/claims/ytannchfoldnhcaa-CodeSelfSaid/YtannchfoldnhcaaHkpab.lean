import Derived.Test.YtannchfoldnhcaaHkpaa
import Derived.WalkKit
import Derived.WalkSpells
import Derived.WalkLawsBesides
import Derived.Lib.Hide
import Derived.ProofKit
import Derived.OpenShut
import Derived.SizedLaws
import Derived.SliceStrings
import Derived.Carry
import Derived.Stop.Joined
import Derived.Deep.Slices
set_option linter.unusedVariables false
set_option linter.unusedSimpArgs false
/- Chapter 15, what steps may be; a head's steps may be. Nothing here is walked. -/
namespace Go.Proofs.Ytannchfoldnhcaa
set_option linter.unusedVariables false

def nmOk (s : ByteArray) : Bool := plainT 2 0 s.data.toList 0
def noS (s : ByteArray) : Bool := s.data.toList.isEmpty
/-- A step of the i-th register that may be, next being the first register that nobody has, these slots having been met. -/
def insOk (sl : Int) (i next : Nat) (seen : List Int) (x : InsM) : Bool :=
  x.a == (i : Int) && (if x.op = opVar then decide (0 ≤ x.b) && decide (x.b < sl) && !seen.contains x.b && x.c == 0 && x.n == 0 && noS x.s
    else if x.op = opVal then seen.contains x.b && x.c == 0 && x.n == 0 && noS x.s
    else if x.op = opInt then x.b == 0 && x.c == 0 && noS x.s
    else if x.op = opAtom then x.b == 0 && x.c == 0 && x.n == 0 && nmOk x.s
    else if x.op = opComp then decide (1 ≤ x.b) && decide (x.b ≤ 8) && x.c == (next : Int) && x.n == 0 && nmOk x.s
    else false)
def goC (sl : Int) : List InsM → Nat → Nat → List Int → Option (Nat × List Int)
  | [], _, next, seen => some (next, seen)
  | x :: r, i, next, seen => if insOk sl i next seen x = true then goC sl r (i + 1) (if x.op = opComp then next + x.b.toNat else next) (if x.op = opVar then seen ++ [x.b] else seen) else none
def goodC (c : CodeM) : Bool := decide (0 ≤ c.ar) && decide (c.ar ≤ 8) && decide (c.rg ≤ 2000) && ((c.l.length : Nat) : Int) == c.rg && (match goC c.sl c.l 0 c.ar.toNat [] with
  | some (next, seen) => ((next : Nat) : Int) == c.rg && ((seen.length : Nat) : Int) == c.sl
  | none => false)
/-- The variables met, all the way. -/
def seenF : Nat → List Tm → List Int → List Int
  | 0, _, seen => seen
  | _ + 1, [], seen => seen
  | K + 1, t :: q, seen => seenF K (q ++ t.args) (seenI seen t)
theorem mem_seenI {seen : List Int} {t : Tm} {n : Int} : n ∈ seenI seen t ↔ n ∈ seen ∨ (t.k = 0 ∧ n = t.n) := by
  unfold seenI
  by_cases h0 : t.k = 0
  · rw [if_pos h0]
    by_cases hc : seen.contains t.n = true
    · rw [if_pos hc]
      exact ⟨Or.inl, fun h => h.elim id (fun h => by rw [h.2]; simpa using hc)⟩
    · rw [if_neg hc, List.mem_append, List.mem_singleton]
      exact ⟨fun h => h.imp id (fun h => ⟨h0, h⟩), fun h => h.imp id (fun h => h.2)⟩
  · rw [if_neg h0]
    exact ⟨Or.inl, fun h => h.elim id (fun h => absurd h.1 h0)⟩
theorem nodup_seenI {seen : List Int} {t : Tm} (h : seen.Nodup) : (seenI seen t).Nodup := by
  unfold seenI
  by_cases h0 : t.k = 0
  · rw [if_pos h0]
    by_cases hc : seen.contains t.n = true
    · rw [if_pos hc]; exact h
    · rw [if_neg hc]
      have hm : t.n ∉ seen := fun hm => hc (by simpa using hm)
      exact List.nodup_append.2 ⟨h, by simp, fun a ha b hb => by simp at hb; subst hb; exact fun e => hm (e ▸ ha)⟩
  · rw [if_neg h0]; exact h
theorem occL_app : ∀ a b : List Tm, occL (a ++ b) = occL a ++ occL b
  | [], b => by rw [List.nil_append, occL, List.nil_append]
  | x :: r, b => by rw [List.cons_append, occL, occL, occL_app r b, List.append_assoc]
theorem occ_kids {t : Tm} (h : formedT t = true) {n : Int} : n ∈ occT t ↔ (t.k = 0 ∧ n = t.n) ∨ n ∈ occL t.args := by
  rcases formed_kids h with ⟨h0, e⟩ | ⟨h1, e⟩ | ⟨h2, e⟩
  · rw [e]
    unfold varV
    rw [occ_var]
    simp [Tm.k, Tm.n, Tm.args, occL]
  · have : occT t = occL t.args := by rw [e, occ_not (by decide)]; rfl
    rw [this]
    exact ⟨Or.inr, fun h => h.elim (fun h => by omega) id⟩
  · have : occT t = occL t.args := by
      have h3 : occT (nameT t.s t.args) = occL t.args := by unfold nameT; rw [occ_not (by decide)]
      rw [← e] at h3
      exact h3
    rw [this]
    exact ⟨Or.inr, fun h => h.elim (fun h => by omega) id⟩
theorem seenF_mem : ∀ (K : Nat) (q : List Tm) (seen : List Int) (n : Int), sizesN q ≤ K → formedL q = true → (n ∈ seenF K q seen ↔ n ∈ seen ∨ n ∈ occL q)
  | 0, q, seen, n, h, hf => by
    cases q with
    | nil => rw [seenF, occL]; simp
    | cons t q => rw [sizesN] at h; have := size_pos t; omega
  | K + 1, [], seen, n, h, hf => by rw [seenF, occL]; simp
  | K + 1, t :: q, seen, n, h, hf => by
    have hk := size_kids t
    rw [sizesN] at h
    rw [formedL, Bool.and_eq_true] at hf
    rw [seenF, seenF_mem K _ _ n (by rw [sizes_app]; omega) (by rw [formedL_app, hf.2, formed_argsL hf.1]; rfl), mem_seenI, occL_app, List.mem_append, occL, List.mem_append, occ_kids hf.1]
    constructor
    · rintro ((h | h) | h | h)
      · exact Or.inl h
      · exact Or.inr (Or.inl (Or.inl h))
      · exact Or.inr (Or.inr h)
      · exact Or.inr (Or.inl (Or.inr h))
    · rintro (h | (h | h) | h)
      · exact Or.inl (Or.inl h)
      · exact Or.inl (Or.inr h)
      · exact Or.inr (Or.inr h)
      · exact Or.inr (Or.inl h)
theorem seenF_nodup : ∀ (K : Nat) (q : List Tm) (seen : List Int), seen.Nodup → (seenF K q seen).Nodup
  | 0, q, seen, h => by rw [seenF]; exact h
  | K + 1, [], seen, h => by rw [seenF]; exact h
  | K + 1, t :: q, seen, h => by rw [seenF]; exact seenF_nodup K _ _ (nodup_seenI h)
theorem pos_inj {l : List Int} {x y : Int} (hx : x ∈ l) (hy : y ∈ l) (h : posI l x = posI l y) : x = y := by
  have h1 := pos_at hx
  have h2 := pos_at hy
  rw [h, h2] at h1
  injection h1 with h1
  exact h1.symm
def slotI (vs : List Int) (n : Int) : Int := (posI vs n : Nat)
theorem slot_contains {vs seen : List Int} (hs : ∀ x ∈ seen, x ∈ vs) {n : Int} (hn : n ∈ vs) : (seen.map (slotI vs)).contains (slotI vs n) = seen.contains n := by
  rw [Bool.eq_iff_iff]
  simp only [List.contains_iff_mem, List.mem_map]
  constructor
  · rintro ⟨x, hx, e⟩
    have : x = n := pos_inj (hs x hx) hn (by unfold slotI at e; omega)
    rw [← this]; exact hx
  · intro h; exact ⟨n, h, rfl⟩
theorem plain_kids {t : Tm} (h : formedT t = true) (hk : t.k = 2) : nmOk t.s = true ∧ t.args.length ≤ 8 := by
  obtain ⟨k, n, s, ts⟩ := t
  obtain rfl : k = 2 := hk
  rw [formedT, Bool.and_eq_true] at h
  have hp := h.1
  unfold plainT at hp
  rw [if_neg (by decide), if_neg (by decide), if_pos rfl] at hp
  simp only [Bool.and_eq_true, decide_eq_true_eq] at hp
  refine ⟨?_, hp.1.2⟩
  show plainT 2 0 s.data.toList 0 = true
  unfold plainT
  rw [if_neg (by decide), if_neg (by decide), if_pos rfl]
  simp only [Bool.and_eq_true, decide_eq_true_eq]
  exact ⟨⟨⟨trivial, hp.1.1.2⟩, by omega⟩, hp.2⟩
/-- A head's steps go through. -/
theorem go_flat (vs : List Int) : ∀ (K : Nat) (q : List Tm) (i next : Nat) (seen : List Int), sizesN q ≤ K → next = i + q.length → formedL q = true → (∀ n ∈ occL q, n ∈ vs) → (∀ n ∈ seen, n ∈ vs) →
    goC (vs.length : Nat) (flatI vs K q i next seen) i next (seen.map (slotI vs)) = some (i + sizesN q, (seenF K q seen).map (slotI vs))
  | 0, q, i, next, seen, h, hn, hf, ho, hs => by
    cases q with
    | nil => rw [flatI, goC, seenF, sizesN, hn]; rfl
    | cons t q => rw [sizesN] at h; have := size_pos t; omega
  | K + 1, [], i, next, seen, h, hn, hf, ho, hs => by rw [flatI, goC, seenF, sizesN, hn]; rfl
  | K + 1, t :: q, i, next, seen, h, hn, hf, ho, hs => by
    have hk := size_kids t
    rw [sizesN] at h
    rw [formedL, Bool.and_eq_true] at hf
    have hoc : ∀ n, n ∈ occT t ∨ n ∈ occL q → n ∈ vs := fun n h => ho n (by rw [occL, List.mem_append]; exact h)
    have ih := go_flat vs K (q ++ t.args) (i + 1) (next + t.args.length) (seenI seen t) (by rw [sizes_app]; omega) (by rw [hn, List.length_cons, List.length_append]; omega) (by rw [formedL_app, hf.2, formed_argsL hf.1]; rfl)
      (fun n h => by
        rw [occL_app, List.mem_append] at h
        rcases h with h | h
        · exact hoc n (Or.inr h)
        · exact hoc n (Or.inl ((occ_kids hf.1).2 (Or.inr h))))
      (fun n h => by
        rcases mem_seenI.1 h with h | h
        · exact hs n h
        · exact hoc n (Or.inl ((occ_kids hf.1).2 (Or.inl h))))
    have hsum : i + 1 + sizesN (q ++ t.args) = i + sizesN (t :: q) := by rw [sizes_app, sizesN]; omega
    rw [hsum] at ih
    rw [flatI, goC, seenF]
    rcases formed_kids hf.1 with ⟨h0, e⟩ | ⟨h1, e⟩ | ⟨h2, e⟩
    · have hv : t.n ∈ vs := hoc _ (Or.inl ((occ_kids hf.1).2 (Or.inl ⟨h0, rfl⟩)))
      have hlt : slotI vs t.n < (vs.length : Nat) := by have := pos_lt hv; unfold slotI; omega
      have hge : 0 ≤ slotI vs t.n := by unfold slotI; omega
      have hal : t.args.length = 0 := by rw [e]; rfl
      rw [hal, Nat.add_zero] at ih
      by_cases hc : seen.contains t.n = true
      · have hst : stepI vs seen i next t = ⟨opVal, i, slotI vs t.n, 0, 0, ⟨#[]⟩⟩ := by unfold stepI; rw [if_pos h0, if_pos hc]; rfl
        have hok : insOk (vs.length : Nat) i next (seen.map (slotI vs)) ⟨opVal, i, slotI vs t.n, 0, 0, ⟨#[]⟩⟩ = true := by
          show ((i : Int) == (i : Int) && (if opVal = opVar then _ else if opVal = opVal then ((seen.map (slotI vs)).contains (slotI vs t.n) && (0 : Int) == 0 && (0 : Int) == 0 && noS ⟨#[]⟩) else _)) = true
          rw [if_neg (by decide), if_pos rfl, slot_contains hs hv, hc]
          simp [noS]
        rw [hst, if_pos hok]
        show goC _ _ (i + 1) (if opVal = opComp then _ else next) (if opVal = opVar then _ else _) = _
        rw [if_neg (by decide), if_neg (by decide), hal, Nat.add_zero]
        have hsi : seenI seen t = seen := by unfold seenI; rw [if_pos h0, if_pos hc]
        rw [hsi] at ih ⊢
        exact ih
      · have hcf : seen.contains t.n = false := by simpa using hc
        have hst : stepI vs seen i next t = ⟨opVar, i, slotI vs t.n, 0, 0, ⟨#[]⟩⟩ := by unfold stepI; rw [if_pos h0, if_neg hc]; rfl
        have hok : insOk (vs.length : Nat) i next (seen.map (slotI vs)) ⟨opVar, i, slotI vs t.n, 0, 0, ⟨#[]⟩⟩ = true := by
          show ((i : Int) == (i : Int) && (if opVar = opVar then (decide (0 ≤ slotI vs t.n) && decide (slotI vs t.n < (vs.length : Nat)) && !(seen.map (slotI vs)).contains (slotI vs t.n) && (0 : Int) == 0 && (0 : Int) == 0 && noS ⟨#[]⟩) else _)) = true
          rw [if_pos rfl, slot_contains hs hv, hcf]
          simp [noS, hge, hlt]
        rw [hst, if_pos hok]
        show goC _ _ (i + 1) (if opVar = opComp then _ else next) (if opVar = opVar then _ else _) = _
        rw [if_neg (by decide), if_pos rfl, hal, Nat.add_zero]
        have hsi : seenI seen t = seen ++ [t.n] := by unfold seenI; rw [if_pos h0, if_neg hc]
        rw [hsi] at ih ⊢
        rw [List.map_append] at ih
        exact ih
    · have k0 : ¬ t.k = 0 := by rw [h1]; decide
      have hal : t.args.length = 0 := by rw [e]; rfl
      rw [hal, Nat.add_zero] at ih
      have hst : stepI vs seen i next t = ⟨opInt, i, 0, 0, t.n, ⟨#[]⟩⟩ := by unfold stepI; rw [if_neg k0, if_pos h1]
      have hok : insOk (vs.length : Nat) i next (seen.map (slotI vs)) ⟨opInt, i, 0, 0, t.n, ⟨#[]⟩⟩ = true := by
        show ((i : Int) == (i : Int) && (if opInt = opVar then _ else if opInt = opVal then _ else if opInt = opInt then ((0 : Int) == 0 && (0 : Int) == 0 && noS ⟨#[]⟩) else _)) = true
        rw [if_neg (by decide), if_neg (by decide), if_pos rfl]
        simp [noS]
      rw [hst, if_pos hok]
      show goC _ _ (i + 1) (if opInt = opComp then _ else next) (if opInt = opVar then _ else _) = _
      rw [if_neg (by decide), if_neg (by decide), hal, Nat.add_zero]
      have hsi : seenI seen t = seen := by unfold seenI; rw [if_neg k0]
      rw [hsi] at ih ⊢
      exact ih
    · have k0 : ¬ t.k = 0 := by rw [h2]; decide
      have k1 : ¬ t.k = 1 := by rw [h2]; decide
      have hsi : seenI seen t = seen := by unfold seenI; rw [if_neg k0]
      obtain ⟨hnm, h8⟩ := plain_kids hf.1 h2
      rw [hsi] at ih ⊢
      by_cases ha : t.args.length = 0
      · have hst : stepI vs seen i next t = ⟨opAtom, i, 0, 0, 0, t.s⟩ := by unfold stepI; rw [if_neg k0, if_neg k1, if_pos ha]
        have hok : insOk (vs.length : Nat) i next (seen.map (slotI vs)) ⟨opAtom, i, 0, 0, 0, t.s⟩ = true := by
          show ((i : Int) == (i : Int) && (if opAtom = opVar then _ else if opAtom = opVal then _ else if opAtom = opInt then _ else if opAtom = opAtom then ((0 : Int) == 0 && (0 : Int) == 0 && (0 : Int) == 0 && nmOk t.s) else _)) = true
          rw [if_neg (by decide), if_neg (by decide), if_neg (by decide), if_pos rfl, hnm]
          simp
        rw [ha, Nat.add_zero] at ih
        rw [hst, if_pos hok]
        show goC _ _ (i + 1) (if opAtom = opComp then _ else next) (if opAtom = opVar then _ else _) = _
        rw [if_neg (by decide), if_neg (by decide), ha, Nat.add_zero]
        exact ih
      · have hst : stepI vs seen i next t = ⟨opComp, i, (t.args.length : Nat), (next : Nat), 0, t.s⟩ := by unfold stepI; rw [if_neg k0, if_neg k1, if_neg ha]
        have hok : insOk (vs.length : Nat) i next (seen.map (slotI vs)) ⟨opComp, i, (t.args.length : Nat), (next : Nat), 0, t.s⟩ = true := by
          show ((i : Int) == (i : Int) && (if opComp = opVar then _ else if opComp = opVal then _ else if opComp = opInt then _ else if opComp = opAtom then _ else if opComp = opComp then (decide ((1 : Int) ≤ (t.args.length : Nat)) && decide (((t.args.length : Nat) : Int) ≤ 8) && ((next : Nat) : Int) == (next : Int) && (0 : Int) == 0 && nmOk t.s) else false)) = true
          rw [if_neg (by decide), if_neg (by decide), if_neg (by decide), if_neg (by decide), if_pos rfl, hnm]
          have h1 : (1 : Int) ≤ (t.args.length : Nat) := by omega
          have h3 : ((t.args.length : Nat) : Int) ≤ 8 := by omega
          simp only [decide_eq_true h1, decide_eq_true h3]
          simp
        rw [hst, if_pos hok]
        show goC _ _ (i + 1) (if opComp = opComp then next + ((t.args.length : Nat) : Int).toNat else next) (if opComp = opVar then _ else _) = _
        rw [if_pos rfl, if_neg (by decide), Int.toNat_natCast]
        exact ih
theorem head_good {t : Tm} (hg : goodT t = true) (hk : t.k = 2) : goodC (headC t) = true := by
  obtain ⟨g1, _, hf⟩ := good_parts hg
  obtain ⟨_, h8⟩ := plain_kids hf hk
  have hsz := size_kids t
  have hlen : (flatI (varsT t []) (sizesN t.args) t.args 0 t.args.length []).length = sizesN t.args := cflat_size _ _ _ _ _ _ (Nat.le_refl _)
  have hocc : ∀ n, n ∈ occL t.args ↔ n ∈ varsT t [] := fun n => by
    rw [mem_vars2, occ_kids hf]
    constructor
    · exact fun h => Or.inr (Or.inr h)
    · rintro (h | h | h)
      · cases h
      · omega
      · exact h
  have hgo := go_flat (varsT t []) (sizesN t.args) t.args 0 t.args.length [] (Nat.le_refl _) (by omega) (formed_argsL hf) (fun n h => (hocc n).1 h) (fun n h => by cases h)
  have hperm : (seenF (sizesN t.args) t.args []).Perm (varsT t []) := by
    rw [List.perm_ext_iff_of_nodup (seenF_nodup _ _ _ List.nodup_nil) (vars_nodup t [] List.nodup_nil)]
    intro n
    rw [seenF_mem _ _ _ n (Nat.le_refl _) (formed_argsL hf), ← hocc n]
    simp
  have hl := hperm.length_eq
  show (decide (0 ≤ ((t.args.length : Nat) : Int)) && decide (((t.args.length : Nat) : Int) ≤ 8) && decide (((sizesN t.args : Nat) : Int) ≤ 2000) && (((flatI (varsT t []) (sizesN t.args) t.args 0 t.args.length []).length : Nat) : Int) == ((sizesN t.args : Nat) : Int) &&
    (match goC ((varsT t []).length : Nat) (flatI (varsT t []) (sizesN t.args) t.args 0 t.args.length []) 0 ((t.args.length : Nat) : Int).toNat [] with
      | some (next, seen) => ((next : Nat) : Int) == ((sizesN t.args : Nat) : Int) && ((seen.length : Nat) : Int) == (((varsT t []).length : Nat) : Int)
      | none => false)) = true
  rw [List.map_nil] at hgo
  rw [Int.toNat_natCast, hgo, hlen]
  have a1 : (0 : Int) ≤ (t.args.length : Nat) := by omega
  have a2 : ((t.args.length : Nat) : Int) ≤ 8 := by omega
  have a3 : ((sizesN t.args : Nat) : Int) ≤ 2000 := by omega
  simp only [decide_eq_true a1, decide_eq_true a2, decide_eq_true a3, List.length_map, hl, Nat.zero_add]
  simp
end Go.Proofs.Ytannchfoldnhcaa
/- Chapter 15, what Match leaves, beside what making alike leaves. Nothing here is walked. -/
namespace Go.Proofs.Ytannchfoldnhcaa
set_option linter.unusedVariables false

/-- What the slots are, all the way in. -/
def slotA (S : List (Int × Tm)) (sl : List Tm) : Int → Tm := fun v => subT (fullB S) ((sl[v.toNat]?).getD (varV v))
/-- Match is done: of N variables there were there are N' now; the args are made alike with the head's Args, of which these terms are the variables; no more is done than is wanted. -/
structure MYes (S0 : List (Int × Tm)) (N : Nat) (args hargs : List Tm) (K N' : Nat) (S : List (Int × Tm)) (sl : List Tm) : Prop where
  len : sl.length = K
  le : N ≤ N'
  oks : OkS N' S
  resp : Resp N (fullB S) (fullB S0)
  inn : ∀ x ∈ sl, InN N' x
  made : subL (fullB S) args = subL (slotA S sl) hargs
  most : ∀ A ρ : Int → Tm, Resp N A (fullB S0) → subL A args = subL ρ hargs → ∃ A', (∀ m : Int, 0 ≤ m → m < N → A' m = A m) ∧ Resp N' A' (fullB S) ∧ ∀ (i : Nat) (x : Tm), sl[i]? = some x → subT A' x = ρ i
/-- It can't be. -/
def MNo (S0 : List (Int × Tm)) (N : Nat) (args hargs : List Tm) : Prop := ∀ A ρ : Int → Tm, Resp N A (fullB S0) → ¬ subL A args = subL ρ hargs
theorem resp_nil (N : Nat) (A : Int → Tm) : Resp N A (fullB []) := fun m _ _ => by rw [fullB, sub_varV]
def InNs (N : Nat) (ts : List Tm) : Prop := ∀ x ∈ ts, InN N x
theorem InNs.occ {N : Nat} {ts : List Tm} (h : InNs N ts) : ∀ m ∈ occL ts, 0 ≤ m ∧ m < (N : Int) := by
  induction ts with
  | nil => intro m hm; rw [occL] at hm; cases hm
  | cons x r ih =>
    intro m hm
    rw [occL, List.mem_append] at hm
    rcases hm with hm | hm
    · exact (h x (by simp)).2 m hm
    · exact ih (fun y hy => h y (by simp [hy])) m hm
theorem name_inj {s s' : ByteArray} {a b : List Tm} (h : nameT s a = nameT s' b) : a = b := by
  unfold nameT at h
  injection h
theorem sub_nameL (A : Int → Tm) (s : ByteArray) (ts : List Tm) : subT A (nameT s ts) = nameT s (subL A ts) := by rw [sub_name, subL_map]
theorem subs_args {σ τ : Int → Tm} : ∀ (ts : List Tm), formedL ts = true → subL σ ts = subL τ ts → ∀ m ∈ occL ts, σ m = τ m := by
  have key : ∀ (M : Nat) (t : Tm), sizeN t ≤ M → formedT t = true → subT σ t = subT τ t → ∀ m ∈ occT t, σ m = τ m := by
    intro M
    induction M with
    | zero => intro t h; have := size_pos t; omega
    | succ M ih =>
      intro t h hf he m hm
      rcases formed_kids hf with ⟨h0, e⟩ | ⟨h1, e⟩ | ⟨h2, e⟩
      · rw [e] at he hm
        rw [sub_varV, sub_varV] at he
        rw [occ_varV] at hm
        simp at hm
        rw [hm]; exact he
      · rw [e, occ_not (by decide), occL] at hm; cases hm
      · have he2 : subL σ t.args = subL τ t.args := by
          have h3 : subT σ (nameT t.s t.args) = subT τ (nameT t.s t.args) := by rw [← e]; exact he
          rw [sub_nameL, sub_nameL] at h3
          exact name_inj h3
        have hm2 : m ∈ occL t.args := by
          rcases (occ_kids hf).1 hm with h | h
          · omega
          · exact h
        have hk := size_kids t
        have hfa := formed_argsL hf
        clear he hm e h2 hf
        have aux : ∀ (l : List Tm), sizesN l ≤ M → formedL l = true → subL σ l = subL τ l → ∀ m ∈ occL l, σ m = τ m := by
          intro l
          induction l with
          | nil => intro _ _ _ m hm; rw [occL] at hm; cases hm
          | cons x r ihl =>
            intro hs hfl hel m hml
            rw [sizesN] at hs
            rw [formedL, Bool.and_eq_true] at hfl
            rw [subL, subL] at hel
            injection hel with e1 e2
            rw [occL, List.mem_append] at hml
            rcases hml with hml | hml
            · exact ih x (by omega) hfl.1 e1 m hml
            · exact ihl (by omega) hfl.2 e2 m hml
        exact aux t.args (by omega) hfa he2 m hm2
  intro ts hf he m hm
  induction ts with
  | nil => rw [occL] at hm; cases hm
  | cons x r ih =>
    rw [formedL, Bool.and_eq_true] at hf
    rw [subL, subL] at he
    injection he with e1 e2
    rw [occL, List.mem_append] at hm
    rcases hm with hm | hm
    · exact key _ x (Nat.le_refl _) hf.1 e1 m hm
    · exact ih hf.2 e2 hm
/-- A head fits itself; its slots are its variables. -/
theorem match_self {N K N' : Nat} {t : Tm} {S : List (Int × Tm)} {sl : List Tm} (hg : goodT t = true) (hk : t.k = 2) (hin : ∀ m ∈ varsT t [], 0 ≤ m ∧ m < (N : Int)) (hK : K = (varsT t []).length) :
    ¬ MNo [] N t.args (renT 0 t).args ∧ (MYes [] N t.args (renT 0 t).args K N' S sl → ∀ (i : Nat) (n : Int) (x : Tm), (varsT t [])[i]? = some n → sl[i]? = some x → subT (fullB S) x = fullB S n ∧ (subT (fullB S) x).k = 0) := by
  have hf := (good_parts hg).2.2
  have he : t = nameT t.s t.args := by
    rcases formed_kids hf with ⟨h, _⟩ | ⟨h, _⟩ | ⟨_, h⟩
    · omega
    · omega
    · exact h
  have hra : (renT 0 t).args = subL (renV (varsT t []) 0) t.args := by
    unfold renT
    have h2 := sub_nameL (renV (varsT t []) 0) t.s t.args
    rw [← he] at h2
    rw [h2]
    rfl
  have hocc : ∀ n, n ∈ occL t.args ↔ n ∈ varsT t [] := fun n => by
    rw [mem_vars2, occ_kids hf]
    constructor
    · exact fun h => Or.inr (Or.inr h)
    · rintro (h | h | h)
      · cases h
      · omega
      · exact h
  have hsol : subL varV t.args = subL (backV (varsT t []) 0) (renT 0 t).args := by
    rw [hra, subs_sub]
    refine subs_congr t.args fun m hm => ?_
    have hm' := (hocc m).1 hm
    unfold renV backV
    rw [sub_varV]
    show varV m = varV (((varsT t [])[(0 + (posI (varsT t []) m : Int) - 0).toNat]?).getD 0)
    rw [show (0 + (posI (varsT t []) m : Int) - 0).toNat = posI (varsT t []) m by omega, pos_at hm']
    try rfl
  refine ⟨fun h => h _ _ (resp_nil _ _) hsol, fun h i n x hn hx => ?_⟩
  have hmem : n ∈ varsT t [] := List.mem_of_getElem? hn
  have hpos : posI (varsT t []) n = i := by
    have h1 := pos_at hmem
    have hnd := vars_nodup t [] List.nodup_nil
    exact (List.getElem?_inj (pos_lt hmem) hnd).1 (h1.trans hn.symm)
  have hmade := h.made
  rw [hra, subs_sub] at hmade
  have h3 := subs_args t.args (formed_argsL hf) hmade n ((hocc n).2 hmem)
  have h4 : fullB S n = subT (fullB S) x := by
    rw [h3]
    unfold renV
    rw [sub_varV]
    unfold slotA
    rw [show (0 + (posI (varsT t []) n : Int)).toNat = i by omega, hx]
    rfl
  refine ⟨h4.symm, ?_⟩
  obtain ⟨A', a1, a2, a3⟩ := h.most _ _ (resp_nil _ _) hsol
  have h5 := a2.at (t := x) (fun m hm => (h.inn x (List.mem_of_getElem? hx)).2 m hm)
  rw [a3 i x hx] at h5
  generalize subT (fullB S) x = z at h5 ⊢
  obtain ⟨zk, zn, zs, zts⟩ := z
  show zk = 0
  by_cases hz : zk = 0
  · exact hz
  · rw [sub_not _ hz] at h5
    unfold backV varV at h5
    injection h5
end Go.Proofs.Ytannchfoldnhcaa
/- Chapter 15, CodeMatch's lists; Back's answer for a head's steps. Nothing here is walked. -/
namespace Go.Proofs.Ytannchfoldnhcaa
set_option linter.unusedVariables false

mutual
theorem cvars_len : ∀ (t : Tm) (l : List Int), (varsT t l).length ≤ l.length + sizeN t
  | .mk k n s ts, l => by
    rw [varsT, sizeN]
    by_cases hk : k = 0
    · rw [if_pos hk]
      split
      · omega
      · simp
    · rw [if_neg hk]
      have := cvarss_len ts l
      omega
theorem cvarss_len : ∀ (ts : List Tm) (l : List Int), (varsL ts l).length ≤ l.length + sizesN ts
  | [], l => by rw [varsL, sizesN]; omega
  | x :: r, l => by
    rw [varsL, sizesN]
    have h1 := cvars_len x l
    have h2 := cvarss_len r (varsT x l)
    omega
end
theorem formedL_iff : ∀ {l : List Tm}, formedL l = true ↔ ∀ x ∈ l, formedT x = true
  | [] => by rw [formedL]; simp
  | x :: r => by rw [formedL, Bool.and_eq_true, formedL_iff]; simp
theorem head_nums {t : Tm} (hk : t.k = 2) : (headC t).ar = (t.args.length : Nat) ∧ (headC t).sl = ((varsT t []).length : Nat) ∧ (headC t).rg = (sizeN t : Int) - 1 := by
  refine ⟨rfl, rfl, ?_⟩
  have := size_kids t
  show ((sizesN t.args : Nat) : Int) = _
  omega
end Go.Proofs.Ytannchfoldnhcaa
/- Chapter 15, Match step by step: what holds between two steps. Nothing here is walked. -/
namespace Go.Proofs.Ytannchfoldnhcaa
set_option linter.unusedVariables false

/-- Between two steps: q is what stands in the head's registers from here on, rs what stands in the call's; slots that were met. -/
structure MInv (S0 : List (Int × Tm)) (N0 : Nat) (args hargs q rs : List Tm) (sl : Int → Option Tm) (N : Nat) (S : List (Int × Tm)) : Prop where
  le : N0 ≤ N
  oks0 : OkS N0 S0
  oks : OkS N S
  top : ∀ m : Int, (N : Int) ≤ m → fullB S m = varV m
  resp : Resp N0 (fullB S) (fullB S0)
  reg : InNs N rs
  slo : ∀ v x, sl v = some x → InN N x
  fwd : ∀ A0 ρ : Int → Tm, Resp N0 A0 (fullB S0) → subL A0 args = subL ρ hargs → ∃ A : Int → Tm, (∀ m : Int, 0 ≤ m → m < N0 → A m = A0 m) ∧ Resp N A (fullB S) ∧ subL A rs = subL ρ q ∧ ∀ v x, sl v = some x → subT A x = ρ v
  bwd : ∀ A ρ : Int → Tm, Resp N A (fullB S) → subL A rs = subL ρ q → (∀ v x, sl v = some x → subT A x = ρ v) → subL A args = subL ρ hargs
section
variable {S0 : List (Int × Tm)} {N0 : Nat} {args hargs q rs : List Tm} {sl : Int → Option Tm} {N : Nat} {S : List (Int × Tm)}
theorem MInv.start (h : OkS N0 S0) (ht : ∀ m : Int, (N0 : Int) ≤ m → fullB S0 m = varV m) (ha : InNs N0 args) : MInv S0 N0 args hargs hargs args (fun _ => none) N0 S0 :=
  ⟨Nat.le_refl _, h, h, ht, h.resp, ha, fun v x e => (by cases e), fun A0 ρ hr he => ⟨A0, fun _ _ _ => rfl, hr, he, fun v x e => (by cases e)⟩, fun A ρ _ he _ => he⟩
def setO (sl : Int → Option Tm) (v : Int) (x : Tm) : Int → Option Tm := fun u => if u = v then some x else sl u
/-- A slot for the first time. -/
theorem MInv.var {r : Tm} {v : Int} (h : MInv S0 N0 args hargs (varV v :: q) (r :: rs) sl N S) (hv : sl v = none) : MInv S0 N0 args hargs q rs (setO sl v r) N S := by
  refine ⟨h.le, h.oks0, h.oks, h.top, h.resp, fun x hx => h.reg x (by simp [hx]), fun u x e => ?_, fun A0 ρ hr he => ?_, fun A ρ hr he hs => ?_⟩
  · unfold setO at e
    by_cases hu : u = v
    · rw [if_pos hu] at e; cases e; exact h.reg _ (by simp)
    · rw [if_neg hu] at e; exact h.slo u x e
  · obtain ⟨A, h1, h2, h3, h4⟩ := h.fwd A0 ρ hr he
    rw [subL, subL, sub_varV] at h3
    injection h3 with h5 h6
    refine ⟨A, h1, h2, h6, fun u x e => ?_⟩
    unfold setO at e
    by_cases hu : u = v
    · rw [if_pos hu] at e; cases e; rw [hu]; exact h5
    · rw [if_neg hu] at e; exact h4 u x e
  · refine h.bwd A ρ hr ?_ (fun u x e => hs u x ?_)
    · rw [subL, subL, sub_varV, he, hs v r (by unfold setO; rw [if_pos rfl])]
    · unfold setO
      rw [if_neg (fun hu => by rw [hu, hv] at e; cases e)]
      exact e
/-- Made alike with what it must be. -/
theorem MInv.uni {r y t : Tm} {S' : List (Int × Tm)} {c : Nat} {res : URes} (h : MInv S0 N0 args hargs (t :: q) (r :: rs) sl N S) (hy : InN N y) (hp : UPost N S (fun A => subT A r = subT A y) c res) (hok : res.ok = true) (hset : ∀ m, fullB S' m = fullB res.set m) (hoks : OkS N S') (htop : ∀ m : Int, (N : Int) ≤ m → fullB S' m = varV m)
    (hyt : ∀ A ρ : Int → Tm, (∀ v x, sl v = some x → subT A x = ρ v) → subT A y = subT ρ t) : MInv S0 N0 args hargs q rs sl N S' := by
  have hf : fullB S' = fullB res.set := funext hset
  have hle := h.le
  have hre : Resp N (fullB S') (fullB S) := by rw [hf]; exact hp.resp
  refine ⟨h.le, h.oks0, hoks, htop, ?_, fun x hx => h.reg x (by simp [hx]), h.slo, fun A0 ρ hr he => ?_, fun A ρ hr he hs => ?_⟩
  · exact Resp.trans h.oks0 (fun m h0 h1 => hre m h0 (by omega)) h.resp
  · obtain ⟨A, h1, h2, h3, h4⟩ := h.fwd A0 ρ hr he
    rw [subL, subL] at h3
    injection h3 with h5 h6
    refine ⟨A, h1, ?_, h6, h4⟩
    rw [hf]
    exact (hp.most A h2 (by rw [h5, hyt A ρ h4]) (hp.made hok).2).2
  · have hrS : Resp N A (fullB S) := Resp.trans h.oks hr hre
    refine h.bwd A ρ hrS ?_ hs
    rw [subL, subL, he, ← hyt A ρ hs]
    congr 1
    have hE := (hp.made hok).1
    rw [← hf] at hE
    have i1 := hr.at (t := r) (fun j hj => (h.reg r (by simp)).2 j hj)
    have i2 := hr.at (t := y) (fun j hj => hy.2 j hj)
    rw [← i1, ← i2, hE]
/-- It can't be made alike. -/
theorem MInv.uni_no {r y t : Tm} {c : Nat} {res : URes} (h : MInv S0 N0 args hargs (t :: q) (r :: rs) sl N S) (hp : UPost N S (fun A => subT A r = subT A y) c res) (hok : res.ok = false) (hc : res.cost ≤ 2000)
    (hyt : ∀ A ρ : Int → Tm, (∀ v x, sl v = some x → subT A x = ρ v) → subT A y = subT ρ t) : MNo S0 N0 args hargs := fun A0 ρ hr he => by
  obtain ⟨A, h1, h2, h3, h4⟩ := h.fwd A0 ρ hr he
  rw [subL, subL] at h3
  injection h3 with h5 h6
  have := (hp.most A h2 (by rw [h5, hyt A ρ h4]) hc).1
  rw [hok] at this
  cases this
/-- A name of so many Args, where there is one. -/
theorem MInv.comp {r : Tm} {s : ByteArray} {ts us : List Tm} (h : MInv S0 N0 args hargs (nameT s ts :: q) (r :: rs) sl N S) (hr : ∀ A : Int → Tm, Resp N A (fullB S) → subT A r = nameT s (subL A us)) (hu : InNs N us) (hl : us.length = ts.length) : MInv S0 N0 args hargs (q ++ ts) (rs ++ us) sl N S := by
  have app : ∀ (A : Int → Tm) (a b : List Tm), subL A (a ++ b) = subL A a ++ subL A b := fun A a b => by rw [subL_map, subL_map, subL_map, List.map_append]
  refine ⟨h.le, h.oks0, h.oks, h.top, h.resp, fun x hx => ?_, h.slo, fun A0 ρ hr0 he => ?_, fun A ρ hA he hs => ?_⟩
  · rcases List.mem_append.1 hx with hx | hx
    · exact h.reg x (by simp [hx])
    · exact hu x hx
  · obtain ⟨A, h1, h2, h3, h4⟩ := h.fwd A0 ρ hr0 he
    rw [subL, subL, sub_nameL, hr A h2] at h3
    injection h3 with h5 h6
    exact ⟨A, h1, h2, by rw [app, app, h6, name_inj h5], h4⟩
  · refine h.bwd A ρ hA ?_ hs
    rw [app, app] at he
    have hlen : (subL A us).length = (subL ρ ts).length := by rw [subL_map, subL_map, List.length_map, List.length_map, hl]
    obtain ⟨e1, e2⟩ := List.append_inj' he hlen
    rw [subL, subL, sub_nameL, hr A hA, e1, e2]
theorem MInv.comp_no {r : Tm} {s : ByteArray} {ts : List Tm} (h : MInv S0 N0 args hargs (nameT s ts :: q) (r :: rs) sl N S) (hr : ∀ (A : Int → Tm) (l : List Tm), Resp N A (fullB S) → l.length = ts.length → ¬ subT A r = nameT s l) : MNo S0 N0 args hargs := fun A0 ρ hr0 he => by
  obtain ⟨A, h1, h2, h3, h4⟩ := h.fwd A0 ρ hr0 he
  rw [subL, subL, sub_nameL] at h3
  injection h3 with h5 h6
  exact hr A _ h2 (by rw [subL_map, List.length_map]) h5
def freshL (N k : Nat) : List Tm := (List.range k).map fun i => varV ((N + i : Nat) : Int)
/-- More variables. -/
theorem OkS.grow {N' : Nat} (h : OkS N S) (ht : ∀ m : Int, (N : Int) ≤ m → fullB S m = varV m) (hl : N ≤ N') (hN : N' ≤ 65536) : OkS N' S := by
  refine ⟨hN, fun m h0 h1 => ?_, fun m h0 h1 j hj => ?_, h.fix⟩
  · by_cases hm : m < N
    · exact h.formed m h0 hm
    · rw [ht m (by omega)]; exact var_formed h0 (by omega)
  · by_cases hm : m < N
    · have := h.rng m h0 hm j hj; omega
    · rw [ht m (by omega), occ_varV] at hj; simp at hj; omega
theorem MInv.grow {N' : Nat} (h : MInv S0 N0 args hargs q rs sl N S) (hl : N ≤ N') (hN : N' ≤ 65536) : MInv S0 N0 args hargs q rs sl N' S := by
  have hle := h.le
  refine ⟨by omega, h.oks0, h.oks.grow h.top hl hN, fun m hm => h.top m (by omega), h.resp, fun x hx => ⟨(h.reg x hx).1, fun m hm => by have := (h.reg x hx).2 m hm; omega⟩, fun v x e => ⟨(h.slo v x e).1, fun m hm => by have := (h.slo v x e).2 m hm; omega⟩, fun A0 ρ hr he => ?_, fun A ρ hr he hs => h.bwd A ρ (fun m h0 h1 => hr m h0 (by omega)) he hs⟩
  obtain ⟨A, h1, h2, h3, h4⟩ := h.fwd A0 ρ hr he
  refine ⟨A, h1, fun m h0 h1 => ?_, h3, h4⟩
  by_cases hm : m < N
  · exact h2 m h0 hm
  · rw [h.top m (by omega), sub_varV]
/-- A name of so many Args, where there is a variable: it stands for that name of new ones. -/
theorem MInv.build {r : Tm} {s : ByteArray} {ts : List Tm} {n : Int} {S' : List (Int × Tm)} (h : MInv S0 N0 args hargs (nameT s ts :: q) (r :: rs) sl N S) (hN : N + ts.length ≤ 65536) (h0 : 0 ≤ n) (h1 : n < N) (hn : fullB S n = varV n) (hr : subT (fullB S) r = varV n) (hf : formedT (nameT s (freshL N ts.length)) = true)
    (hset : ∀ m, fullB S' m = fullB ((n, nameT s (freshL N ts.length)) :: S) m) (hoks : OkS (N + ts.length) S') : MInv S0 N0 args hargs (q ++ ts) (rs ++ freshL N ts.length) sl (N + ts.length) S' := by
  have hg := h.grow (N' := N + ts.length) (by omega) hN
  have hle := h.le
  have hT : InN (N + ts.length) (nameT s (freshL N ts.length)) := ⟨hf, fun m hm => by
    have : m ∈ occL (freshL N ts.length) := by unfold nameT at hm; rw [occ_not (by decide)] at hm; exact hm
    have key : ∀ l : List Nat, (∀ i ∈ l, i < ts.length) → m ∈ occL (l.map fun i => varV ((N + i : Nat) : Int)) → 0 ≤ m ∧ m < ((N + ts.length : Nat) : Int) := by
      intro l
      induction l with
      | nil => intro _ hm; rw [List.map_nil, occL] at hm; cases hm
      | cons a l ih =>
        intro hl hm
        rw [List.map_cons, occL, List.mem_append, occ_varV] at hm
        rcases hm with hm | hm
        · simp at hm; have := hl a (by simp); omega
        · exact ih (fun i hi => hl i (by simp [hi])) hm
    exact key _ (fun i hi => List.mem_range.1 hi) this⟩
  have hfresh : ∀ x ∈ freshL N ts.length, ∃ i, i < ts.length ∧ x = varV ((N + i : Nat) : Int) := fun x hx => by
    obtain ⟨i, hi, rfl⟩ := List.mem_map.1 hx
    exact ⟨i, List.mem_range.1 hi, rfl⟩
  have hwhole : ∀ j ∈ occT (nameT s (freshL N ts.length)), (N : Int) ≤ j := fun m hm => by
    have hm2 : m ∈ occL (freshL N ts.length) := by unfold nameT at hm; rw [occ_not (by decide)] at hm; exact hm
    have key : ∀ l : List Nat, m ∈ occL (l.map fun i => varV ((N + i : Nat) : Int)) → (N : Int) ≤ m := by
      intro l
      induction l with
      | nil => intro hm; rw [List.map_nil, occL] at hm; cases hm
      | cons a l ih =>
        intro hm
        rw [List.map_cons, occL, List.mem_append, occ_varV] at hm
        rcases hm with hm | hm
        · simp at hm; omega
        · exact ih hm
    exact key _ hm2
  obtain ⟨c1, c2⟩ := hg.oks.cons h0 (by omega) hT (fun j hj => h.top j (hwhole j hj)) (fun hm => by have := hwhole n hm; omega)
  have hfull : ∀ m, fullB S' m = subT (oneV n (nameT s (freshL N ts.length))) (fullB S m) := fun m => (hset m).trans (c2 m)
  have hAS : ∀ A : Int → Tm, Resp (N + ts.length) A (fullB S') → A n = nameT s (subL A (freshL N ts.length)) := fun A hA => by
    have e := hA n h0 (by omega)
    rw [hfull n, hn, sub_varV, oneV_self, sub_nameL] at e
    exact e.symm
  have hdown : ∀ A : Int → Tm, Resp (N + ts.length) A (fullB S') → Resp (N + ts.length) A (fullB S) := fun A hA m g0 g1 => by
    have e := hA m g0 g1
    rw [hfull m, sub_sub] at e
    rw [← e]
    refine (sub_congr _ fun j hj => ?_).symm
    by_cases hjn : j = n
    · rw [hjn, oneV_self, sub_nameL, ← hAS A hA]
    · rw [oneV_ne _ hjn, sub_varV]
  have hup : ∀ A : Int → Tm, Resp (N + ts.length) A (fullB S) → A n = nameT s (subL A (freshL N ts.length)) → Resp (N + ts.length) A (fullB S') := fun A hA hAn m g0 g1 => by
    rw [hfull m, sub_sub, ← hA m g0 g1]
    refine sub_congr _ fun j hj => ?_
    by_cases hjn : j = n
    · rw [hjn, oneV_self, sub_nameL, ← hAn]
    · rw [oneV_ne _ hjn, sub_varV]
  have app : ∀ (A : Int → Tm) (a b : List Tm), subL A (a ++ b) = subL A a ++ subL A b := fun A a b => by rw [subL_map, subL_map, subL_map, List.map_append]
  have hrn : ∀ A : Int → Tm, Resp N A (fullB S) → subT A r = A n := fun A hA => by
    rw [← hA.at (t := r) (fun j hj => (h.reg r (by simp)).2 j hj), hr, sub_varV]
  refine ⟨by omega, h.oks0, hoks, fun m hm => ?_, ?_, fun x hx => ?_, fun v x e => ⟨(h.slo v x e).1, fun m hm => by have := (h.slo v x e).2 m hm; omega⟩, fun A0 ρ hr0 he => ?_, fun A ρ hA he hs => ?_⟩
  · rw [hfull m, h.top m (by omega), sub_varV, oneV_ne _ (by omega)]
  · exact Resp.trans h.oks0 (fun m g0 g1 => hdown _ hoks.resp m g0 (by omega)) h.resp
  · rcases List.mem_append.1 hx with hx | hx
    · exact ⟨(h.reg x (by simp [hx])).1, fun m hm => by have := (h.reg x (by simp [hx])).2 m hm; omega⟩
    · obtain ⟨i, hi, rfl⟩ := hfresh x hx
      exact ⟨var_formed (by omega) (by omega), fun m hm => by rw [occ_varV] at hm; simp at hm; omega⟩
  · obtain ⟨A, a1, a2, a3, a4⟩ := h.fwd A0 ρ hr0 he
    rw [subL, subL, sub_nameL, hrn A a2] at a3
    injection a3 with a5 a6
    obtain ⟨A', hA'⟩ : ∃ A' : Int → Tm, A' = fun m => if m < (N : Int) then A m else if m < ((N + ts.length : Nat) : Int) then subT ρ ((ts[(m - N).toNat]?).getD (varV m)) else A m := ⟨_, rfl⟩
    have low : ∀ m : Int, m < N → A' m = A m := fun m hm => by rw [hA']; exact if_pos hm
    have lowT : ∀ t : Tm, InN N t → subT A' t = subT A t := fun t ht => sub_congr t fun m hm => low m (ht.2 m hm).2
    have fr : subL A' (freshL N ts.length) = subL ρ ts := by
      rw [subL_map, subL_map]
      apply List.ext_getElem?
      intro i
      rw [List.getElem?_map, List.getElem?_map]
      unfold freshL
      rw [List.getElem?_map]
      by_cases hi : i < ts.length
      · rw [List.getElem?_range hi, List.getElem?_eq_getElem hi]
        show some (subT A' (varV ((N + i : Nat) : Int))) = some (subT ρ ts[i])
        rw [sub_varV, hA']
        show some (if ((N + i : Nat) : Int) < (N : Int) then _ else if ((N + i : Nat) : Int) < ((N + ts.length : Nat) : Int) then _ else _) = _
        rw [if_neg (by omega), if_pos (by omega), show (((N + i : Nat) : Int) - (N : Int)).toNat = i by omega, List.getElem?_eq_getElem hi]
        rfl
      · rw [List.getElem?_eq_none (by rw [List.length_range]; omega), List.getElem?_eq_none (by omega)]
        rfl
    have rS : Resp (N + ts.length) A' (fullB S) := fun m g0 g1 => by
      by_cases hm : m < (N : Int)
      · rw [lowT _ ⟨h.oks.formed m g0 hm, h.oks.rng m g0 hm⟩, a2 m g0 hm, low m hm]
      · rw [h.top m (by omega), sub_varV]
    refine ⟨A', fun m g0 g1 => by rw [low m (by omega), a1 m g0 g1], hup A' rS (by rw [low n h1, a5, fr]), ?_, fun v x e => by rw [lowT x (h.slo v x e), a4 v x e]⟩
    rw [app, app, fr]
    congr 1
    rw [← a6]
    exact subs_congr rs fun m hm => low m ((InNs.occ (N := N) (fun x hx => h.reg x (by simp [hx]))) m hm).2
  · have hAd := hdown A hA
    have hAN : Resp N A (fullB S) := fun m g0 g1 => hAd m g0 (by omega)
    refine h.bwd A ρ hAN ?_ hs
    rw [app, app] at he
    have hlen : (subL A (freshL N ts.length)).length = (subL ρ ts).length := by rw [subL_map, subL_map, List.length_map, List.length_map]; unfold freshL; rw [List.length_map, List.length_range]
    obtain ⟨e1, e2⟩ := List.append_inj' he hlen
    rw [subL, subL, sub_nameL, hrn A hAN, hAS A hA, e1, e2]
/-- No register is left. -/
theorem MInv.done {K : Nat} {L : List Tm} (h : MInv S0 N0 args hargs [] [] sl N S) (hL : L.length = K) (hsl : ∀ v x, sl v = some x ↔ 0 ≤ v ∧ L[v.toNat]? = some x) : MYes S0 N0 args hargs K N S L := by
  refine ⟨hL, h.le, h.oks, h.resp, fun x hx => ?_, ?_, fun A ρ hr he => ?_⟩
  · obtain ⟨i, hi⟩ := List.getElem?_of_mem hx
    exact h.slo (i : Int) x ((hsl _ _).2 ⟨by omega, by rw [Int.toNat_natCast]; exact hi⟩)
  · refine h.bwd (fullB S) (slotA S L) h.oks.resp (by rw [subL, subL]) (fun v x e => ?_)
    obtain ⟨_, e2⟩ := (hsl v x).1 e
    unfold slotA
    rw [e2]
    rfl
  · obtain ⟨A', h1, h2, _, h4⟩ := h.fwd A ρ hr he
    exact ⟨A', h1, h2, fun i x hx => h4 i x ((hsl _ _).2 ⟨by omega, by rw [Int.toNat_natCast]; exact hx⟩)⟩
end
end Go.Proofs.Ytannchfoldnhcaa
/- Chapter 15, Match's steps over what Walk, Set and Both answer. Nothing here is walked. -/
namespace Go.Proofs.Ytannchfoldnhcaa
set_option linter.unusedVariables false

section
variable {S0 : List (Int × Tm)} {N0 : Nat} {args hargs q rs : List Tm} {sl : Int → Option Tm} {N : Nat} {S : List (Int × Tm)}
/-- What stands in the register, looked through. -/
theorem walk_eq {r y : Tm} (hr : InN N r) (hy : InN N y) (hw : subT (fullB S) y = subT (fullB S) r) {A : Int → Tm} (hA : Resp N A (fullB S)) : subT A r = subT A y := by
  rw [← hA.at hr.2, ← hw, hA.at hy.2]
theorem MInv.comp_at {r : Tm} {s : ByteArray} {ts us : List Tm} (h : MInv S0 N0 args hargs (nameT s ts :: q) (r :: rs) sl N S) (hy : InN N (nameT s us)) (hw : subT (fullB S) (nameT s us) = subT (fullB S) r) (hl : us.length = ts.length) : MInv S0 N0 args hargs (q ++ ts) (rs ++ us) sl N S :=
  h.comp (fun A hA => (walk_eq (h.reg r (by simp)) hy hw hA).trans (sub_nameL A s us)) (fun x hx => inN_arg (k := 2) (by decide) hy x hx) hl
theorem top_no {y : Tm} {s : ByteArray} {k : Nat} (hy : formedT y = true) (h0 : ¬ y.k = 0) (hn : ¬ (y.k = 2 ∧ y.s = s ∧ y.args.length = k)) (A : Int → Tm) (l : List Tm) (hl : l.length = k) : ¬ subT A y = nameT s l := by
  intro e
  rcases formed_kids hy with ⟨h, _⟩ | ⟨h, he⟩ | ⟨h, he⟩
  · exact h0 h
  · rw [he, sub_not A (by decide)] at e
    unfold nameT at e
    injection e with e1
    exact absurd e1 (by decide)
  · rw [he, sub_nameL] at e
    have e1 := name_inj e
    unfold nameT at e
    injection e with _ _ e2 _
    exact hn ⟨h, e2, by rw [← hl, ← e1, subL_map, List.length_map]⟩
theorem MInv.comp_not {r y : Tm} {s : ByteArray} {ts : List Tm} (h : MInv S0 N0 args hargs (nameT s ts :: q) (r :: rs) sl N S) (hy : InN N y) (hw : subT (fullB S) y = subT (fullB S) r) (h0 : ¬ y.k = 0) (hn : ¬ (y.k = 2 ∧ y.s = s ∧ y.args.length = ts.length)) : MNo S0 N0 args hargs :=
  h.comp_no fun A l hA hl e => top_no hy.1 h0 hn A l hl (by rw [← walk_eq (h.reg r (by simp)) hy hw hA]; exact e)
theorem fresh_formed {s : ByteArray} {ts : List Tm} (h : formedT (nameT s ts) = true) (hN : N + ts.length ≤ 65536) : formedT (nameT s (freshL N ts.length)) = true := by
  unfold nameT at h ⊢
  rw [formedT, Bool.and_eq_true] at h ⊢
  have hlen : (freshL N ts.length).length = ts.length := by unfold freshL; rw [List.length_map, List.length_range]
  refine ⟨by rw [hlen]; exact h.1, formedL_iff.2 fun x hx => ?_⟩
  obtain ⟨i, hi, rfl⟩ := List.mem_map.1 hx
  have := List.mem_range.1 hi
  exact var_formed (by omega) (by omega)
/-- A variable that stands for a name of new ones. -/
theorem MInv.build_at {r y : Tm} {s : ByteArray} {ts : List Tm} {n : Int} (h : MInv S0 N0 args hargs (nameT s ts :: q) (r :: rs) sl N S) (hN : N + ts.length ≤ 65536) (h0 : 0 ≤ n) (h1 : n < N) (hn : fullB S n = varV n) (hw : subT (fullB S) (varV n) = subT (fullB S) r) (hf : formedT (nameT s ts) = true)
    (hy : subT (fullB S) y = subT (fullB S) (nameT s (freshL N ts.length))) (hoks : OkS (N + ts.length) ((n, y) :: S)) : MInv S0 N0 args hargs (q ++ ts) (rs ++ freshL N ts.length) sl (N + ts.length) ((n, y) :: S) :=
  h.build hN h0 h1 hn (by rw [← hw, sub_varV, hn]) (fresh_formed hf hN) (fun m => by rw [fullB, fullB, hy]) hoks
/-- A number, or a name without Args. -/
def conT (T : Tm) : Prop := formedT T = true ∧ ¬ T.k = 0 ∧ T.args = []
theorem con_sub {T : Tm} (h : conT T) (A : Int → Tm) : subT A T = T := by
  obtain ⟨hf, h0, ha⟩ := h
  cases T with
  | mk k n s ts =>
    have : ts = [] := ha
    subst this
    rw [sub_not A (show ¬ k = 0 from h0), subL]
theorem con_inN {T : Tm} (h : conT T) : InN N T := by
  refine ⟨h.1, fun m hm => ?_⟩
  obtain ⟨hf, h0, ha⟩ := h
  cases T with
  | mk k n s ts =>
    have : ts = [] := ha
    subst this
    rw [occ_not (show ¬ k = 0 from h0), occL] at hm
    cases hm
theorem con_occ {T : Tm} (h : conT T) (m : Int) : ¬ m ∈ occT T := fun hm => by
  obtain ⟨hf, h0, ha⟩ := h
  cases T with
  | mk k n s ts =>
    have : ts = [] := ha
    subst this
    rw [occ_not (show ¬ k = 0 from h0), occL] at hm
    cases hm
theorem con_top {y T : Tm} (h : conT T) (hy : formedT y = true) (h0 : ¬ y.k = 0) {A : Int → Tm} (e : subT A y = T) : y = T := by
  obtain ⟨hf, hk, ha⟩ := h
  cases y with
  | mk k n s ts =>
    rw [sub_not A (show ¬ k = 0 from h0)] at e
    subst e
    have : subL A ts = [] := ha
    cases ts with
    | nil => rw [subL]
    | cons x r => rw [subL] at this; cases this
theorem MInv.con_same {r T : Tm} (h : MInv S0 N0 args hargs (T :: q) (r :: rs) sl N S) (hT : conT T) (hw : subT (fullB S) T = subT (fullB S) r) : MInv S0 N0 args hargs q rs sl N S :=
  h.uni (y := T) (con_inN hT) (c := 0) (res := ⟨true, S, 0⟩) ⟨h.oks, h.oks.resp, ⟨[], rfl⟩, Nat.le_refl _, fun _ => ⟨hw.symm, Nat.zero_le _⟩, fun A hA _ _ => ⟨rfl, hA⟩⟩ rfl (fun _ => rfl) h.oks h.top (fun A ρ _ => by rw [con_sub hT, con_sub hT])
theorem MInv.con_not {r y T : Tm} (h : MInv S0 N0 args hargs (T :: q) (r :: rs) sl N S) (hT : conT T) (hy : InN N y) (hw : subT (fullB S) y = subT (fullB S) r) (h0 : ¬ y.k = 0) (hn : ¬ y = T) : MNo S0 N0 args hargs := fun A0 ρ hr0 he => by
  obtain ⟨A, h1, h2, h3, h4⟩ := h.fwd A0 ρ hr0 he
  rw [subL, subL, con_sub hT] at h3
  injection h3 with h5 h6
  exact hn (con_top hT hy.1 h0 (A := A) ((walk_eq (h.reg r (by simp)) hy hw h2).symm.trans h5))
theorem MInv.con_set {r y T : Tm} {n : Int} (h : MInv S0 N0 args hargs (T :: q) (r :: rs) sl N S) (hT : conT T) (h0 : 0 ≤ n) (h1 : n < N) (hn : fullB S n = varV n) (hw : subT (fullB S) (varV n) = subT (fullB S) r) (hy : subT (fullB S) y = subT (fullB S) T) : MInv S0 N0 args hargs q rs sl N ((n, y) :: S) := by
  have hle := h.le
  have hv : InN N (varV n) := ⟨var_formed h0 (by have := h.oks.small; omega), fun m hm => by rw [occ_varV] at hm; simp at hm; omega⟩
  have hp := bind_post (c := 0) (c' := 0) h.oks h0 h1 hn (con_inN hT) (fun j hj => absurd hj (con_occ hT j)) (con_occ hT n) (Nat.le_refl _) (by omega)
  have hp2 : UPost N S (fun A => subT A r = subT A T) 0 ⟨true, (n, T) :: S, 0⟩ := hp.iff' fun A hA => by rw [walk_eq (h.reg r (by simp)) hv hw hA, sub_varV]
  have hset : ∀ m, fullB ((n, y) :: S) m = fullB ((n, T) :: S) m := fun m => by rw [fullB, fullB, hy]
  have hf : fullB ((n, y) :: S) = fullB ((n, T) :: S) := funext hset
  refine h.uni (y := T) (con_inN hT) hp2 rfl hset ?_ ?_ (fun A ρ _ => by rw [con_sub hT, con_sub hT])
  · have ho := hp.oks
    exact ⟨ho.small, by rw [hf]; exact ho.formed, by rw [hf]; exact ho.rng, by rw [hf]; exact ho.fix⟩
  · intro m hm
    rw [hset m, fullB, h.top m hm, sub_varV, oneV_ne _ (by omega)]
/-- A slot that was met, made alike with the register as Both does it. -/
theorem MInv.val_at {r x : Tm} {v : Int} {S' : List (Int × Tm)} {res : URes} (h : MInv S0 N0 args hargs (varV v :: q) (r :: rs) sl N S) (hx : sl v = some x) (hres : uniT 2000 S r x 0 = res) (hok : res.ok = true) (hc : res.cost ≤ 2000) (hset : fullB S' = fullB res.set) (hoks : OkS N S') (htop : ∀ m : Int, (N : Int) ≤ m → fullB S' m = varV m) : MInv S0 N0 args hargs q rs sl N S' := by
  subst hres
  exact h.uni (h.slo v x hx) (uni_post 2000 S r x 0 h.oks (h.reg r (by simp)) (h.slo v x hx) (by omega) (by omega)) hok (fun m => by rw [hset]) hoks htop (fun A ρ hs => by rw [sub_varV]; exact hs v x hx)
theorem MInv.val_no {r x : Tm} {v : Int} {res : URes} (h : MInv S0 N0 args hargs (varV v :: q) (r :: rs) sl N S) (hx : sl v = some x) (hres : uniT 2000 S r x 0 = res) (hok : res.ok = false) (hc : res.cost ≤ 2000) : MNo S0 N0 args hargs := by
  subst hres
  exact h.uni_no (uni_post 2000 S r x 0 h.oks (h.reg r (by simp)) (h.slo v x hx) (by omega) (by omega)) hok hc (fun A ρ hs => by rw [sub_varV]; exact hs v x hx)
/-- The same, the slot first. -/
theorem MInv.val_at' {r x : Tm} {v : Int} {S' : List (Int × Tm)} {res : URes} (h : MInv S0 N0 args hargs (varV v :: q) (r :: rs) sl N S) (hx : sl v = some x) (hres : uniT 2000 S x r 0 = res) (hok : res.ok = true) (hc : res.cost ≤ 2000) (hset : fullB S' = fullB res.set) (hoks : OkS N S') (htop : ∀ m : Int, (N : Int) ≤ m → fullB S' m = varV m) : MInv S0 N0 args hargs q rs sl N S' := by
  subst hres
  exact h.uni (h.slo v x hx) ((uni_post 2000 S x r 0 h.oks (h.slo v x hx) (h.reg r (by simp)) (by omega) (by omega)).iff fun A => ⟨Eq.symm, Eq.symm⟩) hok (fun m => by rw [hset]) hoks htop (fun A ρ hs => by rw [sub_varV]; exact hs v x hx)
theorem MInv.val_no' {r x : Tm} {v : Int} {res : URes} (h : MInv S0 N0 args hargs (varV v :: q) (r :: rs) sl N S) (hx : sl v = some x) (hres : uniT 2000 S x r 0 = res) (hok : res.ok = false) (hc : res.cost ≤ 2000) : MNo S0 N0 args hargs := by
  subst hres
  exact h.uni_no ((uni_post 2000 S x r 0 h.oks (h.slo v x hx) (h.reg r (by simp)) (by omega) (by omega)).iff fun A => ⟨Eq.symm, Eq.symm⟩) hok hc (fun A ρ hs => by rw [sub_varV]; exact hs v x hx)
end
end Go.Proofs.Ytannchfoldnhcaa
/- Small facts of ours about endings, byte strings and slices of strings in memory; nothing here speaks of one program. -/
namespace Go.Proofs.Ytannchfoldnhcaa
open Go.RowKit

theorem ret_bool {a b : Bool} (h : a = b) : Ending.returned (.bool a) = .returned (.bool b) := by rw [h]
/-- Whatever lay in W lies in w as it lay. -/
abbrev Ext (W w : World) : Prop := Below W.heap.size W w
theorem Ext.trans' {a b c : World} (h : Below a.heap.size a b) (k : Below b.heap.size b c) : Below a.heap.size a c := h.trans (k.mono h.size)
end Go.Proofs.Ytannchfoldnhcaa
/- How the arguments of a law are opened: from the form's reading to our own predicates. Nothing here speaks of one program. -/
namespace Go.Proofs.Ytannchfoldnhcaa
open Go.RowKit Go.ChangeShapes Go.WideShapes Go.ChangeAt

/-- The law's end: this bool, and nothing that was there has turned. -/
def IsBool (W : World) (b : Bool) (e : Ending) (w' : World) : Prop := e = .returned (.bool b) ∧ Below W.heap.size W w'

section
variable {H : Type} {enc : TypeId × Value → H} {P : Program} {W : World}

theorem weights_ok {ts : List TypeId} {ds : List (DataW H)} (h : (DataW.weightsEach P ts ds).all (· ≤ reachBytes) = true) {j : Nat} {t : TypeId} {d : DataW H} (ht : ts[j]? = some t) (hd : ds[j]? = some d) :
    ∀ n ∈ d.weights P t, n ≤ 140737488351232 := fun n hn => by
  have := List.all_eq_true.1 h n (DataW.weights_mem_each ht hd n hn)
  have e : reachBytes = 140737488351232 := by decide
  simpa [e] using this
theorem weights_all_mem {e : TypeId} : ∀ {l : List (DataW H)} {d : DataW H}, d ∈ l → ∀ n ∈ d.weights P e, n ∈ DataW.weightsAll P e l
  | a :: r, d, h, n, hn => by
    simp only [DataW.weightsAll, List.mem_append]
    rcases List.mem_cons.1 h with rfl | h
    · exact Or.inl hn
    · exact Or.inr (weights_all_mem h n hn)

theorem lt_of_trod {t : TypeId} {v : Value} {d : DataW H} {ps : List MemPlace} (h : DataW.Trod enc P W 0 (fun _ => true) true t v d ps) : ∀ x ∈ ps, x.block < W.heap.size := by
  obtain ⟨m, hm⟩ := h; exact DataW.trod_lt m _ _ _ hm

theorem add_plain (b o i : Nat) : (⟨b, o, none⟩ : Addr).add i = ⟨b, o + i, none⟩ := by
  unfold Addr.add; split
  · rename_i h; rw [h]; rfl
  · rfl
theorem spot_of_cell {w : World} {x : Addr} {v : Value} (h : w.cell? (x.add 0) = some v) : x.spot = none := by
  rcases x with ⟨xb, xo, xs⟩
  cases xs with
  | none => rfl
  | some q =>
    exfalso
    rw [show (⟨xb, xo, some q⟩ : Addr).add 0 = ⟨xb, xo, some q⟩ from rfl] at h
    unfold World.cell? at h
    split at h <;> simp at h
end
end Go.Proofs.Ytannchfoldnhcaa
/- A slice of whatever elements that came in, opened element by element. Nothing here speaks of one program. -/
namespace Go.Proofs.Ytannchfoldnhcaa
open Go.RowKit Go.ChangeShapes Go.WideShapes Go.ChangeAt Go.Deep

/-- The value reads as these elements, of S cells each. -/
def Elems {α : Type} (S : Nat) (cells : α → List Value) (w : World) (v : Value) (xs : List α) : Prop :=
  ∃ (a : Option Addr) (cap : Nat), v = .slice a xs.length cap ∧ xs.length ≤ cap ∧ cap ≤ maxLen ∧
    (xs = [] ∨ ∃ b off, a = some ⟨b, off, none⟩ ∧ b < w.heap.size ∧ ∀ (i : Nat) (x : α), xs[i]? = some x → ∀ (j : Nat) (u : Value), (cells x)[j]? = some u → w.cell? ⟨b, off + (i * S + j), none⟩ = some u)
theorem Elems.ext {α : Type} {S : Nat} {cells : α → List Value} {w w' : World} {v : Value} {xs : List α} (h : Elems S cells w v xs) (hb : Below w.heap.size w w') : Elems S cells w' v xs := by
  obtain ⟨a, cap, h1, h2, h3, h6⟩ := h
  refine ⟨a, cap, h1, h2, h3, ?_⟩
  rcases h6 with h6 | ⟨b, off, e1, e2, e3⟩
  · exact Or.inl h6
  · exact Or.inr ⟨b, off, e1, Nat.lt_of_lt_of_le e2 hb.size, fun i x hx j u hu => cell_later hb (e3 i x hx j u hu)⟩

theorem list_choose {α : Type} {Q : Nat → α → Prop} : ∀ n : Nat, (∀ i, i < n → ∃ x, Q i x) → ∃ xs : List α, xs.length = n ∧ ∀ i x, xs[i]? = some x → Q i x
  | 0, _ => ⟨[], rfl, by simp⟩
  | n + 1, h => by
    obtain ⟨xs, hl, hx⟩ := list_choose n (fun i hi => h i (by omega))
    obtain ⟨y, hy⟩ := h n (by omega)
    refine ⟨xs ++ [y], by simp [hl], fun i x hi => ?_⟩
    by_cases hlt : i < xs.length
    · rw [List.getElem?_append_left hlt] at hi; exact hx i x hi
    · rw [List.getElem?_append_right (by omega)] at hi
      have hm := (List.getElem?_eq_some_iff.1 hi).1
      simp at hm
      have e : i = n := by omega
      subst e
      rw [hl, Nat.sub_self] at hi
      simp at hi; subst hi; exact hy

section
variable {H : Type} {enc : TypeId × Value → H} {P : Program} {W : World}
end
end Go.Proofs.Ytannchfoldnhcaa
/- Terms in memory. Nothing here speaks of one program. -/
namespace Go.Proofs.Ytannchfoldnhcaa
open Go.RowKit

abbrev BIG : Nat := 140737488351232
def I64 (n : Int) : Prop := -9223372036854775808 ≤ n ∧ n ≤ 9223372036854775807
mutual
/-- The value reads as this term. -/
def TmV (w : World) : Tm → Value → Prop
  | .mk k n s ts, v => ∃ (a : Option Addr) (c : Nat), v = .agg #[.int .i64 k, .int .i64 n, .string s, .slice a ts.length c] ∧ ts.length ≤ c ∧ c ≤ maxLen ∧ ts.length * 56 ≤ BIG ∧ s.size ≤ BIG ∧ I64 k ∧ I64 n ∧
      (ts = [] ∨ ∃ b off, a = some ⟨b, off, none⟩ ∧ b < w.heap.size ∧ TmRow w ts b off)
/-- These terms lie there, one behind the other. -/
def TmRow (w : World) : List Tm → Nat → Nat → Prop
  | [], _, _ => True
  | x :: r, b, off => (∃ c0 c1 c2 c3, w.cell? ⟨b, off, none⟩ = some c0 ∧ w.cell? ⟨b, off + 1, none⟩ = some c1 ∧ w.cell? ⟨b, off + 2, none⟩ = some c2 ∧ w.cell? ⟨b, off + 3, none⟩ = some c3 ∧ TmV w x (.agg #[c0, c1, c2, c3])) ∧ TmRow w r b (off + 4)
end
/-- The value reads as these terms. -/
def Tms (w : World) (v : Value) (l : List Tm) : Prop :=
  ∃ (a : Option Addr) (c : Nat), v = .slice a l.length c ∧ l.length ≤ c ∧ c ≤ maxLen ∧ l.length * 56 ≤ BIG ∧ (l = [] ∨ ∃ b off, a = some ⟨b, off, none⟩ ∧ b < w.heap.size ∧ TmRow w l b off)
theorem tmV_iff {w : World} {k n : Int} {s : ByteArray} {ts : List Tm} {v : Value} : TmV w (.mk k n s ts) v ↔ ∃ u, v = .agg #[.int .i64 k, .int .i64 n, .string s, u] ∧ s.size ≤ BIG ∧ I64 k ∧ I64 n ∧ Tms w u ts := by
  rw [TmV]
  constructor
  · rintro ⟨a, c, h1, h2, h3, h4, h5, h6, h7, h8⟩
    exact ⟨_, h1, h5, h6, h7, a, c, rfl, h2, h3, h4, h8⟩
  · rintro ⟨u, h1, h5, h6, h7, a, c, rfl, h2, h3, h4, h8⟩
    exact ⟨a, c, h1, h2, h3, h4, h5, h6, h7, h8⟩
theorem TmRow.get {w : World} : ∀ {l : List Tm} {b off : Nat}, TmRow w l b off → ∀ (i : Nat) (x : Tm), l[i]? = some x →
    ∃ c0 c1 c2 c3, w.cell? ⟨b, off + i * 4, none⟩ = some c0 ∧ w.cell? ⟨b, off + i * 4 + 1, none⟩ = some c1 ∧ w.cell? ⟨b, off + i * 4 + 2, none⟩ = some c2 ∧ w.cell? ⟨b, off + i * 4 + 3, none⟩ = some c3 ∧ TmV w x (.agg #[c0, c1, c2, c3])
  | [], b, off, _, i, x, hx => by simp at hx
  | y :: r, b, off, h, 0, x, hx => by
    simp at hx
    subst hx
    rw [TmRow] at h
    rw [Nat.zero_mul, Nat.add_zero]
    exact h.1
  | y :: r, b, off, h, i + 1, x, hx => by
    rw [TmRow] at h
    have := TmRow.get h.2 i x (by simpa using hx)
    rw [show off + (i + 1) * 4 = off + 4 + i * 4 by omega]
    exact this
theorem TmRow.mk {w : World} : ∀ {l : List Tm} {b off : Nat}, (∀ (i : Nat) (x : Tm), l[i]? = some x →
    ∃ c0 c1 c2 c3, w.cell? ⟨b, off + i * 4, none⟩ = some c0 ∧ w.cell? ⟨b, off + i * 4 + 1, none⟩ = some c1 ∧ w.cell? ⟨b, off + i * 4 + 2, none⟩ = some c2 ∧ w.cell? ⟨b, off + i * 4 + 3, none⟩ = some c3 ∧ TmV w x (.agg #[c0, c1, c2, c3])) → TmRow w l b off
  | [], b, off, _ => by rw [TmRow]; trivial
  | y :: r, b, off, h => by
    rw [TmRow]
    refine ⟨?_, TmRow.mk fun i x hx => ?_⟩
    · have := h 0 y rfl
      rw [Nat.zero_mul, Nat.add_zero] at this
      exact this
    · have := h (i + 1) x (by simpa using hx)
      rw [show off + (i + 1) * 4 = off + 4 + i * 4 by omega] at this
      exact this
mutual
theorem TmV.ext {w w' : World} (hb : Below w.heap.size w w') : ∀ (x : Tm) (v : Value), TmV w x v → TmV w' x v
  | .mk k n s ts, v, h => by
    rw [TmV] at h ⊢
    obtain ⟨a, c, h1, h2, h3, h4, h5, h6, h7, h8⟩ := h
    refine ⟨a, c, h1, h2, h3, h4, h5, h6, h7, ?_⟩
    rcases h8 with h8 | ⟨b, off, e1, e2, e3⟩
    · exact Or.inl h8
    · exact Or.inr ⟨b, off, e1, Nat.lt_of_lt_of_le e2 hb.size, TmRow.ext hb ts b off e3⟩
theorem TmRow.ext {w w' : World} (hb : Below w.heap.size w w') : ∀ (l : List Tm) (b off : Nat), TmRow w l b off → TmRow w' l b off
  | [], b, off, _ => by rw [TmRow]; trivial
  | x :: r, b, off, h => by
    rw [TmRow] at h ⊢
    obtain ⟨⟨c0, c1, c2, c3, h0, h1, h2, h3, h4⟩, h5⟩ := h
    exact ⟨⟨c0, c1, c2, c3, cell_later hb h0, cell_later hb h1, cell_later hb h2, cell_later hb h3, TmV.ext hb x _ h4⟩, TmRow.ext hb r b (off + 4) h5⟩
end
theorem Tms.ext {w w' : World} {v : Value} {l : List Tm} (h : Tms w v l) (hb : Below w.heap.size w w') : Tms w' v l := by
  obtain ⟨a, c, h1, h2, h3, h4, h5⟩ := h
  refine ⟨a, c, h1, h2, h3, h4, ?_⟩
  rcases h5 with h5 | ⟨b, off, e1, e2, e3⟩
  · exact Or.inl h5
  · exact Or.inr ⟨b, off, e1, Nat.lt_of_lt_of_le e2 hb.size, TmRow.ext hb l b off e3⟩
theorem Tms.nil (w : World) : Tms w (.slice none 0 0) [] := ⟨none, 0, rfl, Nat.le_refl _, Nat.zero_le _, by simp, Or.inl rfl⟩
/-- The i-th of them. -/
theorem Tms.get {w : World} {a : Option Addr} {m c : Nat} {l : List Tm} (h : Tms w (.slice a m c) l) {i : Nat} {x : Tm} (hx : l[i]? = some x) :
    ∃ b off k n s u, a = some ⟨b, off, none⟩ ∧ b < w.heap.size ∧ x.k = k ∧ x.n = n ∧ x.s = s ∧ w.cell? ⟨b, off + i * 4, none⟩ = some (.int .i64 k) ∧ w.cell? ⟨b, off + i * 4 + 1, none⟩ = some (.int .i64 n) ∧ w.cell? ⟨b, off + i * 4 + 2, none⟩ = some (.string s) ∧ w.cell? ⟨b, off + i * 4 + 3, none⟩ = some u ∧ Tms w u x.args ∧
      TmV w x (.agg #[.int .i64 k, .int .i64 n, .string s, u]) := by
  obtain ⟨a', c', e, h1, h2, h3, h4⟩ := h
  cases e
  rcases h4 with rfl | ⟨b, off, rfl, hb, hr⟩
  · simp at hx
  · obtain ⟨c0, c1, c2, c3, d0, d1, d2, d3, d4⟩ := hr.get i x hx
    cases x with
    | mk k n s ts =>
      obtain ⟨u, hu, g1, g2, g3, g4⟩ := tmV_iff.1 d4
      simp only [Value.agg.injEq] at hu
      have hu' := congrArg Array.toList hu
      simp only [List.cons.injEq, and_true] at hu'
      obtain ⟨rfl, rfl, rfl, rfl⟩ := hu'
      exact ⟨b, off, k, n, s, _, rfl, hb, rfl, rfl, rfl, d0, d1, d2, d3, g4, d4⟩
theorem Tms.len {w : World} {v : Value} {l : List Tm} (h : Tms w v l) : ∃ a c, v = .slice a l.length c ∧ l.length ≤ c ∧ c ≤ maxLen ∧ l.length * 56 ≤ BIG := by
  obtain ⟨a, c, h1, h2, h3, h4, _⟩ := h
  exact ⟨a, c, h1, h2, h3, h4⟩
end Go.Proofs.Ytannchfoldnhcaa
