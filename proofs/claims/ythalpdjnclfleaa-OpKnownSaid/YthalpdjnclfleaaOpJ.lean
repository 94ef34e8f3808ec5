/- Operators: what Add does to a good table. Nothing here is walked. -/
import Derived.Test.YthalpdjnclfleaaOpH
namespace Go.Proofs.Ythalpdjnclfleaa
open Go.Shelf Go.RowKit

def key (x : O) : List UInt8 × Int := (bl x.n, sideB (bl x.k))
theorem isAt_iff (n : List UInt8) (s : Int) (y : O) : isAt n s y = true ↔ key y = (n, s) := by
  simp [isAt, key]
theorem isAt_no (n : List UInt8) (s : Int) (y : O) : isAt n s y = false ↔ key y ≠ (n, s) := by
  rw [← Bool.not_eq_true, isAt_iff]
theorem place_neg (xs : List O) (n : List UInt8) (s : Int) : placeB xs n s < 0 ↔ ∀ x ∈ xs, key x ≠ (n, s) := by
  rcases place_cases xs n s with ⟨h1, h2⟩ | ⟨k, x, h1, h2, h3, _⟩
  · rw [h1]
    refine ⟨fun _ x hx => ?_, fun _ => by decide⟩
    obtain ⟨j, hj, rfl⟩ := List.getElem_of_mem hx
    exact (isAt_no _ _ _).1 (h2 j _ (List.getElem?_eq_getElem hj))
  · rw [h1]
    refine ⟨fun h => by omega, fun h => absurd ((isAt_iff _ _ _).1 h3) (h x (List.mem_of_getElem? h2))⟩
def mayO (x : O) : Bool := mayB (bl x.n) (bl x.k) x.l
theorem good_iff (xs : List O) : goodB xs = true ↔ xs.length ≤ 128 ∧ (∀ x ∈ xs, mayO x = true) ∧ (xs.map key).Nodup := by
  have hall : ((List.range xs.length).all fun k => okB (xs.take k) xs[k]!) = true ↔ ∀ (k : Nat) (x : O), xs[k]? = some x → okB (xs.take k) x = true := by
    rw [List.all_eq_true]
    constructor
    · intro h k x hx
      have hk := (List.getElem?_eq_some_iff.1 hx).1
      have := h k (List.mem_range.2 hk)
      rwa [List.getElem!_eq_getElem?_getD, hx] at this
    · intro h k hk
      have hk := List.mem_range.1 hk
      exact h k _ (by rw [List.getElem!_eq_getElem?_getD, List.getElem?_eq_getElem hk]; rfl)
  unfold goodB
  rw [Bool.and_eq_true, hall]
  simp only [decide_eq_true_eq]
  refine and_congr_right fun _ => ?_
  have hok : ∀ (pre : List O) (x : O), okB pre x = true ↔ mayO x = true ∧ ∀ y ∈ pre, key y ≠ key x := fun pre x => by
    unfold okB
    rw [Bool.and_eq_true, decide_eq_true_eq, place_neg]
    rfl
  constructor
  · intro h
    refine ⟨fun x hx => ?_, ?_⟩
    · obtain ⟨j, hj, rfl⟩ := List.getElem_of_mem hx
      exact ((hok _ _).1 (h j _ (List.getElem?_eq_getElem hj))).1
    · rw [List.nodup_iff_pairwise_ne, List.pairwise_map, List.pairwise_iff_getElem]
      intro i j hi hj hij
      exact ((hok _ _).1 (h j _ (List.getElem?_eq_getElem hj))).2 _ (List.mem_take_iff_getElem.2 ⟨i, by omega, rfl⟩)
  · rintro ⟨h1, h2⟩ k x hx
    refine (hok _ _).2 ⟨h1 x (List.mem_of_getElem? hx), fun y hy => ?_⟩
    obtain ⟨i, hi, rfl⟩ := List.mem_take_iff_getElem.1 hy
    obtain ⟨hk, rfl⟩ := List.getElem?_eq_some_iff.1 hx
    rw [List.nodup_iff_pairwise_ne, List.pairwise_map, List.pairwise_iff_getElem] at h2
    exact h2 i k (by omega) hk (by omega)
theorem nodup_key {xs : List O} (h : (xs.map key).Nodup) {x y : O} (hx : x ∈ xs) (hy : y ∈ xs) (e : key x = key y) : x = y := by
  obtain ⟨i, hi, rfl⟩ := List.getElem_of_mem hx
  obtain ⟨j, hj, rfl⟩ := List.getElem_of_mem hy
  rw [List.nodup_iff_pairwise_ne, List.pairwise_map, List.pairwise_iff_getElem] at h
  rcases Nat.lt_trichotomy i j with hlt | rfl | hlt
  · exact absurd e (h i j hi hj hlt)
  · rfl
  · exact absurd e.symm (h j i hj hi hlt)
theorem one_mem {xs : List O} (hg : goodB xs = true) {x : O} (hx : x ∈ xs) {n : List UInt8} {s : Int} (e : key x = (n, s)) : oneB xs n s = (x, true) := by
  rcases place_cases xs n s with ⟨h1, h2⟩ | ⟨k, y, h1, h2, h3, _⟩
  · exfalso
    have := (place_neg xs n s).1 (by rw [h1]; decide) x hx
    exact this e
  · have hy := nodup_key ((good_iff xs).1 hg).2.2 (List.mem_of_getElem? h2) hx (by rw [e]; exact (isAt_iff _ _ _).1 h3)
    subst hy
    unfold oneB
    rw [h1, hg]
    have h4 : ¬ ((k : Int) < 0) := by omega
    simp only [h4, decide_false, Bool.not_true, Bool.or_self, Int.toNat_natCast]
    rw [List.getElem!_eq_getElem?_getD, h2]
    rfl
theorem one_none {xs : List O} {n : List UInt8} {s : Int} (h : ∀ x ∈ xs, key x ≠ (n, s)) : oneB xs n s = (default, false) := by
  unfold oneB
  rw [decide_eq_true ((place_neg xs n s).2 h)]
  rfl
/-- The tables agree but at one key. -/
theorem one_same {xs ys : List O} (hx : goodB xs = true) (hy : goodB ys = true) {K : List UInt8 × Int} (h : ∀ x, key x ≠ K → (x ∈ xs ↔ x ∈ ys)) {n : List UInt8} {s : Int} (hn : (n, s) ≠ K) : oneB xs n s = oneB ys n s := by
  by_cases he : ∃ x ∈ xs, key x = (n, s)
  · obtain ⟨x, hxm, hk⟩ := he
    rw [one_mem hx hxm hk, one_mem hy ((h x (by rw [hk]; exact hn)).1 hxm) hk]
  · have h1 : ∀ x ∈ xs, key x ≠ (n, s) := fun x hm e => he ⟨x, hm, e⟩
    have h2 : ∀ x ∈ ys, key x ≠ (n, s) := fun x hm e => he ⟨x, (h x (by rw [e]; exact hn)).2 hm, e⟩
    rw [one_none h1, one_none h2]

/-- What Add makes of a good table. -/
theorem add_good {xs : List O} {o : O} (hg : goodB xs = true) (hl : xs.length ≤ 120) (he : (addB xs o).2 = 0) :
    goodB (addB xs o).1 = true ∧ (∀ x, key x ≠ key o → (x ∈ xs ↔ x ∈ (addB xs o).1)) ∧ sideB (bl o.k) ≠ 0 ∧
      ((o.l = 0 ∧ ∀ x ∈ (addB xs o).1, key x ≠ key o) ∨ (0 < o.l ∧ o ∈ (addB xs o).1)) := by
  obtain ⟨g1, g2, g3⟩ := (good_iff xs).1 hg
  unfold addB at he ⊢
  rw [hg] at he ⊢
  simp only [Bool.not_true, if_neg (show ¬ (false = true) by decide)] at he ⊢
  cases hc : (bl o.n == [44])
  · rw [hc] at he
    simp only [if_neg (show ¬ (false = true) by decide)] at he ⊢
    cases hm : mayB (bl o.n) (bl o.k) (lev o.l)
    · rw [hm] at he; simp at he
    · rw [hm] at he
      simp only [Bool.not_true, if_neg (show ¬ (false = true) by decide)] at he ⊢
      have hside : sideB (bl o.k) ≠ 0 ∧ 1 ≤ lev o.l := by
        unfold mayB at hm
        rw [hc] at hm
        simp only [if_neg (show ¬ (false = true) by decide)] at hm
        split at hm
        · cases hm
        · split at hm
          · cases hm
          · split at hm
            · cases hm
            · split at hm
              · cases hm
              · simp at hm
                exact ⟨hm.1.1.2, hm.1.2⟩
      rcases place_cases xs (bl o.n) (sideB (bl o.k)) with ⟨h1, h2⟩ | ⟨p, x, h1, h2, h3, h4⟩
      · rw [h1] at he ⊢
        have hno : ∀ x ∈ xs, key x ≠ key o := (place_neg xs (bl o.n) (sideB (bl o.k))).1 (by rw [h1]; decide)
        cases h0 : (o.l == 0)
        · rw [h0] at he
          have hlen : (xs.length == 128) = false := by simp; omega
          rw [hlen] at he ⊢
          simp only [Bool.false_and, if_neg (show ¬ (false = true) by decide)]
          rw [if_neg (by decide)]
          have hlev : lev o.l = o.l := by unfold lev; rw [h0]; rfl
          rw [hlev] at hm hside
          refine ⟨(good_iff _).2 ⟨by simp; omega, fun x hx => ?_, ?_⟩, fun x hx => ?_, hside.1, Or.inr ⟨by omega, by simp⟩⟩
          · rcases List.mem_append.1 hx with h | h
            · exact g2 x h
            · simp at h; subst h; exact hm
          · rw [List.map_append, List.nodup_append]
            refine ⟨g3, by simp, fun a ha b hb e => ?_⟩
            simp at hb
            subst hb
            obtain ⟨y, hy, rfl⟩ := List.mem_map.1 ha
            exact hno y hy e
          · rw [List.mem_append]
            constructor
            · exact Or.inl
            · rintro (h | h)
              · exact h
              · simp at h; subst h; exact absurd rfl hx
        · rw [h0] at he; simp at he
      · rw [h1] at he ⊢
        have hp := (List.getElem?_eq_some_iff.1 h2).1
        have hxe := (List.getElem?_eq_some_iff.1 h2).2
        have hkx : key x = key o := (isAt_iff _ _ _).1 h3
        have hn0 : decide ((p : Int) < 0) = false := by simp
        have hp0 : decide (0 ≤ (p : Int)) = true := by simp
        rw [hn0, hp0] at he ⊢
        have hsplit : xs = xs.take p ++ x :: xs.drop (p + 1) := by
          conv => lhs; rw [← List.take_append_drop p xs]
          congr 1
          rw [List.drop_eq_getElem_cons hp, hxe]
        simp only [Bool.and_false, if_neg (show ¬ (false = true) by decide), Int.toNat_natCast] at he ⊢
        obtain ⟨A, hA⟩ : ∃ A, xs.take p = A := ⟨_, rfl⟩
        obtain ⟨B, hB⟩ : ∃ B, xs.drop (p + 1) = B := ⟨_, rfl⟩
        rw [hA, hB] at hsplit ⊢
        clear he hA hB
        subst hsplit
        cases h0 : (o.l == 0)
        · simp only [if_neg (show ¬ (false = true) by decide), if_true]
          have hlev : lev o.l = o.l := by unfold lev; rw [h0]; rfl
          rw [hlev] at hm hside
          refine ⟨(good_iff _).2 ⟨by simp at g1 ⊢; omega, fun y hy => ?_, ?_⟩, fun y hy => ?_, hside.1, Or.inr ⟨by omega, by simp⟩⟩
          · simp only [List.append_assoc, List.mem_append, List.mem_cons, List.not_mem_nil, or_false, List.singleton_append] at hy
            rcases hy with h | rfl | h
            · exact g2 y (by simp [h])
            · exact hm
            · exact g2 y (by simp [h])
          · rw [show (A ++ [o] ++ B).map key = (A ++ x :: B).map key by simp [hkx]]
            exact g3
          · have hne : y ≠ x := fun e => hy (by rw [e, hkx])
            have hne' : y ≠ o := fun e => hy (by rw [e])
            simp [hne, hne']
        · simp only [if_true]
          have hl0 : o.l = 0 := by simpa using h0
          have hnd : (A.map key ++ B.map key).Nodup ∧ ∀ y ∈ A ++ B, key y ≠ key x := by
            rw [List.map_append, List.map_cons] at g3
            have h5 := List.nodup_append.1 g3
            have h6 := List.nodup_cons.1 h5.2.1
            refine ⟨List.nodup_append.2 ⟨h5.1, h6.2, fun a ha b hb => h5.2.2 a ha b (List.mem_cons_of_mem _ hb)⟩, fun y hy e => ?_⟩
            rcases List.mem_append.1 hy with h | h
            · exact h5.2.2 (key y) (List.mem_map_of_mem h) (key x) (by simp) e
            · exact h6.1 (by rw [← e]; exact List.mem_map_of_mem h)
          refine ⟨(good_iff _).2 ⟨by simp at g1 ⊢; omega, fun y hy => ?_, by rw [List.map_append]; exact hnd.1⟩, fun y hy => ?_, hside.1, Or.inl ⟨hl0, fun y hy => by rw [← hkx]; exact hnd.2 y hy⟩⟩
          · rcases List.mem_append.1 hy with h | h
            · exact g2 y (by simp [h])
            · exact g2 y (by simp [h])
          · have hne : y ≠ x := fun e => hy (by rw [e, hkx])
            simp [hne]
  · rw [hc] at he; simp at he
end Go.Proofs.Ythalpdjnclfleaa
