import Derived.Test.YtobdhcaoeholhaaGreatDoorHszaf
import Derived.Test.YtobdhcaoeholhaaGreatDoorHszab
import Derived.Shelf.Spec.SlicesGrow
import Derived.Laws.MakeOwn
import Derived.Deep.RegionHeld3
import Derived.Test.YtobdhcaoeholhaaGreatDoorHszaa
import Derived.Test.YtobdhcaoeholhaaGreatDoorHszac
import Derived.Laws.StructEq
set_option linter.unusedVariables false
set_option linter.unusedSimpArgs false
/- Operators: slices.Grow and slices.Concat at them. -/
namespace Go.Proofs.YtobdhcaoeholhaaGreatDoor
open Go.Shelf Go.RowKit

theorem flat3_len (L : List O) : (L.flatMap oCells).length = L.length * 3 := by
  induction L with
  | nil => rfl
  | cons a r ih => rw [List.flatMap_cons, List.length_append, ih, oCells_len]; simp; omega
theorem flat3_get : ∀ (L : List O) (i : Nat) (x : O), L[i]? = some x → ∀ j, j < 3 → (L.flatMap oCells)[i * 3 + j]? = (oCells x)[j]?
  | [], i, x, h, _, _ => by simp at h
  | a :: r, 0, x, h, j, hj => by
    simp at h
    subst h
    rw [List.flatMap_cons, List.getElem?_append_left (by rw [oCells_len]; omega)]
    congr 1
    omega
  | a :: r, i + 1, x, h, j, hj => by
    rw [List.flatMap_cons, List.getElem?_append_right (by rw [oCells_len]; omega), oCells_len, show (i + 1) * 3 + j - 3 = i * 3 + j by omega]
    exact flat3_get r i x (by simpa using h) j hj
theorem flat3_at (L : List O) (j : Nat) (u : Value) (h : (L.flatMap oCells)[j]? = some u) : ∃ x, L[j / 3]? = some x ∧ (oCells x)[j % 3]? = some u := by
  have hj := (List.getElem?_eq_some_iff.1 h).1
  rw [flat3_len] at hj
  obtain ⟨x, hx⟩ : ∃ x, L[j / 3]? = some x := ⟨_, List.getElem?_eq_getElem (by omega)⟩
  refine ⟨x, hx, ?_⟩
  rw [← flat3_get L _ x hx (j % 3) (by omega), ← h]
  congr 1
  omega
theorem flat3_one (L : List O) : ∀ u ∈ L.flatMap oCells, u.oneCell' = true := by
  intro u hu
  obtain ⟨x, _, hx⟩ := List.mem_flatMap.1 hu
  simp [oCells] at hx
  rcases hx with rfl | rfl | rfl <;> rfl
/-- What the call owns reads as these. -/
theorem Ops.owned {w : World} {B : Nat} {v : Value} {L : List O} (h : w.ownsRow B 33 3 v L.length (L.flatMap oCells)) : Ops w v L := by
  rcases h.2 with ⟨rfl, h0⟩ | ⟨g, cap, cur, rfl, _, hg, h1, h2, h3, h4⟩
  · obtain rfl := List.length_eq_zero_iff.1 h0
    exact ⟨none, 0, rfl, Nat.le_refl _, Nat.zero_le _, Or.inl rfl⟩
  · refine ⟨_, cap, rfl, h1, h2, Or.inr ⟨g, 0, rfl, (Array.getElem?_eq_some_iff.1 hg).1, fun i x hx j u hu => ?_⟩⟩
    have hj : j < 3 := by have := (List.getElem?_eq_some_iff.1 hu).1; rwa [oCells_len] at this
    have hi := (List.getElem?_eq_some_iff.1 hx).1
    have h5 := flat3_get L i x hx j hj
    rw [← h4, List.getElem?_take, if_pos (by omega), hu] at h5
    rw [Nat.zero_add, World.cell?, hg]
    simpa using h5
theorem Ops.set {w : World} {v : Value} {L : List O} (h : Ops w v L) (a : Addr) (u : Value) (hne : v.ownBlock ≠ some a.block) : Ops (w.setCell a u) v L := by
  obtain ⟨a', cap, rfl, h1, h2, h3⟩ := h
  refine ⟨a', cap, rfl, h1, h2, ?_⟩
  rcases h3 with rfl | ⟨b, off, rfl, hb, hc⟩
  · exact Or.inl rfl
  · refine Or.inr ⟨b, off, rfl, by simpa [World.setCell] using hb, fun i x hx j u' hu => ?_⟩
    rw [World.cell?_of_block (w := w) (Below.heap_setCell w a u b (fun e => hne (by rw [← e]; rfl)))]
    exact hc i x hx j u' hu
theorem Ops.src {w : World} {a : Option Addr} {n c : Nat} {L : List O} (h : Ops w (.slice a n c) L) : n = 0 ∨ ∃ ad, a = some ad ∧ ∀ j u, (L.flatMap oCells)[j]? = some u → w.cell? (ad.add j) = some u := by
  obtain ⟨a', cap', e, h1, h2, h3⟩ := h
  cases e
  rcases h3 with rfl | ⟨b, off, rfl, hb, hc⟩
  · exact Or.inl rfl
  · refine Or.inr ⟨_, rfl, fun j u hu => ?_⟩
    obtain ⟨x, hx, hu'⟩ := flat3_at L j u hu
    rw [add_plain, ← hc _ x hx _ u hu']
    congr 2
    omega

theorem info3 : (Tryz.prog.info? 33).map (fun i => (i.zero, i.size, i.bytes)) = some (some (.agg #[.string ⟨#[]⟩, .string ⟨#[]⟩, .int .i64 0]), 3, 40) := by kernel_rfl
theorem info3_parts : ∃ i, Tryz.prog.info? 33 = some i ∧ i.zero = some (.agg #[.string ⟨#[]⟩, .string ⟨#[]⟩, .int .i64 0]) ∧ i.size = 3 ∧ i.bytes = 40 := by
  have h := info3
  cases hi : Tryz.prog.info? 33 with
  | none => rw [hi] at h; simp at h
  | some i => rw [hi] at h; simp only [Option.map_some, Option.some.injEq, Prod.mk.injEq] at h; exact ⟨i, rfl, h.1, h.2.1, h.2.2⟩

theorem grow_walk (n : Nat) (hn : n ≤ 5000) (w : World) :
    Calls Tryz.prog 74 #[.slice none 0 0, .int .i64 n] w fun e w' => ∃ a c, e = .returned (.slice a 0 c) ∧ w'.ownsRow w.heap.size 33 3 (.slice a 0 c) 0 [] ∧ Below w.heap.size w w' := by
  obtain ⟨i0, hi0, hz0, hs0, hb0⟩ := info3_parts
  by_cases h0 : n = 0
  · subst h0
    have hcon := Any8.slices_Grow_room Tryz.growOp none 0 0 0 w (by omega) (by omega) (by omega) (by omega)
    refine Calls.mono (show Calls Tryz.prog 74 _ _ _ from hcon) ?_
    rintro e w' ⟨rfl, rfl⟩
    exact ⟨none, 0, rfl, ⟨rfl, Or.inl ⟨rfl, rfl⟩⟩, Below.refl _ _⟩
  · have hcon := Any8.slices_Grow_grow Tryz.growOp i0 _ hi0 hz0 (by omega) none 0 0 n [] w (by omega) (by omega) (by rw [hb0]; omega) (by omega) (by simp) (fun _ => rfl) (fun a h => by cases h)
    refine Calls.mono (show Calls Tryz.prog 74 _ _ _ from hcon) ?_
    rintro e w' ⟨rfl, rfl⟩
    refine ⟨_, _, rfl, ⟨rfl, Or.inr ⟨w.heap.size, _, _, rfl, Nat.le_refl _, heap_alloc_new w.drew _, Nat.zero_le _, ?_, ?_, by simp⟩⟩, ((Below.refl _ _).drew).alloc (Nat.le_refl _) _⟩
    · exact grownCap_le_maxLen w _ _ _ (by unfold maxLen; omega)
    · have hge := grownCap_ge w (0 + n) 0 33
      simp only [Array.size_append, size_zeroCells]
      show 0 + (0 + n - 0) * 3 + (grownCap w (0 + n) 0 33 - (0 + n)) * 3 = grownCap w (0 + n) 0 33 * 3
      omega

/-- What the first k hold together. -/
def upto (ps : List (Value × List O)) (k : Nat) : List O := (ps.take k).flatMap (·.2)
theorem upto_succ {ps : List (Value × List O)} {k : Nat} {p : Value × List O} (h : ps[k]? = some p) : upto ps (k + 1) = upto ps k ++ p.2 := by
  unfold upto
  rw [List.take_add_one, h]
  simp
theorem upto_all (ps : List (Value × List O)) {k : Nat} (h : ps.length ≤ k) : upto ps k = ps.flatMap (·.2) := by
  unfold upto
  rw [List.take_of_length_le h]
theorem upto_le (ps : List (Value × List O)) (k : Nat) : (upto ps k).length ≤ (ps.flatMap (·.2)).length := by
  unfold upto
  conv => rhs; rw [← List.take_append_drop k ps, List.flatMap_append, List.length_append]
  omega

theorem own_base {w : World} {B e s n : Nat} {v : Value} {xs : List Value} (h : w.ownsRow B e s v n xs) : ∀ k, v.ownBlock = some k → B ≤ k := fun k hk => by
  rcases h.2 with ⟨rfl, _⟩ | ⟨g, cap, cur, rfl, hg, _⟩
  · simp [Value.ownBlock] at hk
  · simp [Value.ownBlock] at hk
    omega
set_option maxHeartbeats 1000000 in
theorem concat_walk {w : World} {v : Value} {ps : List (Value × List O)} (h : Elems 1 (fun p => [p.1]) w v ps) (hp : ∀ p ∈ ps, Ops w p.1 p.2) (hl : ps.length ≤ 20) (hs : (ps.flatMap (·.2)).length ≤ 5000) :
    Calls Tryz.prog 44 #[v] w fun e w' => ∃ r, e = .returned r ∧ Ops w' r (ps.flatMap (·.2)) ∧ Below w.heap.size w w' ∧ (∀ k, r.ownBlock = some k → w.heap.size ≤ k) := by
  obtain ⟨a, cap, rfl, h1, h2, h3⟩ := h
  have hc : ∀ (k : Nat) (p : Value × List O), ps[k]? = some p → ∃ b off, a = some ⟨b, off, none⟩ ∧ b < w.heap.size ∧ w.cell? ⟨b, off + k, none⟩ = some p.1 := fun k p hk => by
    rcases h3 with rfl | ⟨b, off, rfl, hb, hc⟩
    · simp at hk
    · exact ⟨b, off, rfl, hb, by have := hc k p hk 0 _ rfl; rwa [show off + (k * 1 + 0) = off + k by omega] at this⟩
  have HC := Lib.hid hc; clear hc h3
  have HP := Lib.hid hp; clear hp
  unfold maxLen at h2
  have HS := Lib.hid hs; clear hs
  go_enter Tryz.func44, Tryz.ntmps44
  go_wp2_with fail
  go_loop [3, 11] (fun s i => ∃ k : Nat, k ≤ ps.length ∧ i = .int .i64 k ∧ s = .int .i64 ((upto ps k).length : Nat)) (fun _ i => ps.length - (intOf i).toNat)
  case atStart => exact ⟨0, by omega, rfl, rfl⟩
  case round =>
    obtain ⟨k, hk, rfl, rfl⟩ := hrel
    by_cases hlt : k < ps.length
    · obtain ⟨p, hx⟩ : ∃ p, ps[k]? = some p := ⟨_, List.getElem?_eq_getElem hlt⟩
      obtain ⟨b, off, rfl, hb, d0⟩ := HC.out k p hx
      obtain ⟨pv, pl⟩ := p
      obtain ⟨a1, c1, hpv, hq1, hq2⟩ := Ops.form (HP.out _ (List.mem_of_getElem? hx))
      simp only at hpv d0 hq1 hq2
      subst hpv
      have hm := upto_le ps (k + 1)
      rw [upto_succ hx, List.length_append] at hm
      have hss := HS.out
      simp only at hm
      have HX : Hid ((upto ps (k + 1)).length = (upto ps k).length + pl.length) := Lib.hid (by rw [upto_succ hx, List.length_append])
      obtain ⟨m, hmm⟩ : ∃ m, (upto ps k).length = m := ⟨_, rfl⟩
      rw [hmm] at hm HX ⊢
      have hw : IntKind.i64.wrap ((m : Int) + (pl.length : Int)) = (m : Int) + (pl.length : Int) := by rw [IntKind.wrap_i64]; omega
      have hneg : decide ((m : Int) + (pl.length : Int) < 0) = false := by simp; omega
      clear hmm
      go_wp2_with fail
      exact ⟨⟨k + 1, by omega, by go_num, by rw [HX.out]; push_cast; rfl⟩, by simp [intOf]; omega⟩
    · have hkn : k = ps.length := by omega
      subst hkn
      rw [upto_all ps (Nat.le_refl _)]
      obtain ⟨N, hN⟩ : ∃ N, (ps.flatMap (·.2)).length = N := ⟨_, rfl⟩
      have hNle : N ≤ 5000 := by rw [← hN]; exact HS.out
      rw [hN]
      have HN := Lib.hid hN; clear hN
      (go_wp2_with fail; go_fit (grow_walk N hNle w); rintro e w1 ⟨a1, c1, rfl, hown, hb1⟩)
      obtain ⟨i0, hi0, hz0, hs0, hb0⟩ := info3_parts
      have HO := Lib.hid hown; have HB1 := Lib.hid hb1
      clear hown hb1
      go_wp2_with fail
      go_loopw [6, 27] (fun r i wr => ∃ (k : Nat) (a' : Option Addr) (c' : Nat), k ≤ ps.length ∧ i = .int .i64 k ∧ r = .slice a' (upto ps k).length c' ∧ Hid (wr.ownsRow w.heap.size 33 3 (.slice a' (upto ps k).length c') (upto ps k).length ((upto ps k).flatMap oCells) ∧ Below w.heap.size w wr)) (fun _ i _ => ps.length - (intOf i).toNat)
      case atStart => exact ⟨0, a1, c1, by omega, rfl, rfl, Lib.hid ⟨HO.out, HB1.out⟩⟩
      case round =>
        obtain ⟨k, a2, c2, hk, rfl, rfl, HR⟩ := hrel
        by_cases hlt : k < ps.length
        · obtain ⟨p, hx⟩ : ∃ p, ps[k]? = some p := ⟨_, List.getElem?_eq_getElem hlt⟩
          obtain ⟨b, off, rfl, hb, d0⟩ := HC.out k p hx
          obtain ⟨pv, pl⟩ := p
          have hpo := (HP.out _ (List.mem_of_getElem? hx)).ext HR.out.2
          obtain ⟨a3, c3, hpv, hq1, hq2⟩ := Ops.form hpo
          simp only at hpv d0 hq1 hq2 hpo
          subst hpv
          have d1 : wr.cell? ⟨b, off + k, none⟩ = some (.slice a3 pl.length c3) := cell_later HR.out.2 d0
          have HSC := Lib.hid (Ops.src hpo)
          have hm := upto_le ps (k + 1)
          rw [HN.out, upto_succ hx, List.length_append] at hm
          simp only at hm
          have HX : Hid (upto ps (k + 1) = upto ps k ++ pl) := Lib.hid (by rw [upto_succ hx])
          obtain ⟨L, hL⟩ : ∃ L, upto ps k = L := ⟨_, rfl⟩
          rw [hL] at hm HX HR ⊢
          have HL := Lib.hid hL
          clear hL hx d0 hpo
          obtain ⟨m, hmm⟩ : ∃ m, L.length = m := ⟨_, rfl⟩
          rw [hmm] at hm HR ⊢
          have HM := Lib.hid hmm
          clear hmm
          obtain ⟨n, hnn⟩ : ∃ n, pl.length = n := ⟨_, rfl⟩
          have HPL : Hid ((pl.flatMap oCells).length = n * 3) := Lib.hid (by rw [flat3_len, hnn])
          have HNN := Lib.hid hnn
          rw [hnn] at hm d1 HSC hq1
          clear hnn
          go_wp2_with (first
            | (at_builtin; refine wpList_append_k rfl _ _ 34 rfl w.heap.size 33 i0 (.agg #[.string ⟨#[]⟩, .string ⟨#[]⟩, .int .i64 0]) 3 40 Tryz.underlying34 hi0 hz0 hs0 (by decide) hb0 rfl (.slice a2 m c2) m (L.flatMap oCells) rfl HR.out.1 a3 n c3 (pl.flatMap oCells) rfl HPL.out HSC.out (flat3_one _) (by unfold maxLen; omega) (by omega) HR.out.2.size (m + n) ((L ++ pl).flatMap oCells) rfl (by rw [List.flatMap_append]) ?_; intro a4 c4 w4 hown4 hgrow4 hat4
               have HO4 := Lib.hid hown4
               have HB4 := Lib.hid (HR.out.2.grown hgrow4 HR.out.2.size (own_base HR.out.1))
               clear hown4 hgrow4 hat4)
            | fail)
          exact ⟨⟨k + 1, a4, c4, by omega, by go_num, by rw [HX.out, List.length_append, HM.out, HNN.out], Lib.hid ⟨by rw [HX.out, List.length_append, HM.out, HNN.out]; exact HO4.out, HB4.out⟩⟩, by simp [intOf]; omega⟩
        · have hkk : ¬ (k : Int) < ps.length := by omega
          have HE : Hid (upto ps k = ps.flatMap (·.2)) := Lib.hid (upto_all ps (by omega))
          obtain ⟨m, hmm⟩ : ∃ m, (upto ps k).length = m := ⟨_, rfl⟩
          have HM := Lib.hid hmm
          rw [hmm]
          clear hmm
          go_wp2
          go_ret
          have hfin := HR.out.1
          have hbase := own_base hfin
          rw [HM.out] at hfin hbase
          refine ⟨.slice a2 m c2, rfl, Ops.owned (B := w.heap.size) ?_, HR.out.2, hbase⟩
          rw [← HE.out, HM.out]
          exact hfin
end Go.Proofs.YtobdhcaoeholhaaGreatDoor
/- Operators: alike: a row of them with names that come in. -/
namespace Go.Proofs.YtobdhcaoeholhaaGreatDoor
open Go.Shelf Go.RowKit

theorem strs_laid (w : World) (t : TypeId) (ss : List ByteArray) (n : Nat) (hn : ss.length = n) (h : n ≤ 100000) (hs : ∀ s ∈ ss, s.size ≤ 100000) : Strs (w.alloc (.cells (ss.map Value.string).toArray t)) (.slice (some ⟨w.heap.size, 0, none⟩) n n) ss := by
  subst hn
  refine ⟨_, _, rfl, Nat.le_refl _, by unfold maxLen; omega, by omega, fun s hm => by have := hs s hm; omega, Or.inr ⟨_, _, rfl, by simp, fun i x hx => ?_⟩⟩
  rw [World.cell?_alloc_at _ _ _ _ rfl]
  simp [hx]
theorem row_cell {w : World} {b t : Nat} {cs : Array Value} {fz : Nat × Nat} (h : w.heap[b]? = some (.cells cs t fz)) (i : Nat) : w.cell? ⟨b, i, none⟩ = cs[i]? := by simp [World.cell?, h]
theorem row_froz {w : World} {b t : Nat} {cs : Array Value} (h : w.heap[b]? = some (.cells cs t (0, 0))) (i : Nat) : w.frozen? ⟨b, i, none⟩ = false := by simp [World.frozen?, h]
theorem row_set {w : World} {b t : Nat} {cs : Array Value} (h : w.heap[b]? = some (.cells cs t (0, 0))) (j : Nat) (u : Value) : (w.setCell ⟨b, j, none⟩ u).heap[b]? = some (.cells (cs.setIfInBounds j u) t (0, 0)) := by
  have hb := (Array.getElem?_eq_some_iff.1 h).1
  simp [World.setCell, Array.getElem?_modify, h]
/-- The first of the row are these. -/
def RowAt (w : World) (g n : Nat) (L : List O) : Prop := ∃ cur, w.heap[g]? = some (.cells cur 33 (0, 0)) ∧ cur.size = n * 3 ∧ cur.toList.take (L.length * 3) = L.flatMap oCells
theorem RowAt.next {w : World} {g n : Nat} {L : List O} (h : RowAt w g n L) (hl : L.length < n) (x : O) :
    RowAt (((w.setCell ⟨g, L.length * 3, none⟩ (.string x.n)).setCell ⟨g, L.length * 3 + 1, none⟩ (.string x.k)).setCell ⟨g, L.length * 3 + 2, none⟩ (.int .i64 x.l)) g n (L ++ [x]) := by
  obtain ⟨cur, h1, h2, h3⟩ := h
  refine ⟨_, row_set (row_set (row_set h1 _ _) _ _) _ _, by simp [h2], ?_⟩
  have e : (L ++ [x]).length * 3 = L.length * 3 + 3 := by simp; omega
  rw [e, List.flatMap_append, ← h3]
  apply List.ext_getElem?
  intro i
  have hcs : cur.size = n * 3 := h2
  by_cases hi : i < L.length * 3
  · rw [List.getElem?_take, if_pos (by omega), List.getElem?_append_left (by simp; omega), List.getElem?_take, if_pos hi]
    simp only [Array.getElem?_toList]
    rw [Array.getElem?_setIfInBounds_ne (by omega), Array.getElem?_setIfInBounds_ne (by omega), Array.getElem?_setIfInBounds_ne (by omega)]
  · rw [List.getElem?_take]
    split
    · rename_i hlt
      rw [List.getElem?_append_right (by simp; omega)]
      simp only [Array.getElem?_toList, List.flatMap_cons, List.flatMap_nil, List.append_nil, List.length_take, Array.length_toList]
      rw [Nat.min_eq_left (by omega)]
      have hc : i = L.length * 3 ∨ i = L.length * 3 + 1 ∨ i = L.length * 3 + 2 := by omega
      rcases hc with rfl | rfl | rfl
      · rw [Array.getElem?_setIfInBounds_ne (by omega), Array.getElem?_setIfInBounds_ne (by omega), Array.getElem?_setIfInBounds_self_of_lt (by omega)]
        simp [oCells]
      · rw [Array.getElem?_setIfInBounds_ne (by omega), Array.getElem?_setIfInBounds_self_of_lt (by simp; omega)]
        simp [oCells]
      · rw [Array.getElem?_setIfInBounds_self_of_lt (by simp; omega)]
        simp [oCells]
    · rename_i hge
      symm
      rw [List.getElem?_eq_none]
      simp [oCells_len]
      omega
theorem RowAt.ops {w : World} {g n : Nat} {L : List O} (h : RowAt w g n L) (hl : L.length = n) (hn : n ≤ 100000) : Ops w (.slice (some ⟨g, 0, none⟩) n n) L := by
  obtain ⟨cur, h1, h2, h3⟩ := h
  subst hl
  refine Ops.owned (B := 0) ⟨by rw [flat3_len], Or.inr ⟨g, _, cur, rfl, Nat.zero_le _, h1, Nat.le_refl _, by unfold maxLen; omega, h2, h3⟩⟩

set_option maxHeartbeats 1000000 in
theorem alike_walk {w : World} {v : Value} {names : List ByteArray} (kind : ByteArray) (l : Int) (h : Strs w v names) (hn : names.length ≤ 1000) :
    Calls Tryz.prog 45 #[.string kind, .int .i64 l, v] w fun e w' => ∃ r, e = .returned r ∧ Ops w' r (names.map fun s => (⟨s, kind, l⟩ : O)) ∧ Below w.heap.size w w' := by
  obtain ⟨a, cap, rfl, h1, h2, _, _, h3⟩ := h
  have hc : ∀ (k : Nat) (s : ByteArray), names[k]? = some s → ∃ b off, a = some ⟨b, off, none⟩ ∧ b < w.heap.size ∧ w.cell? ⟨b, off + k, none⟩ = some (.string s) := fun k s hk => by
    rcases h3 with rfl | ⟨b, off, rfl, hb, hc⟩
    · simp at hk
    · exact ⟨b, off, rfl, hb, hc k s hk⟩
  have HC := Lib.hid hc; clear hc h3
  unfold maxLen at h2
  obtain ⟨i0, hi0, hz0, hs0, hb0⟩ := info3_parts
  obtain ⟨n, hnn⟩ : ∃ n, names.length = n := ⟨_, rfl⟩
  rw [hnn] at hn h1 ⊢
  have HN := Lib.hid hnn
  clear hnn
  have hmk := fun (w : World) => run_make (P := Tryz.prog) w 34 33 i0 _ Tryz.underlying34 hi0 hz0 .i64 .i64 (n : Int) (n : Int) (by omega) (Int.le_refl _) (by rw [hb0]; omega) (by omega)
  rw [Int.toNat_natCast, hs0] at hmk
  obtain ⟨Z, hZ⟩ : ∃ Z, madeCells (Value.agg #[.string ⟨#[]⟩, .string ⟨#[]⟩, .int .i64 0]).cells (n * 3) = Z := ⟨_, rfl⟩
  have HZ : Hid (Z.size = n * 3) := Lib.hid (by rw [← hZ, size_madeCells])
  rw [hZ] at hmk
  clear hZ
  have HW : Hid (RowAt (w.alloc (.cells Z 33)) w.heap.size n []) := Lib.hid ⟨Z, heap_alloc_new w _, HZ.out, by simp⟩
  go_enter Tryz.func45, Tryz.ntmps45
  go_wp2_with fail
  go_loopw [15] (fun i wr => ∃ k : Nat, k ≤ n ∧ i = .int .i64 k ∧ Hid (RowAt wr w.heap.size n ((names.take k).map fun s => (⟨s, kind, l⟩ : O)) ∧ Below w.heap.size w wr)) (fun i _ => n - (intOf i).toNat)
  case atStart => exact ⟨0, by omega, rfl, Lib.hid ⟨by simpa using HW.out, bel1' _ _⟩⟩
  case round =>
    obtain ⟨k, hk, rfl, HR⟩ := hrel
    by_cases hlt : k < n
    · obtain ⟨s, hx⟩ : ∃ s, names[k]? = some s := ⟨_, List.getElem?_eq_getElem (by rw [HN.out]; exact hlt)⟩
      obtain ⟨b, off, rfl, hb, d0⟩ := HC.out k s hx
      have d1 : wr.cell? ⟨b, off + k, none⟩ = some (.string s) := cell_later HR.out.2 d0
      clear d0
      have hL : ((names.take k).map fun s => (⟨s, kind, l⟩ : O)).length = k := by
        have := HN.out
        simp
        omega
      have HNX := HR.out.1.next (by rw [hL]; exact hlt) ⟨s, kind, l⟩
      rw [hL] at HNX
      have HX := Lib.hid HNX
      have HT : Hid ((names.take (k + 1)).map (fun s => (⟨s, kind, l⟩ : O)) = (names.take k).map (fun s => (⟨s, kind, l⟩ : O)) ++ [⟨s, kind, l⟩]) := Lib.hid (by rw [List.take_add_one, hx]; simp)
      obtain ⟨cur, hcur, hsz, _⟩ := HR.out.1
      have c0 : wr.cell? ⟨w.heap.size, k * 3, none⟩ = some (cur[k * 3]'(by omega)) := by rw [row_cell hcur]; exact Array.getElem?_eq_getElem _
      have c1 : wr.cell? ⟨w.heap.size, k * 3 + 1, none⟩ = some (cur[k * 3 + 1]'(by omega)) := by rw [row_cell hcur]; exact Array.getElem?_eq_getElem _
      have c2 : wr.cell? ⟨w.heap.size, k * 3 + 2, none⟩ = some (cur[k * 3 + 2]'(by omega)) := by rw [row_cell hcur]; exact Array.getElem?_eq_getElem _
      have f0 : ∀ j, wr.frozen? ⟨w.heap.size, j, none⟩ = false := fun j => row_froz hcur j
      generalize cur[k * 3]'(by omega) = x0 at c0
      generalize cur[k * 3 + 1]'(by omega) = x1 at c1
      generalize cur[k * 3 + 2]'(by omega) = x2 at c2
      clear HNX hL hx hcur hsz
      go_wp2_with fail
      exact ⟨⟨k + 1, by omega, by go_num, Lib.hid ⟨by rw [HT.out]; exact HX.out, ((HR.out.2.setCell (Nat.le_refl _) _).setCell (Nat.le_refl _) _).setCell (Nat.le_refl _) _⟩⟩, by simp [intOf]; omega⟩
    · have hkk : ¬ (k : Int) < n := by omega
      go_wp2
      go_ret
      refine ⟨_, rfl, ?_, HR.out.2⟩
      have := HR.out.1
      rw [List.take_of_length_le (by rw [HN.out]; omega)] at this
      exact this.ops (by rw [List.length_map, HN.out]) (by omega)
end Go.Proofs.YtobdhcaoeholhaaGreatDoor
/- Operators: the plain ones. -/
namespace Go.Proofs.YtobdhcaoeholhaaGreatDoor
open Go.Shelf Go.RowKit

abbrev xfx : ByteArray := ⟨#[120, 102, 120]⟩
abbrev xfy : ByteArray := ⟨#[120, 102, 121]⟩
abbrev yfx : ByteArray := ⟨#[121, 102, 120]⟩
abbrev fy : ByteArray := ⟨#[102, 121]⟩
def names1 : List ByteArray := [⟨#[58, 45]⟩]
def names2 : List ByteArray := [⟨#[59]⟩]
def names3 : List ByteArray := [⟨#[45, 62]⟩]
def names4 : List ByteArray := [⟨#[44]⟩]
def names5 : List ByteArray := [⟨#[92, 43]⟩]
def names6 : List ByteArray := [⟨#[61]⟩, ⟨#[92, 61]⟩, ⟨#[61, 61]⟩, ⟨#[92, 61, 61]⟩, ⟨#[64, 60]⟩, ⟨#[64, 62]⟩, ⟨#[64, 61, 60]⟩, ⟨#[64, 62, 61]⟩, ⟨#[61, 46, 46]⟩, ⟨#[105, 115]⟩, ⟨#[61, 58, 61]⟩, ⟨#[61, 92, 61]⟩, ⟨#[60]⟩, ⟨#[62]⟩, ⟨#[61, 60]⟩, ⟨#[62, 61]⟩]
def names7 : List ByteArray := [⟨#[43]⟩, ⟨#[45]⟩, ⟨#[47, 92]⟩, ⟨#[92, 47]⟩, ⟨#[120, 111, 114]⟩]
def names8 : List ByteArray := [⟨#[42]⟩, ⟨#[47, 47]⟩, ⟨#[109, 111, 100]⟩, ⟨#[114, 101, 109]⟩, ⟨#[62, 62]⟩, ⟨#[60, 60]⟩]
def names9 : List ByteArray := [⟨#[94]⟩]
def names10 : List ByteArray := [⟨#[45]⟩, ⟨#[92]⟩]
def alikeB (k : ByteArray) (l : Int) (ns : List ByteArray) : List O := ns.map fun s => ⟨s, k, l⟩
def opsB : List O := alikeB xfx 1200 names1 ++ alikeB xfy 1100 names2 ++ alikeB xfy 1050 names3 ++ alikeB xfy 1000 names4 ++ alikeB fy 900 names5 ++ alikeB xfx 700 names6 ++ alikeB yfx 500 names7 ++ alikeB yfx 400 names8 ++ alikeB xfy 200 names9 ++ alikeB fy 200 names10

theorem alike_at {w0 w : World} (hb : Below w0.heap.size w0 w) (ns : List ByteArray) (n : Nat) (hn : ns.length = n) (hs : n ≤ 100) (hz : ∀ s ∈ ns, s.size ≤ 100000) (k : ByteArray) (l : Int) :
    Calls Tryz.prog 45 #[.string k, .int .i64 l, .slice (some ⟨w.heap.size, 0, none⟩) n n] (w.alloc (.cells (ns.map Value.string).toArray 9)) fun e w' => ∃ a c, e = .returned (.slice a n c) ∧ Ops w' (.slice a n c) (alikeB k l ns) ∧ Below w.heap.size w w' ∧ Below w0.heap.size w0 w' := by
  refine (alike_walk k l (strs_laid w 9 ns n hn (by omega) hz) (by omega)).mono ?_
  rintro e w' ⟨r, rfl, h1, h2⟩
  have h3 : Below w.heap.size w w' := Below.trans (bel1' _ _) (h2.mono (by simp))
  obtain ⟨a, c, rfl, _⟩ := h1.form
  rw [List.length_map, hn] at h1 ⊢
  exact ⟨a, c, rfl, h1, h3, Ext.trans' hb h3⟩

theorem alike1 {w0 w : World} (hb : Below w0.heap.size w0 w) :
    Calls Tryz.prog 45 #[.string ⟨#[120, 102, 120]⟩, .int .i64 1200, .slice (some ⟨w.heap.size, 0, none⟩) 1 1] (w.alloc (.cells #[.string ⟨#[58, 45]⟩] 9)) fun e w' => ∃ a c, e = .returned (.slice a 1 c) ∧ Ops w' (.slice a 1 c) (alikeB xfx 1200 names1) ∧ Below w.heap.size w w' ∧ Below w0.heap.size w0 w' :=
  alike_at hb names1 1 rfl (by decide) (by decide) xfx 1200
theorem alike2 {w0 w : World} (hb : Below w0.heap.size w0 w) :
    Calls Tryz.prog 45 #[.string ⟨#[120, 102, 121]⟩, .int .i64 1100, .slice (some ⟨w.heap.size, 0, none⟩) 1 1] (w.alloc (.cells #[.string ⟨#[59]⟩] 9)) fun e w' => ∃ a c, e = .returned (.slice a 1 c) ∧ Ops w' (.slice a 1 c) (alikeB xfy 1100 names2) ∧ Below w.heap.size w w' ∧ Below w0.heap.size w0 w' :=
  alike_at hb names2 1 rfl (by decide) (by decide) xfy 1100
theorem alike3 {w0 w : World} (hb : Below w0.heap.size w0 w) :
    Calls Tryz.prog 45 #[.string ⟨#[120, 102, 121]⟩, .int .i64 1050, .slice (some ⟨w.heap.size, 0, none⟩) 1 1] (w.alloc (.cells #[.string ⟨#[45, 62]⟩] 9)) fun e w' => ∃ a c, e = .returned (.slice a 1 c) ∧ Ops w' (.slice a 1 c) (alikeB xfy 1050 names3) ∧ Below w.heap.size w w' ∧ Below w0.heap.size w0 w' :=
  alike_at hb names3 1 rfl (by decide) (by decide) xfy 1050
theorem alike4 {w0 w : World} (hb : Below w0.heap.size w0 w) :
    Calls Tryz.prog 45 #[.string ⟨#[120, 102, 121]⟩, .int .i64 1000, .slice (some ⟨w.heap.size, 0, none⟩) 1 1] (w.alloc (.cells #[.string ⟨#[44]⟩] 9)) fun e w' => ∃ a c, e = .returned (.slice a 1 c) ∧ Ops w' (.slice a 1 c) (alikeB xfy 1000 names4) ∧ Below w.heap.size w w' ∧ Below w0.heap.size w0 w' :=
  alike_at hb names4 1 rfl (by decide) (by decide) xfy 1000
theorem alike5 {w0 w : World} (hb : Below w0.heap.size w0 w) :
    Calls Tryz.prog 45 #[.string ⟨#[102, 121]⟩, .int .i64 900, .slice (some ⟨w.heap.size, 0, none⟩) 1 1] (w.alloc (.cells #[.string ⟨#[92, 43]⟩] 9)) fun e w' => ∃ a c, e = .returned (.slice a 1 c) ∧ Ops w' (.slice a 1 c) (alikeB fy 900 names5) ∧ Below w.heap.size w w' ∧ Below w0.heap.size w0 w' :=
  alike_at hb names5 1 rfl (by decide) (by decide) fy 900
theorem alike6 {w0 w : World} (hb : Below w0.heap.size w0 w) :
    Calls Tryz.prog 45 #[.string ⟨#[120, 102, 120]⟩, .int .i64 700, .slice (some ⟨w.heap.size, 0, none⟩) 16 16] (w.alloc (.cells #[.string ⟨#[61]⟩, .string ⟨#[92, 61]⟩, .string ⟨#[61, 61]⟩, .string ⟨#[92, 61, 61]⟩, .string ⟨#[64, 60]⟩, .string ⟨#[64, 62]⟩, .string ⟨#[64, 61, 60]⟩, .string ⟨#[64, 62, 61]⟩, .string ⟨#[61, 46, 46]⟩, .string ⟨#[105, 115]⟩, .string ⟨#[61, 58, 61]⟩, .string ⟨#[61, 92, 61]⟩, .string ⟨#[60]⟩, .string ⟨#[62]⟩, .string ⟨#[61, 60]⟩, .string ⟨#[62, 61]⟩] 9)) fun e w' => ∃ a c, e = .returned (.slice a 16 c) ∧ Ops w' (.slice a 16 c) (alikeB xfx 700 names6) ∧ Below w.heap.size w w' ∧ Below w0.heap.size w0 w' :=
  alike_at hb names6 16 rfl (by decide) (by decide) xfx 700
theorem alike7 {w0 w : World} (hb : Below w0.heap.size w0 w) :
    Calls Tryz.prog 45 #[.string ⟨#[121, 102, 120]⟩, .int .i64 500, .slice (some ⟨w.heap.size, 0, none⟩) 5 5] (w.alloc (.cells #[.string ⟨#[43]⟩, .string ⟨#[45]⟩, .string ⟨#[47, 92]⟩, .string ⟨#[92, 47]⟩, .string ⟨#[120, 111, 114]⟩] 9)) fun e w' => ∃ a c, e = .returned (.slice a 5 c) ∧ Ops w' (.slice a 5 c) (alikeB yfx 500 names7) ∧ Below w.heap.size w w' ∧ Below w0.heap.size w0 w' :=
  alike_at hb names7 5 rfl (by decide) (by decide) yfx 500
theorem alike8 {w0 w : World} (hb : Below w0.heap.size w0 w) :
    Calls Tryz.prog 45 #[.string ⟨#[121, 102, 120]⟩, .int .i64 400, .slice (some ⟨w.heap.size, 0, none⟩) 6 6] (w.alloc (.cells #[.string ⟨#[42]⟩, .string ⟨#[47, 47]⟩, .string ⟨#[109, 111, 100]⟩, .string ⟨#[114, 101, 109]⟩, .string ⟨#[62, 62]⟩, .string ⟨#[60, 60]⟩] 9)) fun e w' => ∃ a c, e = .returned (.slice a 6 c) ∧ Ops w' (.slice a 6 c) (alikeB yfx 400 names8) ∧ Below w.heap.size w w' ∧ Below w0.heap.size w0 w' :=
  alike_at hb names8 6 rfl (by decide) (by decide) yfx 400
theorem alike9 {w0 w : World} (hb : Below w0.heap.size w0 w) :
    Calls Tryz.prog 45 #[.string ⟨#[120, 102, 121]⟩, .int .i64 200, .slice (some ⟨w.heap.size, 0, none⟩) 1 1] (w.alloc (.cells #[.string ⟨#[94]⟩] 9)) fun e w' => ∃ a c, e = .returned (.slice a 1 c) ∧ Ops w' (.slice a 1 c) (alikeB xfy 200 names9) ∧ Below w.heap.size w w' ∧ Below w0.heap.size w0 w' :=
  alike_at hb names9 1 rfl (by decide) (by decide) xfy 200
theorem alike10 {w0 w : World} (hb : Below w0.heap.size w0 w) :
    Calls Tryz.prog 45 #[.string ⟨#[102, 121]⟩, .int .i64 200, .slice (some ⟨w.heap.size, 0, none⟩) 2 2] (w.alloc (.cells #[.string ⟨#[45]⟩, .string ⟨#[92]⟩] 9)) fun e w' => ∃ a c, e = .returned (.slice a 2 c) ∧ Ops w' (.slice a 2 c) (alikeB fy 200 names10) ∧ Below w.heap.size w w' ∧ Below w0.heap.size w0 w' :=
  alike_at hb names10 2 rfl (by decide) (by decide) fy 200
theorem parts_laid (w : World) (t : TypeId) (ps : List (Value × List O)) (n : Nat) (hn : ps.length = n) (h : n ≤ 100000) :
    Elems 1 (fun p => [p.1]) (w.alloc (.cells (ps.map (·.1)).toArray t)) (.slice (some ⟨w.heap.size, 0, none⟩) n n) ps := by
  subst hn
  refine ⟨_, _, rfl, Nat.le_refl _, by unfold maxLen; omega, Or.inr ⟨_, _, rfl, by simp, fun i x hx j u hu => ?_⟩⟩
  have hj : j = 0 := by have := (List.getElem?_eq_some_iff.1 hu).1; simp at this; exact this
  subst hj
  simp at hu
  subst hu
  rw [World.cell?_alloc_at _ _ _ _ rfl]
  simp [hx]
def parts (r1 r2 r3 r4 r5 r6 r7 r8 r9 r10 : Value) : List (Value × List O) := [(r1, alikeB xfx 1200 names1), (r2, alikeB xfy 1100 names2), (r3, alikeB xfy 1050 names3), (r4, alikeB xfy 1000 names4), (r5, alikeB fy 900 names5), (r6, alikeB xfx 700 names6), (r7, alikeB yfx 500 names7), (r8, alikeB yfx 400 names8), (r9, alikeB xfy 200 names9), (r10, alikeB fy 200 names10)]
theorem parts_flat (r1 r2 r3 r4 r5 r6 r7 r8 r9 r10 : Value) : (parts r1 r2 r3 r4 r5 r6 r7 r8 r9 r10).flatMap (·.2) = opsB := by
  simp only [parts, opsB, List.flatMap_cons, List.flatMap_nil, List.append_nil, List.append_assoc]
theorem plain_len : opsB.length = 35 := by decide +kernel
theorem parts_at (w : World) (r1 r2 r3 r4 r5 r6 r7 r8 r9 r10 : Value) : Elems 1 (fun p => [p.1]) (w.alloc (.cells #[r1, r2, r3, r4, r5, r6, r7, r8, r9, r10] 34)) (.slice (some ⟨w.heap.size, 0, none⟩) 10 10) (parts r1 r2 r3 r4 r5 r6 r7 r8 r9 r10) :=
  parts_laid w 34 (parts r1 r2 r3 r4 r5 r6 r7 r8 r9 r10) 10 rfl (by decide)
theorem concat_plain {w : World} {r1 r2 r3 r4 r5 r6 r7 r8 r9 r10 : Value} {v : Value} (h : Elems 1 (fun p => [p.1]) w v (parts r1 r2 r3 r4 r5 r6 r7 r8 r9 r10)) (hp : ∀ p ∈ parts r1 r2 r3 r4 r5 r6 r7 r8 r9 r10, Ops w p.1 p.2) :
    Calls Tryz.prog 44 #[v] w fun e w' => ∃ r, e = .returned r ∧ Ops w' r opsB ∧ Below w.heap.size w w' ∧ (∀ k, r.ownBlock = some k → w.heap.size ≤ k) := by
  have := concat_walk h hp (by simp [parts]) (by rw [parts_flat, plain_len]; omega)
  rw [parts_flat] at this
  exact this
set_option maxRecDepth 100000
set_option maxHeartbeats 1000000 in
theorem plain_walk (w : World) : Calls Tryz.prog 17 #[] w fun e w' => ∃ v, e = .returned (.agg #[v]) ∧ Ops w' v opsB ∧ Below w.heap.size w w' := by
  have hA := alike1 (w0 := w.alloc (.cells #[.slice none 0 0] 36)) (Below.refl _ _)
  have hsz : (w.alloc (.cells #[.slice none 0 0] 36)).heap.size = w.heap.size + 1 := by simp
  rw [hsz] at hA
  have HA := Lib.hid hA
  clear hA hsz
  go_enter Tryz.func17, Tryz.ntmps17
  (go_wp2_with fail; go_fit (HA.out); rintro e w1 ⟨a1, c1, rfl, h1, _, hb1⟩)
  have H1 := Lib.hid h1
  have HB1 : Hid (Below (w.alloc (.cells #[.slice none 0 0] 36)).heap.size (w.alloc (.cells #[.slice none 0 0] 36)) w1) := Lib.hid (by simpa using hb1)
  clear h1 hb1
  (go_wp2_with fail; go_fit (alike2 HB1.out); rintro e w2 ⟨a2, c2, rfl, h2, hc2, hb2⟩)
  have H2 := Lib.hid h2; have HC2 := Lib.hid hc2; have HB2 := Lib.hid hb2
  clear h2 hc2 hb2
  (go_wp2_with fail; go_fit (alike3 HB2.out); rintro e w3 ⟨a3, c3, rfl, h3, hc3, hb3⟩)
  have H3 := Lib.hid h3; have HC3 := Lib.hid hc3; have HB3 := Lib.hid hb3
  clear h3 hc3 hb3
  (go_wp2_with fail; go_fit (alike4 HB3.out); rintro e w4 ⟨a4, c4, rfl, h4, hc4, hb4⟩)
  have H4 := Lib.hid h4; have HC4 := Lib.hid hc4; have HB4 := Lib.hid hb4
  clear h4 hc4 hb4
  (go_wp2_with fail; go_fit (alike5 HB4.out); rintro e w5 ⟨a5, c5, rfl, h5, hc5, hb5⟩)
  have H5 := Lib.hid h5; have HC5 := Lib.hid hc5; have HB5 := Lib.hid hb5
  clear h5 hc5 hb5
  (go_wp2_with fail; go_fit (alike6 HB5.out); rintro e w6 ⟨a6, c6, rfl, h6, hc6, hb6⟩)
  have H6 := Lib.hid h6; have HC6 := Lib.hid hc6; have HB6 := Lib.hid hb6
  clear h6 hc6 hb6
  (go_wp2_with fail; go_fit (alike7 HB6.out); rintro e w7 ⟨a7, c7, rfl, h7, hc7, hb7⟩)
  have H7 := Lib.hid h7; have HC7 := Lib.hid hc7; have HB7 := Lib.hid hb7
  clear h7 hc7 hb7
  (go_wp2_with fail; go_fit (alike8 HB7.out); rintro e w8 ⟨a8, c8, rfl, h8, hc8, hb8⟩)
  have H8 := Lib.hid h8; have HC8 := Lib.hid hc8; have HB8 := Lib.hid hb8
  clear h8 hc8 hb8
  (go_wp2_with fail; go_fit (alike9 HB8.out); rintro e w9 ⟨a9, c9, rfl, h9, hc9, hb9⟩)
  have H9 := Lib.hid h9; have HC9 := Lib.hid hc9; have HB9 := Lib.hid hb9
  clear h9 hc9 hb9
  (go_wp2_with fail; go_fit (alike10 HB9.out); rintro e w10 ⟨a10, c10, rfl, h10, hc10, hb10⟩)
  have H10 := Lib.hid h10; have HC10 := Lib.hid hc10; have HB10 := Lib.hid hb10
  clear h10 hc10 hb10
  have O10 := Lib.hid H10.out
  have O1 := Lib.hid (((((((((H1.out.ext HC2.out).ext HC3.out).ext HC4.out).ext HC5.out).ext HC6.out).ext HC7.out).ext HC8.out).ext HC9.out).ext HC10.out)
  have O2 := Lib.hid ((((((((H2.out.ext HC3.out).ext HC4.out).ext HC5.out).ext HC6.out).ext HC7.out).ext HC8.out).ext HC9.out).ext HC10.out)
  have O3 := Lib.hid (((((((H3.out.ext HC4.out).ext HC5.out).ext HC6.out).ext HC7.out).ext HC8.out).ext HC9.out).ext HC10.out)
  have O4 := Lib.hid ((((((H4.out.ext HC5.out).ext HC6.out).ext HC7.out).ext HC8.out).ext HC9.out).ext HC10.out)
  have O5 := Lib.hid (((((H5.out.ext HC6.out).ext HC7.out).ext HC8.out).ext HC9.out).ext HC10.out)
  have O6 := Lib.hid ((((H6.out.ext HC7.out).ext HC8.out).ext HC9.out).ext HC10.out)
  have O7 := Lib.hid (((H7.out.ext HC8.out).ext HC9.out).ext HC10.out)
  have O8 := Lib.hid ((H8.out.ext HC9.out).ext HC10.out)
  have O9 := Lib.hid (H9.out.ext HC10.out)
  clear HA H1 H2 H3 H4 H5 H6 H7 H8 H9 H10 HC2 HC3 HC4 HC5 HC6 HC7 HC8 HC9 HC10 HB1 HB2 HB3 HB4 HB5 HB6 HB7 HB8 HB9
  have hpl := parts_at w10 (.slice a1 1 c1) (.slice a2 1 c2) (.slice a3 1 c3) (.slice a4 1 c4) (.slice a5 1 c5) (.slice a6 16 c6) (.slice a7 5 c7) (.slice a8 6 c8) (.slice a9 1 c9) (.slice a10 2 c10)
  have HPL := Lib.hid hpl
  clear hpl
  have HPO : Hid (∀ p ∈ (parts (.slice a1 1 c1) (.slice a2 1 c2) (.slice a3 1 c3) (.slice a4 1 c4) (.slice a5 1 c5) (.slice a6 16 c6) (.slice a7 5 c7) (.slice a8 6 c8) (.slice a9 1 c9) (.slice a10 2 c10)), Ops (w10.alloc (.cells #[.slice a1 1 c1, .slice a2 1 c2, .slice a3 1 c3, .slice a4 1 c4, .slice a5 1 c5, .slice a6 16 c6, .slice a7 5 c7, .slice a8 6 c8, .slice a9 1 c9, .slice a10 2 c10] 34)) p.1 p.2) := Lib.hid (by
    intro p hp
    simp only [parts, List.mem_cons, List.not_mem_nil, or_false] at hp
    rcases hp with rfl | rfl | rfl | rfl | rfl | rfl | rfl | rfl | rfl | rfl
    
    · exact O1.out.ext (bel1' _ _)
    · exact O2.out.ext (bel1' _ _)
    · exact O3.out.ext (bel1' _ _)
    · exact O4.out.ext (bel1' _ _)
    · exact O5.out.ext (bel1' _ _)
    · exact O6.out.ext (bel1' _ _)
    · exact O7.out.ext (bel1' _ _)
    · exact O8.out.ext (bel1' _ _)
    · exact O9.out.ext (bel1' _ _)
    · exact O10.out.ext (bel1' _ _))
  (go_wp2_with fail; go_fit (concat_plain HPL.out HPO.out); rintro e w11 ⟨r, rfl, h11, hb11, hf11⟩)
  obtain ⟨ar, cr, rfl, _⟩ := h11.form
  have hpl : opsB.length = 35 := plain_len
  rw [hpl] at h11 ⊢
  clear hpl
  have HO := Lib.hid h11
  have hbw : Below (w.alloc (.cells #[.slice none 0 0] 36)).heap.size (w.alloc (.cells #[.slice none 0 0] 36)) w11 := Ext.trans' (Ext.trans' HB10.out (bel1' _ _)) hb11
  have e1 : w11.cell? ⟨w.heap.size, 0, none⟩ = some (.slice none 0 0) := cell_later hbw (by simp)
  have f1 : w11.frozen? ⟨w.heap.size, 0, none⟩ = false := (hbw.frozen (p := ⟨w.heap.size, 0, none⟩) (by simp)).trans (by simp)
  have HBW := Lib.hid (Below.trans (bel1' w _) (hbw.mono (by simp)))
  have HF := Lib.hid hf11
  have HS10 : Hid (w.heap.size + 1 ≤ w10.heap.size) := Lib.hid (by have := HB10.out.size; simpa using this)
  clear hbw hb11 h11 hf11
  go_wp2
  (try simp only [Exit.inBlock, Exit.then])
  refine bodyPost_ret (v := .agg #[.slice ar 35 cr]) (by simp [results, Tryz.f17]; go_simp) rfl ⟨_, rfl, ?_, ?_⟩
  · refine HO.out.set _ _ (fun h => ?_)
    have h' := HF.out _ h
    simp at h'
    have := HS10.out
    omega
  · exact HBW.out.setCell (Nat.le_refl _) _
end Go.Proofs.YtobdhcaoeholhaaGreatDoor
/- Operators: Add. -/
namespace Go.Proofs.YtobdhcaoeholhaaGreatDoor
open Go.Shelf Go.RowKit

theorem good_len {xs : List O} (h : goodB xs = true) : xs.length ≤ 128 := by
  unfold goodB at h
  rw [Bool.and_eq_true] at h
  simpa using h.1

end Go.Proofs.YtobdhcaoeholhaaGreatDoor
/- A region that draws its order, walked operation by operation while a condition holds. Nothing here speaks of one program. -/
namespace Go
section
variable {P : Program} {md : Region.Mode} {ops : Array Oper} {Q : Exit → Act → World → Prop} {S : World → Prop}
theorem held_t {i : Nat} {oi : Oper} {fuel : Nat} {listed : Array Bool} {a : Act} {w : World} (hS : S w)
    (h : ∃ v, (∀ w, S w → (execOp a.eval oi).run P w = .ok (.value v) w) ∧ wpAnyH P md ops Q S fuel (listed.setIfInBounds i true) (a.put oi.dst v) w)
    (hi : ops[i]? = some oi := by simp only [List.getElem?_toArray, List.getElem?_cons_zero, List.getElem?_cons_succ]; rfl)
    (hs : Region.noSelect ops = true := by kernel_rfl) (hf : Region.free md ops listed i = true := by kernel_rfl) (hr : (Region.ready md ops listed).contains i = true := by kernel_rfl) (hw : Region.wanted oi (yielded ops a.tmps) = true := by rfl)
    (hQ : ∀ v c a w, Q (.panic c) (a.put oi.dst v) w → Q (.panic c) a w := by exact fun _ _ _ _ h => h) : wpAnyH P md ops Q S (fuel + 1) listed a w := by
  obtain ⟨v, h1, h2⟩ := h
  exact wpAnyH_take hi hs hf hr (hQ v) (Or.inl ⟨hw, h1⟩) hS h2
theorem held_s {i : Nat} {oi : Oper} {fuel : Nat} {listed : Array Bool} {a : Act} {w : World} (hS : S w) (h : wpAnyH P md ops Q S fuel (listed.setIfInBounds i true) (a.put oi.dst undef) w)
    (hi : ops[i]? = some oi := by simp only [List.getElem?_toArray, List.getElem?_cons_zero, List.getElem?_cons_succ]; rfl)
    (hs : Region.noSelect ops = true := by kernel_rfl) (hf : Region.free md ops listed i = true := by kernel_rfl) (hr : (Region.ready md ops listed).contains i = true := by kernel_rfl) (hw : Region.wanted oi (yielded ops a.tmps) = false := by rfl)
    (hQ : ∀ c a w, Q (.panic c) (a.put oi.dst undef) w → Q (.panic c) a w := by exact fun _ _ _ h => h) : wpAnyH P md ops Q S (fuel + 1) listed a w :=
  wpAnyH_take hi hs hf hr hQ (Or.inr ⟨hw, rfl⟩) hS h
theorem held_c (i : Nat) {o : Oper} {fuel : Nat} {listed : Array Bool} {a : Act} {w : World}
    (h : ∀ K' : Act → World → Prop, Shut (∀ a w, S w → (S w → wpAnyH P md ops Q S fuel (listed.setIfInBounds i true) a w) → K' a w) → if Region.wanted o (yielded ops a.tmps) = true then Oper.wp P o a w K' Q else K' (a.put o.dst undef) w)
    (hr : Region.ready md ops listed = [i] := by kernel_rfl) (hi : ops[i]? = some o := by simp only [List.getElem?_toArray, List.getElem?_cons_zero, List.getElem?_cons_succ]; rfl) : wpAnyH P md ops Q S (fuel + 1) listed a w :=
  wpAnyH_ready hr (by simp) (AllReadyH.cons hi h AllReadyH.nil)
end
end Go
/- The project's reader in memory: its operators, what is not read yet, its variables. -/
namespace Go.Proofs.YtobdhcaoeholhaaGreatDoor
open Go.RowKit
set_option linter.unusedVariables false

abbrev tkVal (q : TokP) : Value := .agg #[.int .i64 (q.1.kind : Int), .string ⟨q.1.text.toArray⟩, .int .i64 (q.1.n : Int), .bool q.1.opens, .int .i64 (q.2 : Int)]
def nmCells (p : NmP) : List Value := [.string ⟨p.1.toArray⟩, .int .i64 (p.2 : Int)]
theorem nmCells_len (p : NmP) : (nmCells p).length = 2 := rfl
def Nms (w : World) (v : Value) (l : List NmP) : Prop := Elems 2 nmCells w v l
abbrev preO (xs : List O) (n : List UInt8) : O × Bool := oneB xs n 1
abbrev betO (xs : List O) (n : List UInt8) : O × Bool := oneB xs n 2
abbrev TERMX (xs : List O) := TERM (preO xs) (betO xs)
/-- A token that a text may have. -/
def tokOk (q : TokP) : Prop := q.1.n ≤ 9223372036854775807 ∧ q.1.text.length ≤ 5000 ∧ q.2 ≤ 4096
/-- Nothing runs over. -/
def Nice (s : RS) : Prop := s.next + s.rest.length ≤ 2000 ∧ s.names.length ≤ s.next ∧ (∀ q ∈ s.rest, tokOk q) ∧ ∀ p ∈ s.names, p.2 < s.next
theorem Nice.drop {s : RS} (h : Nice s) : Nice (dropR s) := by
  obtain ⟨h1, h2, h3, h4⟩ := h
  have := dropS_le s
  exact ⟨by show s.next + (dropR s).rest.length ≤ 2000; omega, h2, fun q hq => h3 q (List.mem_of_mem_tail hq), h4⟩
theorem Nice.head {s : RS} (h : Nice s) : tokOk (headR s) := by
  unfold headR
  cases hr : s.rest with
  | nil => exact ⟨by decide, by decide, by decide⟩
  | cons a r => exact h.2.2.1 a (by rw [hr]; exact List.mem_cons_self)
theorem Nice.next {s : RS} (h : Nice (dropR s)) (hne : s.rest ≠ []) (hs : Nice s) : Nice { dropR s with next := (dropR s).next + 1 } := by
  obtain ⟨h1, h2, h3, h4⟩ := h
  have hd := dropS_lt hne
  have h0 := hs.1
  have en : (dropR s).next = s.next := rfl
  refine ⟨?_, ?_, h3, fun p hp => ?_⟩
  · show (dropR s).next + 1 + (dropR s).rest.length ≤ 2000
    omega
  · show (dropR s).names.length ≤ (dropR s).next + 1
    omega
  · have := h4 p hp
    show p.2 < (dropR s).next + 1
    omega
theorem Nice.var {s : RS} (name : List UInt8) (h : Nice (dropR s)) (hne : s.rest ≠ []) (hs : Nice s) : Nice (varR name (dropR s)).2 := by
  obtain ⟨g1, g2, g3, g4⟩ := Nice.next h hne hs
  have h2 := h.2.1
  unfold varR
  split
  · exact h
  · refine ⟨g1, ?_, g3, fun p hp => ?_⟩
    · simp only
      split
      · omega
      · rw [List.length_append, List.length_singleton]; omega
    · simp only at hp
      split at hp
      · exact g4 p hp
      · rcases List.mem_append.1 hp with hp | hp
        · exact g4 p hp
        · simp at hp
          subst hp
          show (dropR s).next < (dropR s).next + 1
          omega

theorem Elems.stay {α : Type} {S : Nat} {cells : α → List Value} {w w' : World} {v : Value} {xs : List α} (h : Elems S cells w v xs) (hb : Stays w w') : Elems S cells w' v xs := by
  obtain ⟨a, cap, h1, h2, h3, h6⟩ := h
  refine ⟨a, cap, h1, h2, h3, ?_⟩
  rcases h6 with h6 | ⟨b, off, e1, e2, e3⟩
  · exact Or.inl h6
  · exact Or.inr ⟨b, off, e1, Nat.lt_of_lt_of_le e2 hb.1, fun i x hx j u hu => hb.2 _ _ (e3 i x hx j u hu)⟩
/-- The reader lies there, in block rb. D: blocks that are not looked at for anything else; M, some of them: blocks that turn. -/
structure St (D M : Nat → Bool) (w : World) (rb : Nat) (xs : List O) (s : RS) : Prop where
  mb : M rb = true
  md : ∀ k, M k = true → D k = true
  old : Old D w
  co : ∃ vo, w.cell? ⟨rb, 0, none⟩ = some vo ∧ Ops (hide D w) vo xs
  cl : ∃ vl, w.cell? ⟨rb, 1, none⟩ = some vl ∧ Toks (hide D w) vl s.rest
  c2 : w.cell? ⟨rb, 2, none⟩ = some (.int .i64 (s.next : Int))
  c3 : ∃ vn, w.cell? ⟨rb, 3, none⟩ = some vn ∧ w.ownsRow (rb + 1) 54 2 vn s.names.length (s.names.flatMap nmCells) ∧ ∀ k, vn.ownBlock = some k → M k = true
  fz : ∀ j, w.frozen? ⟨rb, j, none⟩ = false
  nice : Nice s
theorem St.lt {D M : Nat → Bool} {w : World} {rb : Nat} {xs : List O} {s : RS} (h : St D M w rb xs s) : rb < w.heap.size := World.block_lt_of_cell? _ _ h.c2
/-- Of the old blocks only those of M have turned; of them the same are not looked at, the same turn. -/
structure Turn (D M D' M' : Nat → Bool) (w w' : World) : Prop where
  size : w.heap.size ≤ w'.heap.size
  dd : ∀ k, k < w.heap.size → D' k = D k
  mm : ∀ k, k < w.heap.size → M' k = M k
  kept : ∀ k, k < w.heap.size → M k = false → w'.heap[k]? = w.heap[k]?
  ot : Below 0 w w'
theorem Turn.refl (D M : Nat → Bool) (w : World) : Turn D M D M w w := ⟨Nat.le_refl _, fun _ _ => rfl, fun _ _ => rfl, fun _ _ _ => rfl, Below.refl _ _⟩
theorem Turn.trans {D M D' M' D2 M2 : Nat → Bool} {a b c : World} (h : Turn D M D' M' a b) (g : Turn D' M' D2 M2 b c) : Turn D M D2 M2 a c :=
  ⟨Nat.le_trans h.size g.size, fun k hk => (g.dd k (Nat.lt_of_lt_of_le hk h.size)).trans (h.dd k hk), fun k hk => (g.mm k (Nat.lt_of_lt_of_le hk h.size)).trans (h.mm k hk),
    fun k hk hm => (g.kept k (Nat.lt_of_lt_of_le hk h.size) ((h.mm k hk).trans hm)).trans (h.kept k hk hm), h.ot.trans g.ot⟩
theorem Turn.below {D M : Nat → Bool} {w w' : World} (h : Below w.heap.size w w') : Turn D M D M w w' := ⟨h.size, fun _ _ => rfl, fun _ _ => rfl, fun k hk _ => h.block k hk, h.mono (Nat.zero_le _)⟩
theorem Turn.stays {D M D' M' : Nat → Bool} {w w' : World} (h : Turn D M D' M' w w') (md : ∀ k, M k = true → D k = true) : Stays (hide D w) (hide D' w') :=
  Stays.hide h.size fun k hk hd => ⟨(h.dd k hk).trans hd, h.kept k hk (by cases hm : M k with | false => rfl | true => rw [md k hm] at hd; cases hd)⟩
theorem Turn.cell {D M D' M' : Nat → Bool} {w w' : World} (h : Turn D M D' M' w w') {b j : Nat} {v : Value} (hm : M b = false) (hc : w.cell? ⟨b, j, none⟩ = some v) : w'.cell? ⟨b, j, none⟩ = some v := by
  rw [World.cell?_of_block (h.kept b (World.block_lt_of_cell? _ _ hc) hm)]; exact hc
theorem Turn.froz {D M D' M' : Nat → Bool} {w w' : World} (h : Turn D M D' M' w w') {b j : Nat} (hb : b < w.heap.size) (hm : M b = false) (hc : w.frozen? ⟨b, j, none⟩ = false) : w'.frozen? ⟨b, j, none⟩ = false := by
  rw [World.frozen?_of_block (h.kept b hb hm)]; exact hc
/-- As many blocks as lie below n and don't turn are as they were. -/
theorem Turn.bel {D M D' M' : Nat → Bool} {w w' : World} (h : Turn D M D' M' w w') {n : Nat} (hn : n ≤ w.heap.size) (hm : ∀ k, k < n → M k = false) : Below n w w' :=
  ⟨h.ot.os, h.ot.tape, h.ot.output, h.size, fun k hk => h.kept k (Nat.lt_of_lt_of_le hk hn) (hm k hk)⟩
/-- A block of one's own that turns in the end. -/
theorem Turn.set {D M D' M' : Nat → Bool} {w w' : World} (h : Turn D M D' M' w w') (a : Addr) (u : Value) (ha : w.heap.size ≤ a.block ∨ M a.block = true) : Turn D M D' M' w (w'.setCell a u) :=
  ⟨Nat.le_trans h.size (by simp [World.setCell]), h.dd, h.mm, fun k hk hm => (Below.heap_setCell w' a u k (fun e => by
    rcases ha with ha | ha
    · omega
    · rw [e, ha] at hm; cases hm)).trans (h.kept k hk hm), h.ot.setCell (Nat.zero_le _) u⟩
theorem row_at {w w' : World} {B k n : Nat} {e : TypeId} {v : Value} {xs : List Value} (h : w.ownsRow B e k v n xs) (hb : ∀ g, v.ownBlock = some g → w'.heap[g]? = w.heap[g]?) : w'.ownsRow B e k v n xs := by
  obtain ⟨h0, h1⟩ := h
  refine ⟨h0, ?_⟩
  rcases h1 with h1 | ⟨g, cap, cur, rfl, hg, hh, h2⟩
  · exact Or.inl h1
  · exact Or.inr ⟨g, cap, cur, rfl, hg, by rw [hb g rfl]; exact hh, h2⟩
theorem row_in {w : World} {B k n : Nat} {e : TypeId} {v : Value} {xs : List Value} (h : w.ownsRow B e k v n xs) {g : Nat} (hg : v.ownBlock = some g) : B ≤ g ∧ g < w.heap.size := by
  rcases h.2 with ⟨rfl, _⟩ | ⟨g', cap, cur, rfl, h1, h2, _⟩
  · cases hg
  · cases hg
    exact ⟨h1, (Array.getElem?_eq_some_iff.1 h2).1⟩
/-- It lies there still. -/
theorem St.step {D M D' : Nat → Bool} {w w' : World} {rb : Nat} {xs : List O} {s : RS} (h : St D M w rb xs s) (hs : Stays (hide D w) (hide D' w')) (md : ∀ k, M k = true → D' k = true) (ho : Old D' w') (hk : ∀ k, k < w.heap.size → M k = true → w'.heap[k]? = w.heap[k]?) : St D' M w' rb xs s := by
  have hr := hk rb h.lt h.mb
  obtain ⟨vo, o1, o2⟩ := h.co
  obtain ⟨vl, l1, l2⟩ := h.cl
  obtain ⟨vn, n1, n2, n3⟩ := h.c3
  exact { mb := h.mb, md := md, old := ho, co := ⟨vo, by rw [World.cell?_of_block hr]; exact o1, Elems.stay o2 hs⟩, cl := ⟨vl, by rw [World.cell?_of_block hr]; exact l1, Elems.stay l2 hs⟩
          c2 := by rw [World.cell?_of_block hr]; exact h.c2
          c3 := ⟨vn, by rw [World.cell?_of_block hr]; exact n1, row_at n2 (fun g hg => hk g (row_in n2 hg).2 (n3 g hg)), n3⟩
          fz := fun j => by rw [World.frozen?_of_block hr]; exact h.fz j, nice := h.nice }
theorem St.later {D M : Nat → Bool} {w w' : World} {rb : Nat} {xs : List O} {s : RS} (h : St D M w rb xs s) (hb : Below w.heap.size w w') : St D M w' rb xs s :=
  h.step (Stays.below hb fun _ _ h => h) h.md (h.old.mono hb.size) fun k hk _ => hb.block k hk
/-- One more block is not looked at. -/
def plusB (D : Nat → Bool) (b : Nat) : Nat → Bool := fun k => k == b || D k
theorem plusB_self (D : Nat → Bool) (b : Nat) : plusB D b b = true := by simp [plusB]
theorem plusB_of {D : Nat → Bool} {b k : Nat} (h : D k = true) : plusB D b k = true := by simp [plusB, h]
theorem plusB_ne {D : Nat → Bool} {b k : Nat} (h : k ≠ b) : plusB D b k = D k := by simp [plusB, h]
theorem St.box {D M : Nat → Bool} {w w' : World} {rb : Nat} {xs : List O} {s : RS} (h : St D M w rb xs s) (hb : Below w.heap.size w w') {b : Nat} (h1 : w.heap.size ≤ b) (h2 : b < w'.heap.size) : St (plusB D b) M w' rb xs s :=
  h.step (Stays.below hb fun k hk hd => (plusB_ne (by omega)).trans hd) (fun k hm => plusB_of (h.md k hm)) (fun k hk => (plusB_ne (by omega)).trans (h.old k (Nat.le_trans hb.size hk))) fun k hk _ => hb.block k hk
/-- A block that is not looked at, and isn't the reader's, turns. -/
theorem St.put {D M : Nat → Bool} {w : World} {rb : Nat} {xs : List O} {s : RS} (h : St D M w rb xs s) (a : Addr) (u : Value) (hd : D a.block = true) (hm : M a.block = false) : St D M (w.setCell a u) rb xs s :=
  h.step (Stays.set a u hd) h.md (h.old.mono (by simp [World.setCell])) fun k _ hk => Below.heap_setCell w a u k (fun e => by rw [e, hm] at hk; cases hk)
/-- A box of one's own is looked at no more. -/
theorem Turn.box {D M D' M' : Nat → Bool} {w w' : World} {b : Nat} (h : Turn (plusB D b) M D' M' w w') (hb : w.heap.size ≤ b) : Turn D M D' M' w w' :=
  ⟨h.size, fun k hk => (h.dd k hk).trans (plusB_ne (by omega)), h.mm, h.kept, h.ot⟩
theorem Turn.into {D M : Nat → Bool} {w w' : World} (h : Below w.heap.size w w') {b : Nat} (hb : w.heap.size ≤ b) : Turn D M (plusB D b) M w w' :=
  ⟨h.size, fun k hk => plusB_ne (by omega), fun _ _ => rfl, fun k hk _ => h.block k hk, h.mono (Nat.zero_le _)⟩
/-- A box of one's own with these values. -/
structure Box (w : World) (b : Nat) (vs : List Value) : Prop where
  cells : ∀ j u, vs[j]? = some u → w.cell? ⟨b, j, none⟩ = some u
  fz : ∀ j, w.frozen? ⟨b, j, none⟩ = false
  lt : b < w.heap.size
theorem box_new (w : World) (cs : Array Value) (ty : TypeId) : ∃ w1, w.alloc (.cells cs ty) = w1 ∧ Below w.heap.size w w1 ∧ w1.heap.size = w.heap.size + 1 ∧ Box w1 w.heap.size cs.toList := by
  refine ⟨_, rfl, bel1' _ _, by simp, fun j u h => ?_, fun j => by simp, by simp⟩
  have := cell_new w cs ty j u h
  rw [add_plain, Nat.zero_add] at this
  exact this
theorem Box.ext {w w' : World} {b : Nat} {vs : List Value} (h : Box w b vs) (hb : Below w.heap.size w w') : Box w' b vs :=
  ⟨fun j u hu => cell_later hb (h.cells j u hu), fun j => (hb.frozen (p := ⟨b, j, none⟩) h.lt).trans (h.fz j), Nat.lt_of_lt_of_le h.lt hb.size⟩
theorem Box.turn {D M D' M' : Nat → Bool} {w w' : World} {b : Nat} {vs : List Value} (h : Box w b vs) (ht : Turn D M D' M' w w') (hm : M b = false) : Box w' b vs :=
  ⟨fun j u hu => ht.cell hm (h.cells j u hu), fun j => ht.froz h.lt hm (h.fz j), Nat.lt_of_lt_of_le h.lt ht.size⟩
theorem Box.far {w : World} {b c k : Nat} {u : Value} {vs : List Value} (h : Box w b vs) (hne : b ≠ c) : Box (w.setCell ⟨c, k, none⟩ u) b vs :=
  ⟨fun j v hv => by
    rw [World.cell?_setCell_other]
    · exact h.cells j v hv
    · intro e; injection e with e _ _; exact hne e.symm, fun j => by rw [World.frozen?_setCell]; exact h.fz j, by have := h.lt; simpa [World.setCell] using this⟩
theorem Box.set {w : World} {b k : Nat} {u : Value} {vs : List Value} (h : Box w b vs) (hk : k < vs.length) : Box (w.setCell ⟨b, k, none⟩ u) b (vs.set k u) :=
  ⟨fun j v hv => by
    by_cases hj : j = k
    · subst hj
      rw [List.getElem?_set_self hk] at hv
      injection hv with hv
      subst hv
      exact css (h.cells j _ (List.getElem?_eq_getElem hk))
    · rw [List.getElem?_set_ne (by omega)] at hv
      rw [World.cell?_setCell_other]
      · exact h.cells j v hv
      · intro e; injection e with _ e _; exact hj e.symm, fun j => by rw [World.frozen?_setCell]; exact h.fz j, by have := h.lt; simpa [World.setCell] using this⟩
theorem Box.five {w : World} {b : Nat} {v0 v1 v2 v3 v4 : Value} (h : Box w b [v0, v1, v2, v3, v4]) : w.cell? ⟨b, 0, none⟩ = some v0 ∧ w.cell? ⟨b, 1, none⟩ = some v1 ∧ w.cell? ⟨b, 2, none⟩ = some v2 ∧ w.cell? ⟨b, 3, none⟩ = some v3 ∧ w.cell? ⟨b, 4, none⟩ = some v4 ∧ ∀ j, w.frozen? ⟨b, j, none⟩ = false :=
  ⟨h.cells 0 _ rfl, h.cells 1 _ rfl, h.cells 2 _ rfl, h.cells 3 _ rfl, h.cells 4 _ rfl, h.fz⟩
theorem Box.four {w : World} {b : Nat} {v0 v1 v2 v3 : Value} (h : Box w b [v0, v1, v2, v3]) : w.cell? ⟨b, 0, none⟩ = some v0 ∧ w.cell? ⟨b, 1, none⟩ = some v1 ∧ w.cell? ⟨b, 2, none⟩ = some v2 ∧ w.cell? ⟨b, 3, none⟩ = some v3 ∧ ∀ j, w.frozen? ⟨b, j, none⟩ = false :=
  ⟨h.cells 0 _ rfl, h.cells 1 _ rfl, h.cells 2 _ rfl, h.cells 3 _ rfl, h.fz⟩
theorem Box.three {w : World} {b : Nat} {v0 v1 v2 : Value} (h : Box w b [v0, v1, v2]) : w.cell? ⟨b, 0, none⟩ = some v0 ∧ w.cell? ⟨b, 1, none⟩ = some v1 ∧ w.cell? ⟨b, 2, none⟩ = some v2 ∧ ∀ j, w.frozen? ⟨b, j, none⟩ = false :=
  ⟨h.cells 0 _ rfl, h.cells 1 _ rfl, h.cells 2 _ rfl, h.fz⟩
/-- One's own box is looked at again. -/
theorem St.unbox {D M : Nat → Bool} {w : World} {rb b : Nat} {xs : List O} {s : RS} (h : St (plusB D b) M w rb xs s) (md : ∀ k, M k = true → D k = true) (ho : Old D w) : St D M w rb xs s :=
  h.step (Stays.less fun k hk => by
    by_cases e : k = b
    · rw [e, plusB_self] at hk; cases hk
    · rwa [plusB_ne e] at hk) md ho fun _ _ _ => rfl
abbrev set3 (w : World) (b : Nat) (u0 u1 u2 : Value) : World := ((w.setCell ⟨b, 0, none⟩ u0).setCell ⟨b, 1, none⟩ u1).setCell ⟨b, 2, none⟩ u2
abbrev set4 (w : World) (b : Nat) (u0 u1 u2 u3 : Value) : World := (set3 w b u0 u1 u2).setCell ⟨b, 3, none⟩ u3
abbrev set5 (w : World) (b : Nat) (u0 u1 u2 u3 u4 : Value) : World := (set4 w b u0 u1 u2 u3).setCell ⟨b, 4, none⟩ u4
theorem St.put3 {D M : Nat → Bool} {w : World} {rb : Nat} {xs : List O} {s : RS} (h : St D M w rb xs s) {b : Nat} (hd : D b = true) (hm : M b = false) (u0 u1 u2 : Value) : St D M (set3 w b u0 u1 u2) rb xs s :=
  ((h.put ⟨b, 0, none⟩ u0 hd hm).put ⟨b, 1, none⟩ u1 hd hm).put ⟨b, 2, none⟩ u2 hd hm
theorem St.put4 {D M : Nat → Bool} {w : World} {rb : Nat} {xs : List O} {s : RS} (h : St D M w rb xs s) {b : Nat} (hd : D b = true) (hm : M b = false) (u0 u1 u2 u3 : Value) : St D M (set4 w b u0 u1 u2 u3) rb xs s :=
  (h.put3 hd hm u0 u1 u2).put ⟨b, 3, none⟩ u3 hd hm
theorem St.put5 {D M : Nat → Bool} {w : World} {rb : Nat} {xs : List O} {s : RS} (h : St D M w rb xs s) {b : Nat} (hd : D b = true) (hm : M b = false) (u0 u1 u2 u3 u4 : Value) : St D M (set5 w b u0 u1 u2 u3 u4) rb xs s :=
  (h.put4 hd hm u0 u1 u2 u3).put ⟨b, 4, none⟩ u4 hd hm
theorem Turn.set3 {D M D' M' : Nat → Bool} {w w' : World} (h : Turn D M D' M' w w') {b : Nat} (hb : w.heap.size ≤ b ∨ M b = true) (u0 u1 u2 : Value) : Turn D M D' M' w (Go.Proofs.YtobdhcaoeholhaaGreatDoor.set3 w' b u0 u1 u2) :=
  ((h.set ⟨b, 0, none⟩ u0 hb).set ⟨b, 1, none⟩ u1 hb).set ⟨b, 2, none⟩ u2 hb
theorem Turn.set4 {D M D' M' : Nat → Bool} {w w' : World} (h : Turn D M D' M' w w') {b : Nat} (hb : w.heap.size ≤ b ∨ M b = true) (u0 u1 u2 u3 : Value) : Turn D M D' M' w (Go.Proofs.YtobdhcaoeholhaaGreatDoor.set4 w' b u0 u1 u2 u3) :=
  (h.set3 hb u0 u1 u2).set ⟨b, 3, none⟩ u3 hb
theorem Turn.set5 {D M D' M' : Nat → Bool} {w w' : World} (h : Turn D M D' M' w w') {b : Nat} (hb : w.heap.size ≤ b ∨ M b = true) (u0 u1 u2 u3 u4 : Value) : Turn D M D' M' w (Go.Proofs.YtobdhcaoeholhaaGreatDoor.set5 w' b u0 u1 u2 u3 u4) :=
  (h.set4 hb u0 u1 u2 u3).set ⟨b, 4, none⟩ u4 hb
theorem Old.out {D M : Nat → Bool} {w : World} {rb : Nat} {xs : List O} {s : RS} (h : St D M w rb xs s) {k : Nat} (hk : w.heap.size ≤ k) : M k = false := by
  cases hm : M k with
  | false => rfl
  | true => have := h.md k hm; rw [h.old k hk] at this; cases this
/-- Where the reader's parts lie. -/
theorem St.parts {D M : Nat → Bool} {w : World} {rb : Nat} {xs : List O} {s : RS} (h : St D M w rb xs s) : ∃ vo vl vn, w.cell? ⟨rb, 0, none⟩ = some vo ∧ w.cell? ⟨rb, 1, none⟩ = some vl ∧ w.cell? ⟨rb, 2, none⟩ = some (.int .i64 (s.next : Int)) ∧ w.cell? ⟨rb, 3, none⟩ = some vn ∧ (∀ j, w.frozen? ⟨rb, j, none⟩ = false) ∧ Ops (hide D w) vo xs ∧ Toks (hide D w) vl s.rest ∧ w.ownsRow (rb + 1) 54 2 vn s.names.length (s.names.flatMap nmCells) ∧ ∀ k, vn.ownBlock = some k → M k = true := by
  obtain ⟨vo, o1, o2⟩ := h.co
  obtain ⟨vl, l1, l2⟩ := h.cl
  obtain ⟨vn, n1, n2, n3⟩ := h.c3
  exact ⟨vo, vl, vn, o1, l1, h.c2, n1, h.fz, o2, l2, n2, n3⟩
theorem take_rest {w : World} {v : Value} {x : TokP} {r : List TokP} (h : Toks w v (x :: r)) : ∃ b off c, v = .slice (some ⟨b, off, none⟩) (r.length + 1) c ∧ r.length + 1 ≤ c ∧ c ≤ maxLen ∧ b < w.heap.size ∧ Toks w (.slice (some ⟨b, off + 5, none⟩) r.length (c - 1)) r ∧
    w.cell? ⟨b, off, none⟩ = some (.int .i64 (x.1.kind : Int)) ∧ w.cell? ⟨b, off + 1, none⟩ = some (.string ⟨x.1.text.toArray⟩) ∧ w.cell? ⟨b, off + 2, none⟩ = some (.int .i64 (x.1.n : Int)) ∧ w.cell? ⟨b, off + 3, none⟩ = some (.bool x.1.opens) ∧ w.cell? ⟨b, off + 4, none⟩ = some (.int .i64 (x.2 : Int)) := by
  obtain ⟨a, c, e, h1, h2, h3⟩ := h
  rcases h3 with h3 | ⟨b, off, rfl, hb, hc⟩
  · cases h3
  · rw [List.length_cons] at e h1
    refine ⟨b, off, c, e, h1, h2, hb, ⟨_, c - 1, rfl, by omega, by unfold maxLen at *; omega, Or.inr ⟨b, off + 5, rfl, hb, fun i y hy j u hu => ?_⟩⟩, ?_, ?_, ?_, ?_, ?_⟩
    · have := hc (i + 1) y (by simpa using hy) j u hu
      rw [show off + 5 + (i * 5 + j) = off + ((i + 1) * 5 + j) by omega]
      exact this
    · simpa using hc 0 x rfl 0 _ rfl
    · simpa using hc 0 x rfl 1 _ rfl
    · simpa using hc 0 x rfl 2 _ rfl
    · simpa using hc 0 x rfl 3 _ rfl
    · simpa using hc 0 x rfl 4 _ rfl
theorem toks_none {w : World} {v : Value} (h : Toks w v []) : ∃ a c, v = .slice a 0 c ∧ c ≤ maxLen := by
  obtain ⟨a, c, e, h1, h2, _⟩ := h
  exact ⟨a, c, e, h2⟩
end Go.Proofs.YtobdhcaoeholhaaGreatDoor
