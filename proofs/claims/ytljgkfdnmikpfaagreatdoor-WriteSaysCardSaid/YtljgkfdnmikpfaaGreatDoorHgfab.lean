import Derived.Test.YtljgkfdnmikpfaaGreatDoorHgfaa
import Derived.Shelf.Spec.SlicesGrow
import Derived.Laws.MakeOwn
import Derived.Deep.RegionHeld3
import Derived.Laws.StructEq
set_option linter.unusedVariables false
set_option linter.unusedSimpArgs false
/- Operators: slices.Grow and slices.Concat at them. -/
namespace Go.Proofs.YtljgkfdnmikpfaaGreatDoor
open Go.Shelf Go.RowKit

theorem flat3_len (L : List O) : (L.flatMap oCells).length = L.length * 3 := by
  induction L with
  | nil => rfl
  | cons a r ih => rw [List.flatMap_cons, List.length_append, ih, oCells_len]; simp; omega
theorem flat3_get : ∀ (L : List O) (i : Nat) (x : O), L[i]? = some x → ∀ j, j < 3 → (L.flatMap oCells)[i * 3 + j]? = (oCells x)[j]?
  | [], i, x, h, _, _ => by simp at h
  | a :: r, 0, x, h, j, hj => by
    simp at h
    subst h
    rw [List.flatMap_cons, List.getElem?_append_left (by rw [oCells_len]; omega)]
    congr 1
    omega
  | a :: r, i + 1, x, h, j, hj => by
    rw [List.flatMap_cons, List.getElem?_append_right (by rw [oCells_len]; omega), oCells_len, show (i + 1) * 3 + j - 3 = i * 3 + j by omega]
    exact flat3_get r i x (by simpa using h) j hj
theorem flat3_at (L : List O) (j : Nat) (u : Value) (h : (L.flatMap oCells)[j]? = some u) : ∃ x, L[j / 3]? = some x ∧ (oCells x)[j % 3]? = some u := by
  have hj := (List.getElem?_eq_some_iff.1 h).1
  rw [flat3_len] at hj
  obtain ⟨x, hx⟩ : ∃ x, L[j / 3]? = some x := ⟨_, List.getElem?_eq_getElem (by omega)⟩
  refine ⟨x, hx, ?_⟩
  rw [← flat3_get L _ x hx (j % 3) (by omega), ← h]
  congr 1
  omega
theorem flat3_one (L : List O) : ∀ u ∈ L.flatMap oCells, u.oneCell' = true := by
  intro u hu
  obtain ⟨x, _, hx⟩ := List.mem_flatMap.1 hu
  simp [oCells] at hx
  rcases hx with rfl | rfl | rfl <;> rfl
/-- What the call owns reads as these. -/
theorem Ops.owned {w : World} {B : Nat} {v : Value} {L : List O} (h : w.ownsRow B 33 3 v L.length (L.flatMap oCells)) : Ops w v L := by
  rcases h.2 with ⟨rfl, h0⟩ | ⟨g, cap, cur, rfl, _, hg, h1, h2, h3, h4⟩
  · obtain rfl := List.length_eq_zero_iff.1 h0
    exact ⟨none, 0, rfl, Nat.le_refl _, Nat.zero_le _, Or.inl rfl⟩
  · refine ⟨_, cap, rfl, h1, h2, Or.inr ⟨g, 0, rfl, (Array.getElem?_eq_some_iff.1 hg).1, fun i x hx j u hu => ?_⟩⟩
    have hj : j < 3 := by have := (List.getElem?_eq_some_iff.1 hu).1; rwa [oCells_len] at this
    have hi := (List.getElem?_eq_some_iff.1 hx).1
    have h5 := flat3_get L i x hx j hj
    rw [← h4, List.getElem?_take, if_pos (by omega), hu] at h5
    rw [Nat.zero_add, World.cell?, hg]
    simpa using h5
theorem Ops.set {w : World} {v : Value} {L : List O} (h : Ops w v L) (a : Addr) (u : Value) (hne : v.ownBlock ≠ some a.block) : Ops (w.setCell a u) v L := by
  obtain ⟨a', cap, rfl, h1, h2, h3⟩ := h
  refine ⟨a', cap, rfl, h1, h2, ?_⟩
  rcases h3 with rfl | ⟨b, off, rfl, hb, hc⟩
  · exact Or.inl rfl
  · refine Or.inr ⟨b, off, rfl, by simpa [World.setCell] using hb, fun i x hx j u' hu => ?_⟩
    rw [World.cell?_of_block (w := w) (Below.heap_setCell w a u b (fun e => hne (by rw [← e]; rfl)))]
    exact hc i x hx j u' hu
theorem Ops.src {w : World} {a : Option Addr} {n c : Nat} {L : List O} (h : Ops w (.slice a n c) L) : n = 0 ∨ ∃ ad, a = some ad ∧ ∀ j u, (L.flatMap oCells)[j]? = some u → w.cell? (ad.add j) = some u := by
  obtain ⟨a', cap', e, h1, h2, h3⟩ := h
  cases e
  rcases h3 with rfl | ⟨b, off, rfl, hb, hc⟩
  · exact Or.inl rfl
  · refine Or.inr ⟨_, rfl, fun j u hu => ?_⟩
    obtain ⟨x, hx, hu'⟩ := flat3_at L j u hu
    rw [add_plain, ← hc _ x hx _ u hu']
    congr 2
    omega

theorem info3 : (Tryz.prog.info? 33).map (fun i => (i.zero, i.size, i.bytes)) = some (some (.agg #[.string ⟨#[]⟩, .string ⟨#[]⟩, .int .i64 0]), 3, 40) := by kernel_rfl
theorem info3_parts : ∃ i, Tryz.prog.info? 33 = some i ∧ i.zero = some (.agg #[.string ⟨#[]⟩, .string ⟨#[]⟩, .int .i64 0]) ∧ i.size = 3 ∧ i.bytes = 40 := by
  have h := info3
  cases hi : Tryz.prog.info? 33 with
  | none => rw [hi] at h; simp at h
  | some i => rw [hi] at h; simp only [Option.map_some, Option.some.injEq, Prod.mk.injEq] at h; exact ⟨i, rfl, h.1, h.2.1, h.2.2⟩

theorem grow_walk (n : Nat) (hn : n ≤ 5000) (w : World) :
    Calls Tryz.prog 74 #[.slice none 0 0, .int .i64 n] w fun e w' => ∃ a c, e = .returned (.slice a 0 c) ∧ w'.ownsRow w.heap.size 33 3 (.slice a 0 c) 0 [] ∧ Below w.heap.size w w' := by
  obtain ⟨i0, hi0, hz0, hs0, hb0⟩ := info3_parts
  by_cases h0 : n = 0
  · subst h0
    have hcon := Any8.slices_Grow_room Tryz.growOp none 0 0 0 w (by omega) (by omega) (by omega) (by omega)
    refine Calls.mono (show Calls Tryz.prog 74 _ _ _ from hcon) ?_
    rintro e w' ⟨rfl, rfl⟩
    exact ⟨none, 0, rfl, ⟨rfl, Or.inl ⟨rfl, rfl⟩⟩, Below.refl _ _⟩
  · have hcon := Any8.slices_Grow_grow Tryz.growOp i0 _ hi0 hz0 (by omega) none 0 0 n [] w (by omega) (by omega) (by rw [hb0]; omega) (by omega) (by simp) (fun _ => rfl) (fun a h => by cases h)
    refine Calls.mono (show Calls Tryz.prog 74 _ _ _ from hcon) ?_
    rintro e w' ⟨rfl, rfl⟩
    refine ⟨_, _, rfl, ⟨rfl, Or.inr ⟨w.heap.size, _, _, rfl, Nat.le_refl _, heap_alloc_new w.drew _, Nat.zero_le _, ?_, ?_, by simp⟩⟩, ((Below.refl _ _).drew).alloc (Nat.le_refl _) _⟩
    · exact grownCap_le_maxLen w _ _ _ (by unfold maxLen; omega)
    · have hge := grownCap_ge w (0 + n) 0 33
      simp only [Array.size_append, size_zeroCells]
      show 0 + (0 + n - 0) * 3 + (grownCap w (0 + n) 0 33 - (0 + n)) * 3 = grownCap w (0 + n) 0 33 * 3
      omega

/-- What the first k hold together. -/
def upto (ps : List (Value × List O)) (k : Nat) : List O := (ps.take k).flatMap (·.2)
theorem upto_succ {ps : List (Value × List O)} {k : Nat} {p : Value × List O} (h : ps[k]? = some p) : upto ps (k + 1) = upto ps k ++ p.2 := by
  unfold upto
  rw [List.take_add_one, h]
  simp
theorem upto_all (ps : List (Value × List O)) {k : Nat} (h : ps.length ≤ k) : upto ps k = ps.flatMap (·.2) := by
  unfold upto
  rw [List.take_of_length_le h]
theorem upto_le (ps : List (Value × List O)) (k : Nat) : (upto ps k).length ≤ (ps.flatMap (·.2)).length := by
  unfold upto
  conv => rhs; rw [← List.take_append_drop k ps, List.flatMap_append, List.length_append]
  omega

theorem own_base {w : World} {B e s n : Nat} {v : Value} {xs : List Value} (h : w.ownsRow B e s v n xs) : ∀ k, v.ownBlock = some k → B ≤ k := fun k hk => by
  rcases h.2 with ⟨rfl, _⟩ | ⟨g, cap, cur, rfl, hg, _⟩
  · simp [Value.ownBlock] at hk
  · simp [Value.ownBlock] at hk
    omega
set_option maxHeartbeats 1000000 in
theorem concat_walk {w : World} {v : Value} {ps : List (Value × List O)} (h : Elems 1 (fun p => [p.1]) w v ps) (hp : ∀ p ∈ ps, Ops w p.1 p.2) (hl : ps.length ≤ 20) (hs : (ps.flatMap (·.2)).length ≤ 5000) :
    Calls Tryz.prog 44 #[v] w fun e w' => ∃ r, e = .returned r ∧ Ops w' r (ps.flatMap (·.2)) ∧ Below w.heap.size w w' ∧ (∀ k, r.ownBlock = some k → w.heap.size ≤ k) := by
  obtain ⟨a, cap, rfl, h1, h2, h3⟩ := h
  have hc : ∀ (k : Nat) (p : Value × List O), ps[k]? = some p → ∃ b off, a = some ⟨b, off, none⟩ ∧ b < w.heap.size ∧ w.cell? ⟨b, off + k, none⟩ = some p.1 := fun k p hk => by
    rcases h3 with rfl | ⟨b, off, rfl, hb, hc⟩
    · simp at hk
    · exact ⟨b, off, rfl, hb, by have := hc k p hk 0 _ rfl; rwa [show off + (k * 1 + 0) = off + k by omega] at this⟩
  have HC := Lib.hid hc; clear hc h3
  have HP := Lib.hid hp; clear hp
  unfold maxLen at h2
  have HS := Lib.hid hs; clear hs
  go_enter Tryz.func44, Tryz.ntmps44
  go_wp2_with fail
  go_loop [3, 11] (fun s i => ∃ k : Nat, k ≤ ps.length ∧ i = .int .i64 k ∧ s = .int .i64 ((upto ps k).length : Nat)) (fun _ i => ps.length - (intOf i).toNat)
  case atStart => exact ⟨0, by omega, rfl, rfl⟩
  case round =>
    obtain ⟨k, hk, rfl, rfl⟩ := hrel
    by_cases hlt : k < ps.length
    · obtain ⟨p, hx⟩ : ∃ p, ps[k]? = some p := ⟨_, List.getElem?_eq_getElem hlt⟩
      obtain ⟨b, off, rfl, hb, d0⟩ := HC.out k p hx
      obtain ⟨pv, pl⟩ := p
      obtain ⟨a1, c1, hpv, hq1, hq2⟩ := Ops.form (HP.out _ (List.mem_of_getElem? hx))
      simp only at hpv d0 hq1 hq2
      subst hpv
      have hm := upto_le ps (k + 1)
      rw [upto_succ hx, List.length_append] at hm
      have hss := HS.out
      simp only at hm
      have HX : Hid ((upto ps (k + 1)).length = (upto ps k).length + pl.length) := Lib.hid (by rw [upto_succ hx, List.length_append])
      obtain ⟨m, hmm⟩ : ∃ m, (upto ps k).length = m := ⟨_, rfl⟩
      rw [hmm] at hm HX ⊢
      have hw : IntKind.i64.wrap ((m : Int) + (pl.length : Int)) = (m : Int) + (pl.length : Int) := by rw [IntKind.wrap_i64]; omega
      have hneg : decide ((m : Int) + (pl.length : Int) < 0) = false := by simp; omega
      clear hmm
      go_wp2_with fail
      exact ⟨⟨k + 1, by omega, by go_num, by rw [HX.out]; push_cast; rfl⟩, by simp [intOf]; omega⟩
    · have hkn : k = ps.length := by omega
      subst hkn
      rw [upto_all ps (Nat.le_refl _)]
      obtain ⟨N, hN⟩ : ∃ N, (ps.flatMap (·.2)).length = N := ⟨_, rfl⟩
      have hNle : N ≤ 5000 := by rw [← hN]; exact HS.out
      rw [hN]
      have HN := Lib.hid hN; clear hN
      (go_wp2_with fail; go_fit (grow_walk N hNle w); rintro e w1 ⟨a1, c1, rfl, hown, hb1⟩)
      obtain ⟨i0, hi0, hz0, hs0, hb0⟩ := info3_parts
      have HO := Lib.hid hown; have HB1 := Lib.hid hb1
      clear hown hb1
      go_wp2_with fail
      go_loopw [6, 27] (fun r i wr => ∃ (k : Nat) (a' : Option Addr) (c' : Nat), k ≤ ps.length ∧ i = .int .i64 k ∧ r = .slice a' (upto ps k).length c' ∧ Hid (wr.ownsRow w.heap.size 33 3 (.slice a' (upto ps k).length c') (upto ps k).length ((upto ps k).flatMap oCells) ∧ Below w.heap.size w wr)) (fun _ i _ => ps.length - (intOf i).toNat)
      case atStart => exact ⟨0, a1, c1, by omega, rfl, rfl, Lib.hid ⟨HO.out, HB1.out⟩⟩
      case round =>
        obtain ⟨k, a2, c2, hk, rfl, rfl, HR⟩ := hrel
        by_cases hlt : k < ps.length
        · obtain ⟨p, hx⟩ : ∃ p, ps[k]? = some p := ⟨_, List.getElem?_eq_getElem hlt⟩
          obtain ⟨b, off, rfl, hb, d0⟩ := HC.out k p hx
          obtain ⟨pv, pl⟩ := p
          have hpo := (HP.out _ (List.mem_of_getElem? hx)).ext HR.out.2
          obtain ⟨a3, c3, hpv, hq1, hq2⟩ := Ops.form hpo
          simp only at hpv d0 hq1 hq2 hpo
          subst hpv
          have d1 : wr.cell? ⟨b, off + k, none⟩ = some (.slice a3 pl.length c3) := cell_later HR.out.2 d0
          have HSC := Lib.hid (Ops.src hpo)
          have hm := upto_le ps (k + 1)
          rw [HN.out, upto_succ hx, List.length_append] at hm
          simp only at hm
          have HX : Hid (upto ps (k + 1) = upto ps k ++ pl) := Lib.hid (by rw [upto_succ hx])
          obtain ⟨L, hL⟩ : ∃ L, upto ps k = L := ⟨_, rfl⟩
          rw [hL] at hm HX HR ⊢
          have HL := Lib.hid hL
          clear hL hx d0 hpo
          obtain ⟨m, hmm⟩ : ∃ m, L.length = m := ⟨_, rfl⟩
          rw [hmm] at hm HR ⊢
          have HM := Lib.hid hmm
          clear hmm
          obtain ⟨n, hnn⟩ : ∃ n, pl.length = n := ⟨_, rfl⟩
          have HPL : Hid ((pl.flatMap oCells).length = n * 3) := Lib.hid (by rw [flat3_len, hnn])
          have HNN := Lib.hid hnn
          rw [hnn] at hm d1 HSC hq1
          clear hnn
          go_wp2_with (first
            | (at_builtin; refine wpList_append_k rfl _ _ 34 rfl w.heap.size 33 i0 (.agg #[.string ⟨#[]⟩, .string ⟨#[]⟩, .int .i64 0]) 3 40 Tryz.underlying34 hi0 hz0 hs0 (by decide) hb0 rfl (.slice a2 m c2) m (L.flatMap oCells) rfl HR.out.1 a3 n c3 (pl.flatMap oCells) rfl HPL.out HSC.out (flat3_one _) (by unfold maxLen; omega) (by omega) HR.out.2.size (m + n) ((L ++ pl).flatMap oCells) rfl (by rw [List.flatMap_append]) ?_; intro a4 c4 w4 hown4 hgrow4 hat4
               have HO4 := Lib.hid hown4
               have HB4 := Lib.hid (HR.out.2.grown hgrow4 HR.out.2.size (own_base HR.out.1))
               clear hown4 hgrow4 hat4)
            | fail)
          exact ⟨⟨k + 1, a4, c4, by omega, by go_num, by rw [HX.out, List.length_append, HM.out, HNN.out], Lib.hid ⟨by rw [HX.out, List.length_append, HM.out, HNN.out]; exact HO4.out, HB4.out⟩⟩, by simp [intOf]; omega⟩
        · have hkk : ¬ (k : Int) < ps.length := by omega
          have HE : Hid (upto ps k = ps.flatMap (·.2)) := Lib.hid (upto_all ps (by omega))
          obtain ⟨m, hmm⟩ : ∃ m, (upto ps k).length = m := ⟨_, rfl⟩
          have HM := Lib.hid hmm
          rw [hmm]
          clear hmm
          go_wp2
          go_ret
          have hfin := HR.out.1
          have hbase := own_base hfin
          rw [HM.out] at hfin hbase
          refine ⟨.slice a2 m c2, rfl, Ops.owned (B := w.heap.size) ?_, HR.out.2, hbase⟩
          rw [← HE.out, HM.out]
          exact hfin
end Go.Proofs.YtljgkfdnmikpfaaGreatDoor
/- Operators: alike: a row of them with names that come in. -/
namespace Go.Proofs.YtljgkfdnmikpfaaGreatDoor
open Go.Shelf Go.RowKit

theorem strs_laid (w : World) (t : TypeId) (ss : List ByteArray) (n : Nat) (hn : ss.length = n) (h : n ≤ 100000) (hs : ∀ s ∈ ss, s.size ≤ 100000) : Strs (w.alloc (.cells (ss.map Value.string).toArray t)) (.slice (some ⟨w.heap.size, 0, none⟩) n n) ss := by
  subst hn
  refine ⟨_, _, rfl, Nat.le_refl _, by unfold maxLen; omega, by omega, fun s hm => by have := hs s hm; omega, Or.inr ⟨_, _, rfl, by simp, fun i x hx => ?_⟩⟩
  rw [World.cell?_alloc_at _ _ _ _ rfl]
  simp [hx]
theorem row_cell {w : World} {b t : Nat} {cs : Array Value} {fz : Nat × Nat} (h : w.heap[b]? = some (.cells cs t fz)) (i : Nat) : w.cell? ⟨b, i, none⟩ = cs[i]? := by simp [World.cell?, h]
theorem row_froz {w : World} {b t : Nat} {cs : Array Value} (h : w.heap[b]? = some (.cells cs t (0, 0))) (i : Nat) : w.frozen? ⟨b, i, none⟩ = false := by simp [World.frozen?, h]
theorem row_set {w : World} {b t : Nat} {cs : Array Value} (h : w.heap[b]? = some (.cells cs t (0, 0))) (j : Nat) (u : Value) : (w.setCell ⟨b, j, none⟩ u).heap[b]? = some (.cells (cs.setIfInBounds j u) t (0, 0)) := by
  have hb := (Array.getElem?_eq_some_iff.1 h).1
  simp [World.setCell, Array.getElem?_modify, h]
/-- The first of the row are these. -/
def RowAt (w : World) (g n : Nat) (L : List O) : Prop := ∃ cur, w.heap[g]? = some (.cells cur 33 (0, 0)) ∧ cur.size = n * 3 ∧ cur.toList.take (L.length * 3) = L.flatMap oCells
theorem RowAt.next {w : World} {g n : Nat} {L : List O} (h : RowAt w g n L) (hl : L.length < n) (x : O) :
    RowAt (((w.setCell ⟨g, L.length * 3, none⟩ (.string x.n)).setCell ⟨g, L.length * 3 + 1, none⟩ (.string x.k)).setCell ⟨g, L.length * 3 + 2, none⟩ (.int .i64 x.l)) g n (L ++ [x]) := by
  obtain ⟨cur, h1, h2, h3⟩ := h
  refine ⟨_, row_set (row_set (row_set h1 _ _) _ _) _ _, by simp [h2], ?_⟩
  have e : (L ++ [x]).length * 3 = L.length * 3 + 3 := by simp; omega
  rw [e, List.flatMap_append, ← h3]
  apply List.ext_getElem?
  intro i
  have hcs : cur.size = n * 3 := h2
  by_cases hi : i < L.length * 3
  · rw [List.getElem?_take, if_pos (by omega), List.getElem?_append_left (by simp; omega), List.getElem?_take, if_pos hi]
    simp only [Array.getElem?_toList]
    rw [Array.getElem?_setIfInBounds_ne (by omega), Array.getElem?_setIfInBounds_ne (by omega), Array.getElem?_setIfInBounds_ne (by omega)]
  · rw [List.getElem?_take]
    split
    · rename_i hlt
      rw [List.getElem?_append_right (by simp; omega)]
      simp only [Array.getElem?_toList, List.flatMap_cons, List.flatMap_nil, List.append_nil, List.length_take, Array.length_toList]
      rw [Nat.min_eq_left (by omega)]
      have hc : i = L.length * 3 ∨ i = L.length * 3 + 1 ∨ i = L.length * 3 + 2 := by omega
      rcases hc with rfl | rfl | rfl
      · rw [Array.getElem?_setIfInBounds_ne (by omega), Array.getElem?_setIfInBounds_ne (by omega), Array.getElem?_setIfInBounds_self_of_lt (by omega)]
        simp [oCells]
      · rw [Array.getElem?_setIfInBounds_ne (by omega), Array.getElem?_setIfInBounds_self_of_lt (by simp; omega)]
        simp [oCells]
      · rw [Array.getElem?_setIfInBounds_self_of_lt (by simp; omega)]
        simp [oCells]
    · rename_i hge
      symm
      rw [List.getElem?_eq_none]
      simp [oCells_len]
      omega
theorem RowAt.ops {w : World} {g n : Nat} {L : List O} (h : RowAt w g n L) (hl : L.length = n) (hn : n ≤ 100000) : Ops w (.slice (some ⟨g, 0, none⟩) n n) L := by
  obtain ⟨cur, h1, h2, h3⟩ := h
  subst hl
  refine Ops.owned (B := 0) ⟨by rw [flat3_len], Or.inr ⟨g, _, cur, rfl, Nat.zero_le _, h1, Nat.le_refl _, by unfold maxLen; omega, h2, h3⟩⟩

set_option maxHeartbeats 1000000 in
theorem alike_walk {w : World} {v : Value} {names : List ByteArray} (kind : ByteArray) (l : Int) (h : Strs w v names) (hn : names.length ≤ 1000) :
    Calls Tryz.prog 45 #[.string kind, .int .i64 l, v] w fun e w' => ∃ r, e = .returned r ∧ Ops w' r (names.map fun s => (⟨s, kind, l⟩ : O)) ∧ Below w.heap.size w w' := by
  obtain ⟨a, cap, rfl, h1, h2, _, _, h3⟩ := h
  have hc : ∀ (k : Nat) (s : ByteArray), names[k]? = some s → ∃ b off, a = some ⟨b, off, none⟩ ∧ b < w.heap.size ∧ w.cell? ⟨b, off + k, none⟩ = some (.string s) := fun k s hk => by
    rcases h3 with rfl | ⟨b, off, rfl, hb, hc⟩
    · simp at hk
    · exact ⟨b, off, rfl, hb, hc k s hk⟩
  have HC := Lib.hid hc; clear hc h3
  unfold maxLen at h2
  obtain ⟨i0, hi0, hz0, hs0, hb0⟩ := info3_parts
  obtain ⟨n, hnn⟩ : ∃ n, names.length = n := ⟨_, rfl⟩
  rw [hnn] at hn h1 ⊢
  have HN := Lib.hid hnn
  clear hnn
  have hmk := fun (w : World) => run_make (P := Tryz.prog) w 34 33 i0 _ Tryz.underlying34 hi0 hz0 .i64 .i64 (n : Int) (n : Int) (by omega) (Int.le_refl _) (by rw [hb0]; omega) (by omega)
  rw [Int.toNat_natCast, hs0] at hmk
  obtain ⟨Z, hZ⟩ : ∃ Z, madeCells (Value.agg #[.string ⟨#[]⟩, .string ⟨#[]⟩, .int .i64 0]).cells (n * 3) = Z := ⟨_, rfl⟩
  have HZ : Hid (Z.size = n * 3) := Lib.hid (by rw [← hZ, size_madeCells])
  rw [hZ] at hmk
  clear hZ
  have HW : Hid (RowAt (w.alloc (.cells Z 33)) w.heap.size n []) := Lib.hid ⟨Z, heap_alloc_new w _, HZ.out, by simp⟩
  go_enter Tryz.func45, Tryz.ntmps45
  go_wp2_with fail
  go_loopw [15] (fun i wr => ∃ k : Nat, k ≤ n ∧ i = .int .i64 k ∧ Hid (RowAt wr w.heap.size n ((names.take k).map fun s => (⟨s, kind, l⟩ : O)) ∧ Below w.heap.size w wr)) (fun i _ => n - (intOf i).toNat)
  case atStart => exact ⟨0, by omega, rfl, Lib.hid ⟨by simpa using HW.out, bel1' _ _⟩⟩
  case round =>
    obtain ⟨k, hk, rfl, HR⟩ := hrel
    by_cases hlt : k < n
    · obtain ⟨s, hx⟩ : ∃ s, names[k]? = some s := ⟨_, List.getElem?_eq_getElem (by rw [HN.out]; exact hlt)⟩
      obtain ⟨b, off, rfl, hb, d0⟩ := HC.out k s hx
      have d1 : wr.cell? ⟨b, off + k, none⟩ = some (.string s) := cell_later HR.out.2 d0
      clear d0
      have hL : ((names.take k).map fun s => (⟨s, kind, l⟩ : O)).length = k := by
        have := HN.out
        simp
        omega
      have HNX := HR.out.1.next (by rw [hL]; exact hlt) ⟨s, kind, l⟩
      rw [hL] at HNX
      have HX := Lib.hid HNX
      have HT : Hid ((names.take (k + 1)).map (fun s => (⟨s, kind, l⟩ : O)) = (names.take k).map (fun s => (⟨s, kind, l⟩ : O)) ++ [⟨s, kind, l⟩]) := Lib.hid (by rw [List.take_add_one, hx]; simp)
      obtain ⟨cur, hcur, hsz, _⟩ := HR.out.1
      have c0 : wr.cell? ⟨w.heap.size, k * 3, none⟩ = some (cur[k * 3]'(by omega)) := by rw [row_cell hcur]; exact Array.getElem?_eq_getElem _
      have c1 : wr.cell? ⟨w.heap.size, k * 3 + 1, none⟩ = some (cur[k * 3 + 1]'(by omega)) := by rw [row_cell hcur]; exact Array.getElem?_eq_getElem _
      have c2 : wr.cell? ⟨w.heap.size, k * 3 + 2, none⟩ = some (cur[k * 3 + 2]'(by omega)) := by rw [row_cell hcur]; exact Array.getElem?_eq_getElem _
      have f0 : ∀ j, wr.frozen? ⟨w.heap.size, j, none⟩ = false := fun j => row_froz hcur j
      generalize cur[k * 3]'(by omega) = x0 at c0
      generalize cur[k * 3 + 1]'(by omega) = x1 at c1
      generalize cur[k * 3 + 2]'(by omega) = x2 at c2
      clear HNX hL hx hcur hsz
      go_wp2_with fail
      exact ⟨⟨k + 1, by omega, by go_num, Lib.hid ⟨by rw [HT.out]; exact HX.out, ((HR.out.2.setCell (Nat.le_refl _) _).setCell (Nat.le_refl _) _).setCell (Nat.le_refl _) _⟩⟩, by simp [intOf]; omega⟩
    · have hkk : ¬ (k : Int) < n := by omega
      go_wp2
      go_ret
      refine ⟨_, rfl, ?_, HR.out.2⟩
      have := HR.out.1
      rw [List.take_of_length_le (by rw [HN.out]; omega)] at this
      exact this.ops (by rw [List.length_map, HN.out]) (by omega)
end Go.Proofs.YtljgkfdnmikpfaaGreatDoor
/- Operators: the plain ones. -/
namespace Go.Proofs.YtljgkfdnmikpfaaGreatDoor
open Go.Shelf Go.RowKit

abbrev xfx : ByteArray := ⟨#[120, 102, 120]⟩
abbrev xfy : ByteArray := ⟨#[120, 102, 121]⟩
abbrev yfx : ByteArray := ⟨#[121, 102, 120]⟩
abbrev fy : ByteArray := ⟨#[102, 121]⟩
def names1 : List ByteArray := [⟨#[58, 45]⟩]
def names2 : List ByteArray := [⟨#[59]⟩]
def names3 : List ByteArray := [⟨#[45, 62]⟩]
def names4 : List ByteArray := [⟨#[44]⟩]
def names5 : List ByteArray := [⟨#[92, 43]⟩]
def names6 : List ByteArray := [⟨#[61]⟩, ⟨#[92, 61]⟩, ⟨#[61, 61]⟩, ⟨#[92, 61, 61]⟩, ⟨#[64, 60]⟩, ⟨#[64, 62]⟩, ⟨#[64, 61, 60]⟩, ⟨#[64, 62, 61]⟩, ⟨#[61, 46, 46]⟩, ⟨#[105, 115]⟩, ⟨#[61, 58, 61]⟩, ⟨#[61, 92, 61]⟩, ⟨#[60]⟩, ⟨#[62]⟩, ⟨#[61, 60]⟩, ⟨#[62, 61]⟩]
def names7 : List ByteArray := [⟨#[43]⟩, ⟨#[45]⟩, ⟨#[47, 92]⟩, ⟨#[92, 47]⟩, ⟨#[120, 111, 114]⟩]
def names8 : List ByteArray := [⟨#[42]⟩, ⟨#[47, 47]⟩, ⟨#[109, 111, 100]⟩, ⟨#[114, 101, 109]⟩, ⟨#[62, 62]⟩, ⟨#[60, 60]⟩]
def names9 : List ByteArray := [⟨#[94]⟩]
def names10 : List ByteArray := [⟨#[45]⟩, ⟨#[92]⟩]
def alikeB (k : ByteArray) (l : Int) (ns : List ByteArray) : List O := ns.map fun s => ⟨s, k, l⟩
def opsB : List O := alikeB xfx 1200 names1 ++ alikeB xfy 1100 names2 ++ alikeB xfy 1050 names3 ++ alikeB xfy 1000 names4 ++ alikeB fy 900 names5 ++ alikeB xfx 700 names6 ++ alikeB yfx 500 names7 ++ alikeB yfx 400 names8 ++ alikeB xfy 200 names9 ++ alikeB fy 200 names10

theorem alike_at {w0 w : World} (hb : Below w0.heap.size w0 w) (ns : List ByteArray) (n : Nat) (hn : ns.length = n) (hs : n ≤ 100) (hz : ∀ s ∈ ns, s.size ≤ 100000) (k : ByteArray) (l : Int) :
    Calls Tryz.prog 45 #[.string k, .int .i64 l, .slice (some ⟨w.heap.size, 0, none⟩) n n] (w.alloc (.cells (ns.map Value.string).toArray 9)) fun e w' => ∃ a c, e = .returned (.slice a n c) ∧ Ops w' (.slice a n c) (alikeB k l ns) ∧ Below w.heap.size w w' ∧ Below w0.heap.size w0 w' := by
  refine (alike_walk k l (strs_laid w 9 ns n hn (by omega) hz) (by omega)).mono ?_
  rintro e w' ⟨r, rfl, h1, h2⟩
  have h3 : Below w.heap.size w w' := Below.trans (bel1' _ _) (h2.mono (by simp))
  obtain ⟨a, c, rfl, _⟩ := h1.form
  rw [List.length_map, hn] at h1 ⊢
  exact ⟨a, c, rfl, h1, h3, Ext.trans' hb h3⟩

theorem alike1 {w0 w : World} (hb : Below w0.heap.size w0 w) :
    Calls Tryz.prog 45 #[.string ⟨#[120, 102, 120]⟩, .int .i64 1200, .slice (some ⟨w.heap.size, 0, none⟩) 1 1] (w.alloc (.cells #[.string ⟨#[58, 45]⟩] 9)) fun e w' => ∃ a c, e = .returned (.slice a 1 c) ∧ Ops w' (.slice a 1 c) (alikeB xfx 1200 names1) ∧ Below w.heap.size w w' ∧ Below w0.heap.size w0 w' :=
  alike_at hb names1 1 rfl (by decide) (by decide) xfx 1200
theorem alike2 {w0 w : World} (hb : Below w0.heap.size w0 w) :
    Calls Tryz.prog 45 #[.string ⟨#[120, 102, 121]⟩, .int .i64 1100, .slice (some ⟨w.heap.size, 0, none⟩) 1 1] (w.alloc (.cells #[.string ⟨#[59]⟩] 9)) fun e w' => ∃ a c, e = .returned (.slice a 1 c) ∧ Ops w' (.slice a 1 c) (alikeB xfy 1100 names2) ∧ Below w.heap.size w w' ∧ Below w0.heap.size w0 w' :=
  alike_at hb names2 1 rfl (by decide) (by decide) xfy 1100
theorem alike3 {w0 w : World} (hb : Below w0.heap.size w0 w) :
    Calls Tryz.prog 45 #[.string ⟨#[120, 102, 121]⟩, .int .i64 1050, .slice (some ⟨w.heap.size, 0, none⟩) 1 1] (w.alloc (.cells #[.string ⟨#[45, 62]⟩] 9)) fun e w' => ∃ a c, e = .returned (.slice a 1 c) ∧ Ops w' (.slice a 1 c) (alikeB xfy 1050 names3) ∧ Below w.heap.size w w' ∧ Below w0.heap.size w0 w' :=
  alike_at hb names3 1 rfl (by decide) (by decide) xfy 1050
theorem alike4 {w0 w : World} (hb : Below w0.heap.size w0 w) :
    Calls Tryz.prog 45 #[.string ⟨#[120, 102, 121]⟩, .int .i64 1000, .slice (some ⟨w.heap.size, 0, none⟩) 1 1] (w.alloc (.cells #[.string ⟨#[44]⟩] 9)) fun e w' => ∃ a c, e = .returned (.slice a 1 c) ∧ Ops w' (.slice a 1 c) (alikeB xfy 1000 names4) ∧ Below w.heap.size w w' ∧ Below w0.heap.size w0 w' :=
  alike_at hb names4 1 rfl (by decide) (by decide) xfy 1000
theorem alike5 {w0 w : World} (hb : Below w0.heap.size w0 w) :
    Calls Tryz.prog 45 #[.string ⟨#[102, 121]⟩, .int .i64 900, .slice (some ⟨w.heap.size, 0, none⟩) 1 1] (w.alloc (.cells #[.string ⟨#[92, 43]⟩] 9)) fun e w' => ∃ a c, e = .returned (.slice a 1 c) ∧ Ops w' (.slice a 1 c) (alikeB fy 900 names5) ∧ Below w.heap.size w w' ∧ Below w0.heap.size w0 w' :=
  alike_at hb names5 1 rfl (by decide) (by decide) fy 900
theorem alike6 {w0 w : World} (hb : Below w0.heap.size w0 w) :
    Calls Tryz.prog 45 #[.string ⟨#[120, 102, 120]⟩, .int .i64 700, .slice (some ⟨w.heap.size, 0, none⟩) 16 16] (w.alloc (.cells #[.string ⟨#[61]⟩, .string ⟨#[92, 61]⟩, .string ⟨#[61, 61]⟩, .string ⟨#[92, 61, 61]⟩, .string ⟨#[64, 60]⟩, .string ⟨#[64, 62]⟩, .string ⟨#[64, 61, 60]⟩, .string ⟨#[64, 62, 61]⟩, .string ⟨#[61, 46, 46]⟩, .string ⟨#[105, 115]⟩, .string ⟨#[61, 58, 61]⟩, .string ⟨#[61, 92, 61]⟩, .string ⟨#[60]⟩, .string ⟨#[62]⟩, .string ⟨#[61, 60]⟩, .string ⟨#[62, 61]⟩] 9)) fun e w' => ∃ a c, e = .returned (.slice a 16 c) ∧ Ops w' (.slice a 16 c) (alikeB xfx 700 names6) ∧ Below w.heap.size w w' ∧ Below w0.heap.size w0 w' :=
  alike_at hb names6 16 rfl (by decide) (by decide) xfx 700
theorem alike7 {w0 w : World} (hb : Below w0.heap.size w0 w) :
    Calls Tryz.prog 45 #[.string ⟨#[121, 102, 120]⟩, .int .i64 500, .slice (some ⟨w.heap.size, 0, none⟩) 5 5] (w.alloc (.cells #[.string ⟨#[43]⟩, .string ⟨#[45]⟩, .string ⟨#[47, 92]⟩, .string ⟨#[92, 47]⟩, .string ⟨#[120, 111, 114]⟩] 9)) fun e w' => ∃ a c, e = .returned (.slice a 5 c) ∧ Ops w' (.slice a 5 c) (alikeB yfx 500 names7) ∧ Below w.heap.size w w' ∧ Below w0.heap.size w0 w' :=
  alike_at hb names7 5 rfl (by decide) (by decide) yfx 500
theorem alike8 {w0 w : World} (hb : Below w0.heap.size w0 w) :
    Calls Tryz.prog 45 #[.string ⟨#[121, 102, 120]⟩, .int .i64 400, .slice (some ⟨w.heap.size, 0, none⟩) 6 6] (w.alloc (.cells #[.string ⟨#[42]⟩, .string ⟨#[47, 47]⟩, .string ⟨#[109, 111, 100]⟩, .string ⟨#[114, 101, 109]⟩, .string ⟨#[62, 62]⟩, .string ⟨#[60, 60]⟩] 9)) fun e w' => ∃ a c, e = .returned (.slice a 6 c) ∧ Ops w' (.slice a 6 c) (alikeB yfx 400 names8) ∧ Below w.heap.size w w' ∧ Below w0.heap.size w0 w' :=
  alike_at hb names8 6 rfl (by decide) (by decide) yfx 400
theorem alike9 {w0 w : World} (hb : Below w0.heap.size w0 w) :
    Calls Tryz.prog 45 #[.string ⟨#[120, 102, 121]⟩, .int .i64 200, .slice (some ⟨w.heap.size, 0, none⟩) 1 1] (w.alloc (.cells #[.string ⟨#[94]⟩] 9)) fun e w' => ∃ a c, e = .returned (.slice a 1 c) ∧ Ops w' (.slice a 1 c) (alikeB xfy 200 names9) ∧ Below w.heap.size w w' ∧ Below w0.heap.size w0 w' :=
  alike_at hb names9 1 rfl (by decide) (by decide) xfy 200
theorem alike10 {w0 w : World} (hb : Below w0.heap.size w0 w) :
    Calls Tryz.prog 45 #[.string ⟨#[102, 121]⟩, .int .i64 200, .slice (some ⟨w.heap.size, 0, none⟩) 2 2] (w.alloc (.cells #[.string ⟨#[45]⟩, .string ⟨#[92]⟩] 9)) fun e w' => ∃ a c, e = .returned (.slice a 2 c) ∧ Ops w' (.slice a 2 c) (alikeB fy 200 names10) ∧ Below w.heap.size w w' ∧ Below w0.heap.size w0 w' :=
  alike_at hb names10 2 rfl (by decide) (by decide) fy 200
theorem parts_laid (w : World) (t : TypeId) (ps : List (Value × List O)) (n : Nat) (hn : ps.length = n) (h : n ≤ 100000) :
    Elems 1 (fun p => [p.1]) (w.alloc (.cells (ps.map (·.1)).toArray t)) (.slice (some ⟨w.heap.size, 0, none⟩) n n) ps := by
  subst hn
  refine ⟨_, _, rfl, Nat.le_refl _, by unfold maxLen; omega, Or.inr ⟨_, _, rfl, by simp, fun i x hx j u hu => ?_⟩⟩
  have hj : j = 0 := by have := (List.getElem?_eq_some_iff.1 hu).1; simp at this; exact this
  subst hj
  simp at hu
  subst hu
  rw [World.cell?_alloc_at _ _ _ _ rfl]
  simp [hx]
def parts (r1 r2 r3 r4 r5 r6 r7 r8 r9 r10 : Value) : List (Value × List O) := [(r1, alikeB xfx 1200 names1), (r2, alikeB xfy 1100 names2), (r3, alikeB xfy 1050 names3), (r4, alikeB xfy 1000 names4), (r5, alikeB fy 900 names5), (r6, alikeB xfx 700 names6), (r7, alikeB yfx 500 names7), (r8, alikeB yfx 400 names8), (r9, alikeB xfy 200 names9), (r10, alikeB fy 200 names10)]
theorem parts_flat (r1 r2 r3 r4 r5 r6 r7 r8 r9 r10 : Value) : (parts r1 r2 r3 r4 r5 r6 r7 r8 r9 r10).flatMap (·.2) = opsB := by
  simp only [parts, opsB, List.flatMap_cons, List.flatMap_nil, List.append_nil, List.append_assoc]
theorem plain_len : opsB.length = 35 := by decide +kernel
theorem parts_at (w : World) (r1 r2 r3 r4 r5 r6 r7 r8 r9 r10 : Value) : Elems 1 (fun p => [p.1]) (w.alloc (.cells #[r1, r2, r3, r4, r5, r6, r7, r8, r9, r10] 34)) (.slice (some ⟨w.heap.size, 0, none⟩) 10 10) (parts r1 r2 r3 r4 r5 r6 r7 r8 r9 r10) :=
  parts_laid w 34 (parts r1 r2 r3 r4 r5 r6 r7 r8 r9 r10) 10 rfl (by decide)
theorem concat_plain {w : World} {r1 r2 r3 r4 r5 r6 r7 r8 r9 r10 : Value} {v : Value} (h : Elems 1 (fun p => [p.1]) w v (parts r1 r2 r3 r4 r5 r6 r7 r8 r9 r10)) (hp : ∀ p ∈ parts r1 r2 r3 r4 r5 r6 r7 r8 r9 r10, Ops w p.1 p.2) :
    Calls Tryz.prog 44 #[v] w fun e w' => ∃ r, e = .returned r ∧ Ops w' r opsB ∧ Below w.heap.size w w' ∧ (∀ k, r.ownBlock = some k → w.heap.size ≤ k) := by
  have := concat_walk h hp (by simp [parts]) (by rw [parts_flat, plain_len]; omega)
  rw [parts_flat] at this
  exact this
set_option maxRecDepth 100000
set_option maxHeartbeats 1000000 in
theorem plain_walk (w : World) : Calls Tryz.prog 17 #[] w fun e w' => ∃ v, e = .returned (.agg #[v]) ∧ Ops w' v opsB ∧ Below w.heap.size w w' := by
  have hA := alike1 (w0 := w.alloc (.cells #[.slice none 0 0] 36)) (Below.refl _ _)
  have hsz : (w.alloc (.cells #[.slice none 0 0] 36)).heap.size = w.heap.size + 1 := by simp
  rw [hsz] at hA
  have HA := Lib.hid hA
  clear hA hsz
  go_enter Tryz.func17, Tryz.ntmps17
  (go_wp2_with fail; go_fit (HA.out); rintro e w1 ⟨a1, c1, rfl, h1, _, hb1⟩)
  have H1 := Lib.hid h1
  have HB1 : Hid (Below (w.alloc (.cells #[.slice none 0 0] 36)).heap.size (w.alloc (.cells #[.slice none 0 0] 36)) w1) := Lib.hid (by simpa using hb1)
  clear h1 hb1
  (go_wp2_with fail; go_fit (alike2 HB1.out); rintro e w2 ⟨a2, c2, rfl, h2, hc2, hb2⟩)
  have H2 := Lib.hid h2; have HC2 := Lib.hid hc2; have HB2 := Lib.hid hb2
  clear h2 hc2 hb2
  (go_wp2_with fail; go_fit (alike3 HB2.out); rintro e w3 ⟨a3, c3, rfl, h3, hc3, hb3⟩)
  have H3 := Lib.hid h3; have HC3 := Lib.hid hc3; have HB3 := Lib.hid hb3
  clear h3 hc3 hb3
  (go_wp2_with fail; go_fit (alike4 HB3.out); rintro e w4 ⟨a4, c4, rfl, h4, hc4, hb4⟩)
  have H4 := Lib.hid h4; have HC4 := Lib.hid hc4; have HB4 := Lib.hid hb4
  clear h4 hc4 hb4
  (go_wp2_with fail; go_fit (alike5 HB4.out); rintro e w5 ⟨a5, c5, rfl, h5, hc5, hb5⟩)
  have H5 := Lib.hid h5; have HC5 := Lib.hid hc5; have HB5 := Lib.hid hb5
  clear h5 hc5 hb5
  (go_wp2_with fail; go_fit (alike6 HB5.out); rintro e w6 ⟨a6, c6, rfl, h6, hc6, hb6⟩)
  have H6 := Lib.hid h6; have HC6 := Lib.hid hc6; have HB6 := Lib.hid hb6
  clear h6 hc6 hb6
  (go_wp2_with fail; go_fit (alike7 HB6.out); rintro e w7 ⟨a7, c7, rfl, h7, hc7, hb7⟩)
  have H7 := Lib.hid h7; have HC7 := Lib.hid hc7; have HB7 := Lib.hid hb7
  clear h7 hc7 hb7
  (go_wp2_with fail; go_fit (alike8 HB7.out); rintro e w8 ⟨a8, c8, rfl, h8, hc8, hb8⟩)
  have H8 := Lib.hid h8; have HC8 := Lib.hid hc8; have HB8 := Lib.hid hb8
  clear h8 hc8 hb8
  (go_wp2_with fail; go_fit (alike9 HB8.out); rintro e w9 ⟨a9, c9, rfl, h9, hc9, hb9⟩)
  have H9 := Lib.hid h9; have HC9 := Lib.hid hc9; have HB9 := Lib.hid hb9
  clear h9 hc9 hb9
  (go_wp2_with fail; go_fit (alike10 HB9.out); rintro e w10 ⟨a10, c10, rfl, h10, hc10, hb10⟩)
  have H10 := Lib.hid h10; have HC10 := Lib.hid hc10; have HB10 := Lib.hid hb10
  clear h10 hc10 hb10
  have O10 := Lib.hid H10.out
  have O1 := Lib.hid (((((((((H1.out.ext HC2.out).ext HC3.out).ext HC4.out).ext HC5.out).ext HC6.out).ext HC7.out).ext HC8.out).ext HC9.out).ext HC10.out)
  have O2 := Lib.hid ((((((((H2.out.ext HC3.out).ext HC4.out).ext HC5.out).ext HC6.out).ext HC7.out).ext HC8.out).ext HC9.out).ext HC10.out)
  have O3 := Lib.hid (((((((H3.out.ext HC4.out).ext HC5.out).ext HC6.out).ext HC7.out).ext HC8.out).ext HC9.out).ext HC10.out)
  have O4 := Lib.hid ((((((H4.out.ext HC5.out).ext HC6.out).ext HC7.out).ext HC8.out).ext HC9.out).ext HC10.out)
  have O5 := Lib.hid (((((H5.out.ext HC6.out).ext HC7.out).ext HC8.out).ext HC9.out).ext HC10.out)
  have O6 := Lib.hid ((((H6.out.ext HC7.out).ext HC8.out).ext HC9.out).ext HC10.out)
  have O7 := Lib.hid (((H7.out.ext HC8.out).ext HC9.out).ext HC10.out)
  have O8 := Lib.hid ((H8.out.ext HC9.out).ext HC10.out)
  have O9 := Lib.hid (H9.out.ext HC10.out)
  clear HA H1 H2 H3 H4 H5 H6 H7 H8 H9 H10 HC2 HC3 HC4 HC5 HC6 HC7 HC8 HC9 HC10 HB1 HB2 HB3 HB4 HB5 HB6 HB7 HB8 HB9
  have hpl := parts_at w10 (.slice a1 1 c1) (.slice a2 1 c2) (.slice a3 1 c3) (.slice a4 1 c4) (.slice a5 1 c5) (.slice a6 16 c6) (.slice a7 5 c7) (.slice a8 6 c8) (.slice a9 1 c9) (.slice a10 2 c10)
  have HPL := Lib.hid hpl
  clear hpl
  have HPO : Hid (∀ p ∈ (parts (.slice a1 1 c1) (.slice a2 1 c2) (.slice a3 1 c3) (.slice a4 1 c4) (.slice a5 1 c5) (.slice a6 16 c6) (.slice a7 5 c7) (.slice a8 6 c8) (.slice a9 1 c9) (.slice a10 2 c10)), Ops (w10.alloc (.cells #[.slice a1 1 c1, .slice a2 1 c2, .slice a3 1 c3, .slice a4 1 c4, .slice a5 1 c5, .slice a6 16 c6, .slice a7 5 c7, .slice a8 6 c8, .slice a9 1 c9, .slice a10 2 c10] 34)) p.1 p.2) := Lib.hid (by
    intro p hp
    simp only [parts, List.mem_cons, List.not_mem_nil, or_false] at hp
    rcases hp with rfl | rfl | rfl | rfl | rfl | rfl | rfl | rfl | rfl | rfl
    
    · exact O1.out.ext (bel1' _ _)
    · exact O2.out.ext (bel1' _ _)
    · exact O3.out.ext (bel1' _ _)
    · exact O4.out.ext (bel1' _ _)
    · exact O5.out.ext (bel1' _ _)
    · exact O6.out.ext (bel1' _ _)
    · exact O7.out.ext (bel1' _ _)
    · exact O8.out.ext (bel1' _ _)
    · exact O9.out.ext (bel1' _ _)
    · exact O10.out.ext (bel1' _ _))
  (go_wp2_with fail; go_fit (concat_plain HPL.out HPO.out); rintro e w11 ⟨r, rfl, h11, hb11, hf11⟩)
  obtain ⟨ar, cr, rfl, _⟩ := h11.form
  have hpl : opsB.length = 35 := plain_len
  rw [hpl] at h11 ⊢
  clear hpl
  have HO := Lib.hid h11
  have hbw : Below (w.alloc (.cells #[.slice none 0 0] 36)).heap.size (w.alloc (.cells #[.slice none 0 0] 36)) w11 := Ext.trans' (Ext.trans' HB10.out (bel1' _ _)) hb11
  have e1 : w11.cell? ⟨w.heap.size, 0, none⟩ = some (.slice none 0 0) := cell_later hbw (by simp)
  have f1 : w11.frozen? ⟨w.heap.size, 0, none⟩ = false := (hbw.frozen (p := ⟨w.heap.size, 0, none⟩) (by simp)).trans (by simp)
  have HBW := Lib.hid (Below.trans (bel1' w _) (hbw.mono (by simp)))
  have HF := Lib.hid hf11
  have HS10 : Hid (w.heap.size + 1 ≤ w10.heap.size) := Lib.hid (by have := HB10.out.size; simpa using this)
  clear hbw hb11 h11 hf11
  go_wp2
  (try simp only [Exit.inBlock, Exit.then])
  refine bodyPost_ret (v := .agg #[.slice ar 35 cr]) (by simp [results, Tryz.f17]; go_simp) rfl ⟨_, rfl, ?_, ?_⟩
  · refine HO.out.set _ _ (fun h => ?_)
    have h' := HF.out _ h
    simp at h'
    have := HS10.out
    omega
  · exact HBW.out.setCell (Nat.le_refl _) _
end Go.Proofs.YtljgkfdnmikpfaaGreatDoor
/- Operators: Add. -/
namespace Go.Proofs.YtljgkfdnmikpfaaGreatDoor
open Go.Shelf Go.RowKit

theorem good_len {xs : List O} (h : goodB xs = true) : xs.length ≤ 128 := by
  unfold goodB at h
  rw [Bool.and_eq_true] at h
  simpa using h.1

end Go.Proofs.YtljgkfdnmikpfaaGreatDoor
/- Operators: what Add does to a good table. Nothing here is walked. -/
namespace Go.Proofs.YtljgkfdnmikpfaaGreatDoor
open Go.Shelf Go.RowKit

def key (x : O) : List UInt8 × Int := (bl x.n, sideB (bl x.k))
theorem isAt_iff (n : List UInt8) (s : Int) (y : O) : isAt n s y = true ↔ key y = (n, s) := by
  simp [isAt, key]
theorem isAt_no (n : List UInt8) (s : Int) (y : O) : isAt n s y = false ↔ key y ≠ (n, s) := by
  rw [← Bool.not_eq_true, isAt_iff]
theorem place_neg (xs : List O) (n : List UInt8) (s : Int) : placeB xs n s < 0 ↔ ∀ x ∈ xs, key x ≠ (n, s) := by
  rcases place_cases xs n s with ⟨h1, h2⟩ | ⟨k, x, h1, h2, h3, _⟩
  · rw [h1]
    refine ⟨fun _ x hx => ?_, fun _ => by decide⟩
    obtain ⟨j, hj, rfl⟩ := List.getElem_of_mem hx
    exact (isAt_no _ _ _).1 (h2 j _ (List.getElem?_eq_getElem hj))
  · rw [h1]
    refine ⟨fun h => by omega, fun h => absurd ((isAt_iff _ _ _).1 h3) (h x (List.mem_of_getElem? h2))⟩
def mayO (x : O) : Bool := mayB (bl x.n) (bl x.k) x.l
theorem good_iff (xs : List O) : goodB xs = true ↔ xs.length ≤ 128 ∧ (∀ x ∈ xs, mayO x = true) ∧ (xs.map key).Nodup := by
  have hall : ((List.range xs.length).all fun k => okB (xs.take k) xs[k]!) = true ↔ ∀ (k : Nat) (x : O), xs[k]? = some x → okB (xs.take k) x = true := by
    rw [List.all_eq_true]
    constructor
    · intro h k x hx
      have hk := (List.getElem?_eq_some_iff.1 hx).1
      have := h k (List.mem_range.2 hk)
      rwa [List.getElem!_eq_getElem?_getD, hx] at this
    · intro h k hk
      have hk := List.mem_range.1 hk
      exact h k _ (by rw [List.getElem!_eq_getElem?_getD, List.getElem?_eq_getElem hk]; rfl)
  unfold goodB
  rw [Bool.and_eq_true, hall]
  simp only [decide_eq_true_eq]
  refine and_congr_right fun _ => ?_
  have hok : ∀ (pre : List O) (x : O), okB pre x = true ↔ mayO x = true ∧ ∀ y ∈ pre, key y ≠ key x := fun pre x => by
    unfold okB
    rw [Bool.and_eq_true, decide_eq_true_eq, place_neg]
    rfl
  constructor
  · intro h
    refine ⟨fun x hx => ?_, ?_⟩
    · obtain ⟨j, hj, rfl⟩ := List.getElem_of_mem hx
      exact ((hok _ _).1 (h j _ (List.getElem?_eq_getElem hj))).1
    · rw [List.nodup_iff_pairwise_ne, List.pairwise_map, List.pairwise_iff_getElem]
      intro i j hi hj hij
      exact ((hok _ _).1 (h j _ (List.getElem?_eq_getElem hj))).2 _ (List.mem_take_iff_getElem.2 ⟨i, by omega, rfl⟩)
  · rintro ⟨h1, h2⟩ k x hx
    refine (hok _ _).2 ⟨h1 x (List.mem_of_getElem? hx), fun y hy => ?_⟩
    obtain ⟨i, hi, rfl⟩ := List.mem_take_iff_getElem.1 hy
    obtain ⟨hk, rfl⟩ := List.getElem?_eq_some_iff.1 hx
    rw [List.nodup_iff_pairwise_ne, List.pairwise_map, List.pairwise_iff_getElem] at h2
    exact h2 i k (by omega) hk (by omega)
theorem nodup_key {xs : List O} (h : (xs.map key).Nodup) {x y : O} (hx : x ∈ xs) (hy : y ∈ xs) (e : key x = key y) : x = y := by
  obtain ⟨i, hi, rfl⟩ := List.getElem_of_mem hx
  obtain ⟨j, hj, rfl⟩ := List.getElem_of_mem hy
  rw [List.nodup_iff_pairwise_ne, List.pairwise_map, List.pairwise_iff_getElem] at h
  rcases Nat.lt_trichotomy i j with hlt | rfl | hlt
  · exact absurd e (h i j hi hj hlt)
  · rfl
  · exact absurd e.symm (h j i hj hi hlt)
theorem one_mem {xs : List O} (hg : goodB xs = true) {x : O} (hx : x ∈ xs) {n : List UInt8} {s : Int} (e : key x = (n, s)) : oneB xs n s = (x, true) := by
  rcases place_cases xs n s with ⟨h1, h2⟩ | ⟨k, y, h1, h2, h3, _⟩
  · exfalso
    have := (place_neg xs n s).1 (by rw [h1]; decide) x hx
    exact this e
  · have hy := nodup_key ((good_iff xs).1 hg).2.2 (List.mem_of_getElem? h2) hx (by rw [e]; exact (isAt_iff _ _ _).1 h3)
    subst hy
    unfold oneB
    rw [h1, hg]
    have h4 : ¬ ((k : Int) < 0) := by omega
    simp only [h4, decide_false, Bool.not_true, Bool.or_self, Int.toNat_natCast]
    rw [List.getElem!_eq_getElem?_getD, h2]
    rfl
theorem one_none {xs : List O} {n : List UInt8} {s : Int} (h : ∀ x ∈ xs, key x ≠ (n, s)) : oneB xs n s = (default, false) := by
  unfold oneB
  rw [decide_eq_true ((place_neg xs n s).2 h)]
  rfl
end Go.Proofs.YtljgkfdnmikpfaaGreatDoor
/- The document's own: between, ahead, one operator, the sides, the first of a name. -/
namespace Go.Proofs.YtljgkfdnmikpfaaGreatDoor
open Go.Shelf Go.RowKit

def betB (k : List UInt8) : Bool := (k == [120, 102, 120]) || (k == [120, 102, 121]) || (k == [121, 102, 120])
def aheadB (k : List UInt8) : Bool := (k == [102, 121]) || (k == [102, 120])
theorem bet_side (k : List UInt8) : betB k = (sideB k == 2) := by
  unfold betB sideB
  cases (k == [120, 102, 120]) <;> cases (k == [120, 102, 121]) <;> cases (k == [121, 102, 120]) <;> cases (k == [102, 121]) <;> cases (k == [102, 120]) <;> rfl
theorem side_or (k : List UInt8) : (betB k || aheadB k) = (sideB k != 0) := by
  unfold betB aheadB sideB
  cases (k == [120, 102, 120]) <;> cases (k == [120, 102, 121]) <;> cases (k == [121, 102, 120]) <;> cases (k == [102, 121]) <;> cases (k == [102, 120]) <;> rfl

theorem may_bounds {n k : List UInt8} {l : Int} (h : mayB n k l = true) : 1 ≤ l ∧ l ≤ 1200 := by
  unfold mayB at h
  split at h
  · simp at h
    omega
  · split at h
    · cases h
    · split at h
      · cases h
      · split at h
        · cases h
        · split at h
          · cases h
          · simp at h
            exact ⟨h.1.2, h.2⟩
theorem may_size {n k : List UInt8} {l : Int} (h : mayB n k l = true) : n.length ≤ 64 := by
  unfold mayB at h
  split at h
  · rename_i h1
    have : n = [44] := by simpa using h1
    rw [this]
    decide
  · split at h
    · cases h
    · split at h
      · cases h
      · split at h
        · cases h
        · split at h
          · cases h
          · simp at h
            omega
theorem may_not {n k : List UInt8} {l : Int} (h : (n == [] || n == [124] || n == [91, 93] || n == [123, 125]) = true) : mayB n k l = false := by
  simp at h
  rcases h with ((rfl | rfl) | rfl) | rfl <;> rfl

theorem between_walk (k : ByteArray) (w : World) : Calls Tryz.prog 95 #[.string k] w fun e w' => e = .returned (.bool (betB (bl k))) ∧ w = w' := by
  have hE : betB (bl k) = ((k.toList == [120, 102, 120]) || (k.toList == [120, 102, 121]) || (k.toList == [121, 102, 120])) := by unfold betB; rw [Lib.toList_data]
  rw [hE]; clear hE
  cases h1 : (k.toList == [120, 102, 120])
  · cases h2 : (k.toList == [120, 102, 121])
    · cases h3 : (k.toList == [121, 102, 120])
      · go_enter Tryz.func95, Tryz.ntmps95
        go_wp2
        go_ret
        exact ⟨rfl, rfl⟩
      · go_enter Tryz.func95, Tryz.ntmps95
        go_wp2
        go_ret
        exact ⟨rfl, rfl⟩
    · go_enter Tryz.func95, Tryz.ntmps95
      go_wp2
      go_ret
      exact ⟨rfl, rfl⟩
  · go_enter Tryz.func95, Tryz.ntmps95
    go_wp2
    go_ret
    exact ⟨rfl, rfl⟩
theorem ahead_walk (k : ByteArray) (w : World) : Calls Tryz.prog 140 #[.string k] w fun e w' => e = .returned (.bool (aheadB (bl k))) ∧ w = w' := by
  have hE : aheadB (bl k) = ((k.toList == [102, 121]) || (k.toList == [102, 120])) := by unfold aheadB; rw [Lib.toList_data]
  rw [hE]; clear hE
  cases h1 : (k.toList == [102, 121])
  · cases h2 : (k.toList == [102, 120])
    · go_enter Tryz.func140, Tryz.ntmps140
      go_wp2
      go_ret
      exact ⟨rfl, rfl⟩
    · go_enter Tryz.func140, Tryz.ntmps140
      go_wp2
      go_ret
      exact ⟨rfl, rfl⟩
  · go_enter Tryz.func140, Tryz.ntmps140
    go_wp2
    go_ret
    exact ⟨rfl, rfl⟩

set_option maxRecDepth 100000
set_option maxHeartbeats 2000000 in
theorem goodOp_walk (n k : ByteArray) (l : Int) (w : World) :
    Calls Tryz.prog 94 #[.agg #[.string n, .string k, .int .i64 l]] w fun e w' => e = .returned (.bool (mayB (bl n) (bl k) l)) ∧ Below w.heap.size w w' := by
  cases h0 : (n.toList == [])
  · cases h1 : decide ((n.size : Int) > 64)
    · cases h2 : (n.toList == [124])
      · cases h3 : (n.toList == [91, 93])
        · cases h4 : (n.toList == [123, 125])
          · cases h5 : decide (l < 1)
            · cases h6 : decide (l > 1200)
              · cases h7 : (n.toList == [44])
                · have hE : mayB (bl n) (bl k) l = (betB (bl k) || aheadB (bl k)) := by
                    have a1 : decide ((n.size : Int) ≤ 64) = true := by simp at h1 ⊢; omega
                    have a2 : decide (1 ≤ l) = true := by simp at h5 ⊢; omega
                    have a3 : decide (l ≤ 1200) = true := by simp at h6 ⊢; omega
                    rw [side_or]
                    unfold mayB
                    rw [tests_bl h0, tests_bl h2, tests_bl h3, tests_bl h4, tests_bl h7]
                    show (decide ((n.size : Int) ≤ 64) && _ && _ && _) = _
                    rw [a1, a2, a3]
                    simp
                  rw [hE]; clear hE
                  have hb := between_walk k
                  have ha := ahead_walk k
                  obtain ⟨p, hp⟩ : ∃ p, betB (bl k) = p := ⟨_, rfl⟩
                  obtain ⟨q, hq⟩ : ∃ q, aheadB (bl k) = q := ⟨_, rfl⟩
                  rw [hp] at hb
                  rw [hq] at ha
                  rw [hp, hq]
                  have HB := Lib.hid hb; have HA := Lib.hid ha
                  clear hb ha hp hq
                  cases p
                  · go_enter Tryz.func94, Tryz.ntmps94
                    (go_wp2_with fail; go_fit (HB.out _); rintro e w' ⟨rfl, rfl⟩)
                    (go_wp2_with fail; go_fit (HA.out _); rintro e w' ⟨rfl, rfl⟩)
                    go_wp2
                    go_ret
                    exact ⟨by simp, bel1' _ _⟩
                  · go_enter Tryz.func94, Tryz.ntmps94
                    (go_wp2_with fail; go_fit (HB.out _); rintro e w' ⟨rfl, rfl⟩)
                    go_wp2
                    go_ret
                    exact ⟨by simp, bel1' _ _⟩
                · have hE : mayB (bl n) (bl k) l = ((k.toList == [120, 102, 121]) && (l == 1000)) := by
                    unfold mayB; rw [if_pos (tests_bl h7)]; rw [Lib.toList_data]
                  rw [hE]; clear hE
                  cases h8 : (k.toList == [120, 102, 121])
                  · go_enter Tryz.func94, Tryz.ntmps94
                    go_wp2
                    go_ret
                    exact ⟨by simp, bel1' _ _⟩
                  · cases h9 : (l == 1000)
                    · go_enter Tryz.func94, Tryz.ntmps94
                      go_wp2
                      go_ret
                      exact ⟨by simp, bel1' _ _⟩
                    · go_enter Tryz.func94, Tryz.ntmps94
                      go_wp2
                      go_ret
                      exact ⟨by simp, bel1' _ _⟩
              · have hE : mayB (bl n) (bl k) l = false := by
                  simp at h6
                  cases hm : mayB (bl n) (bl k) l
                  · rfl
                  · have := may_bounds hm; omega
                rw [hE]; clear hE
                go_enter Tryz.func94, Tryz.ntmps94
                go_wp2
                go_ret
                exact ⟨rfl, bel1' _ _⟩
            · have hE : mayB (bl n) (bl k) l = false := by
                simp at h5
                cases hm : mayB (bl n) (bl k) l
                · rfl
                · have := may_bounds hm; omega
              rw [hE]; clear hE
              go_enter Tryz.func94, Tryz.ntmps94
              go_wp2
              go_ret
              exact ⟨rfl, bel1' _ _⟩
          · have hE : mayB (bl n) (bl k) l = false := may_not (by simp [tests_bl h4])
            rw [hE]; clear hE
            go_enter Tryz.func94, Tryz.ntmps94
            go_wp2
            go_ret
            exact ⟨rfl, bel1' _ _⟩
        · have hE : mayB (bl n) (bl k) l = false := may_not (by simp [tests_bl h3])
          rw [hE]; clear hE
          go_enter Tryz.func94, Tryz.ntmps94
          go_wp2
          go_ret
          exact ⟨rfl, bel1' _ _⟩
      · have hE : mayB (bl n) (bl k) l = false := may_not (by simp [tests_bl h2])
        rw [hE]; clear hE
        go_enter Tryz.func94, Tryz.ntmps94
        go_wp2
        go_ret
        exact ⟨rfl, bel1' _ _⟩
    · have hE : mayB (bl n) (bl k) l = false := by
        cases hm : mayB (bl n) (bl k) l
        · rfl
        · have := may_size hm
          simp at h1
          have e : (bl n).length = n.size := rfl
          omega
      rw [hE]; clear hE
      go_enter Tryz.func94, Tryz.ntmps94
      go_wp2
      go_ret
      exact ⟨rfl, bel1' _ _⟩
  · have hE : mayB (bl n) (bl k) l = false := may_not (by simp [tests_bl h0])
    rw [hE]; clear hE
    go_enter Tryz.func94, Tryz.ntmps94
    go_wp2
    go_ret
    exact ⟨rfl, bel1' _ _⟩
end Go.Proofs.YtljgkfdnmikpfaaGreatDoor
/- The document's own: the first of a name, the sides, alike lists, the table as its own, good tables. -/
namespace Go.Proofs.YtljgkfdnmikpfaaGreatDoor
open Go.Shelf Go.RowKit

def isR (n : List UInt8) (bt : Bool) (y : O) : Bool := (bl y.n == n) && (betB (bl y.k) == bt)
def findB (xs : List O) (n : List UInt8) (bt : Bool) : Int := Lib.idxBy (fun _ y => isR n bt y) xs default
theorem idx_from (p : O → Bool) : ∀ (xs : List O) (i : Nat), (Lib.idxByFrom (fun _ y => p y) default xs i = -1 ∧ ∀ (j : Nat) (y : O), xs[j]? = some y → p y = false) ∨
    (∃ (k : Nat) (x : O), Lib.idxByFrom (fun _ y => p y) default xs i = ((i + k : Nat) : Int) ∧ xs[k]? = some x ∧ p x = true ∧ ∀ (j : Nat) (y : O), j < k → xs[j]? = some y → p y = false) := by
  intro xs
  induction xs with
  | nil => intro i; exact Or.inl ⟨rfl, fun j y h => by simp at h⟩
  | cons a r ih =>
    intro i
    cases ha : p a
    · rcases ih (i + 1) with ⟨h1, h2⟩ | ⟨k, x, h1, h2, h3, h4⟩
      · refine Or.inl ⟨by simp only [Lib.idxByFrom, ha]; exact h1, fun j y hy => ?_⟩
        cases j with
        | zero => simp at hy; rw [← hy]; exact ha
        | succ j => exact h2 j y (by simpa using hy)
      · refine Or.inr ⟨k + 1, x, by simp only [Lib.idxByFrom, ha]; rw [show i + (k + 1) = i + 1 + k by omega]; exact h1, by simpa using h2, h3, fun j y hj hy => ?_⟩
        cases j with
        | zero => simp at hy; rw [← hy]; exact ha
        | succ j => exact h4 j y (by omega) (by simpa using hy)
    · exact Or.inr ⟨0, a, by simp [Lib.idxByFrom, ha], rfl, ha, fun j y hj => by omega⟩
theorem find_cases (xs : List O) (n : List UInt8) (bt : Bool) : (findB xs n bt = -1 ∧ ∀ (j : Nat) (y : O), xs[j]? = some y → isR n bt y = false) ∨
    (∃ (k : Nat) (x : O), findB xs n bt = k ∧ xs[k]? = some x ∧ isR n bt x = true ∧ ∀ (j : Nat) (y : O), j < k → xs[j]? = some y → isR n bt y = false) := by
  rcases idx_from (isR n bt) xs 0 with h | ⟨k, x, h1, h2⟩
  · exact Or.inl h
  · exact Or.inr ⟨k, x, by rw [Nat.zero_add] at h1; exact h1, h2⟩
theorem find_hit {xs : List O} {n : List UInt8} {bt : Bool} {k : Nat} {x : O} (hx : xs[k]? = some x) (h : isR n bt x = true) (hno : ∀ (j : Nat) (y : O), j < k → xs[j]? = some y → isR n bt y = false) : findB xs n bt = k := by
  rcases find_cases xs n bt with ⟨_, h2⟩ | ⟨m, y, h1, h2, h3, h4⟩
  · rw [h2 k x hx] at h; cases h
  · rcases Nat.lt_trichotomy m k with hlt | rfl | hlt
    · rw [hno m y hlt h2] at h3; cases h3
    · exact h1
    · rw [h4 k x hlt hx] at h; cases h
theorem find_miss {xs : List O} {n : List UInt8} {bt : Bool} (hno : ∀ (j : Nat) (y : O), xs[j]? = some y → isR n bt y = false) : findB xs n bt = -1 := by
  rcases find_cases xs n bt with ⟨h, _⟩ | ⟨m, y, h1, h2, h3, h4⟩
  · exact h
  · rw [hno m y h2] at h3; cases h3

set_option maxHeartbeats 1000000 in
theorem find_walk {w : World} {v : Value} {xs : List O} (h : Ops w v xs) (n : ByteArray) (bt : Bool) :
    Calls Tryz.prog 144 #[v, .string n, .bool bt] w fun e w' => e = .returned (.int .i64 (findB xs (bl n) bt)) ∧ w = w' := by
  obtain ⟨a, c, rfl, hl1, hl2⟩ := h.form
  unfold maxLen at hl2
  have H := Lib.hid h
  clear h
  obtain ⟨z, hz⟩ : ∃ z, findB xs (bl n) bt = z := ⟨_, rfl⟩
  have HZ := Lib.hid hz
  rw [hz]
  clear hz
  go_enter Tryz.func144, Tryz.ntmps144
  go_wp2_with fail
  go_loop [7] (fun i => ∃ k : Nat, k ≤ xs.length ∧ i = .int .i64 k ∧ Hid (∀ (j : Nat) (y : O), j < k → xs[j]? = some y → isR (bl n) bt y = false)) (fun i => xs.length - (intOf i).toNat)
  case atStart => exact ⟨0, by omega, rfl, Lib.hid (fun j y hj => by omega)⟩
  case round =>
    obtain ⟨k, hk, rfl, HN⟩ := hrel
    by_cases hlt : k < xs.length
    · obtain ⟨x, hx⟩ : ∃ x, xs[k]? = some x := ⟨_, List.getElem?_eq_getElem hlt⟩
      obtain ⟨b, off, rfl, hbs, d0, d1, d2⟩ := H.out.cells hx
      have HX := Lib.hid hx
      clear hx d2
      rcases x with ⟨xn, xk, xl⟩
      simp only at d0 d1
      have hkk : (k : Int) < xs.length := by omega
      have hbw := between_walk xk
      have HI : Hid (isR (bl n) bt ⟨xn, xk, xl⟩ = ((xn.toList == n.toList) && (betB (bl xk) == bt))) := Lib.hid (by unfold isR; rw [Lib.toList_data, Lib.toList_data])
      obtain ⟨p, hp⟩ : ∃ p, betB (bl xk) = p := ⟨_, rfl⟩
      rw [hp] at hbw HI
      have HBW := Lib.hid hbw
      clear hbw hp
      cases h1 : (xn.toList == n.toList)
      · have HNO : Hid (isR (bl n) bt ⟨xn, xk, xl⟩ = false) := Lib.hid (by rw [HI.out, h1]; rfl)
        go_wp2
        exact ⟨⟨k + 1, by omega, by go_num, Lib.hid (fun j y hj hy => by
          rcases Nat.lt_succ_iff_lt_or_eq.1 hj with h | rfl
          · exact HN.out j y h hy
          · have := HX.out; rw [hy] at this; cases this; exact HNO.out)⟩, by simp [intOf]; omega⟩
      · cases h2 : (p == bt)
        · have HNO : Hid (isR (bl n) bt ⟨xn, xk, xl⟩ = false) := Lib.hid (by rw [HI.out, h1, h2]; rfl)
          (go_wp2_with fail; go_fit (HBW.out _); rintro e w' ⟨rfl, rfl⟩)
          go_wp2
          exact ⟨⟨k + 1, by omega, by go_num, Lib.hid (fun j y hj hy => by
            rcases Nat.lt_succ_iff_lt_or_eq.1 hj with h | rfl
            · exact HN.out j y h hy
            · have := HX.out; rw [hy] at this; cases this; exact HNO.out)⟩, by simp [intOf]; omega⟩
        · have HYES : Hid (z = k) := Lib.hid (by rw [← HZ.out]; exact find_hit HX.out (by rw [HI.out, h1, h2]; rfl) HN.out)
          (go_wp2_with fail; go_fit (HBW.out _); rintro e w' ⟨rfl, rfl⟩)
          go_wp2
          go_ret
          exact ⟨ret_int HYES.out.symm, rfl⟩
    · have HNO : Hid (z = -1) := Lib.hid (by rw [← HZ.out]; exact find_miss (fun j y hy => HN.out j y (by have := (List.getElem?_eq_some_iff.1 hy).1; omega) hy))
      have hkk : ¬ (k : Int) < xs.length := by omega
      go_wp2
      go_ret
      exact ⟨ret_int HNO.out.symm, rfl⟩

end Go.Proofs.YtljgkfdnmikpfaaGreatDoor
