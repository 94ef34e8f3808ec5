/- Operators: slices.Grow and slices.Concat at them. -/
import Derived.Test.YthalpdjnclfleaaOpD
import Derived.Test.YthalpdjnclfleaaAppK
import Derived.Shelf.Spec.SlicesGrow
namespace Go.Proofs.Ythalpdjnclfleaa
open Go.Shelf Go.RowKit

theorem flat3_len (L : List O) : (L.flatMap oCells).length = L.length * 3 := by
  induction L with
  | nil => rfl
  | cons a r ih => rw [List.flatMap_cons, List.length_append, ih, oCells_len]; simp; omega
theorem flat3_get : ∀ (L : List O) (i : Nat) (x : O), L[i]? = some x → ∀ j, j < 3 → (L.flatMap oCells)[i * 3 + j]? = (oCells x)[j]?
  | [], i, x, h, _, _ => by simp at h
  | a :: r, 0, x, h, j, hj => by
    simp at h
    subst h
    rw [List.flatMap_cons, List.getElem?_append_left (by rw [oCells_len]; omega)]
    congr 1
    omega
  | a :: r, i + 1, x, h, j, hj => by
    rw [List.flatMap_cons, List.getElem?_append_right (by rw [oCells_len]; omega), oCells_len, show (i + 1) * 3 + j - 3 = i * 3 + j by omega]
    exact flat3_get r i x (by simpa using h) j hj
theorem flat3_at (L : List O) (j : Nat) (u : Value) (h : (L.flatMap oCells)[j]? = some u) : ∃ x, L[j / 3]? = some x ∧ (oCells x)[j % 3]? = some u := by
  have hj := (List.getElem?_eq_some_iff.1 h).1
  rw [flat3_len] at hj
  obtain ⟨x, hx⟩ : ∃ x, L[j / 3]? = some x := ⟨_, List.getElem?_eq_getElem (by omega)⟩
  refine ⟨x, hx, ?_⟩
  rw [← flat3_get L _ x hx (j % 3) (by omega), ← h]
  congr 1
  omega
theorem flat3_one (L : List O) : ∀ u ∈ L.flatMap oCells, u.oneCell' = true := by
  intro u hu
  obtain ⟨x, _, hx⟩ := List.mem_flatMap.1 hu
  simp [oCells] at hx
  rcases hx with rfl | rfl | rfl <;> rfl
/-- What the call owns reads as these. -/
theorem Ops.owned {w : World} {B : Nat} {v : Value} {L : List O} (h : w.ownsRow B 28 3 v L.length (L.flatMap oCells)) : Ops w v L := by
  rcases h.2 with ⟨rfl, h0⟩ | ⟨g, cap, cur, rfl, _, hg, h1, h2, h3, h4⟩
  · obtain rfl := List.length_eq_zero_iff.1 h0
    exact ⟨none, 0, rfl, Nat.le_refl _, Nat.zero_le _, Or.inl rfl⟩
  · refine ⟨_, cap, rfl, h1, h2, Or.inr ⟨g, 0, rfl, (Array.getElem?_eq_some_iff.1 hg).1, fun i x hx j u hu => ?_⟩⟩
    have hj : j < 3 := by have := (List.getElem?_eq_some_iff.1 hu).1; rwa [oCells_len] at this
    have hi := (List.getElem?_eq_some_iff.1 hx).1
    have h5 := flat3_get L i x hx j hj
    rw [← h4, List.getElem?_take, if_pos (by omega), hu] at h5
    rw [Nat.zero_add, World.cell?, hg]
    simpa using h5
theorem Ops.set {w : World} {v : Value} {L : List O} (h : Ops w v L) (a : Addr) (u : Value) (hne : v.ownBlock ≠ some a.block) : Ops (w.setCell a u) v L := by
  obtain ⟨a', cap, rfl, h1, h2, h3⟩ := h
  refine ⟨a', cap, rfl, h1, h2, ?_⟩
  rcases h3 with rfl | ⟨b, off, rfl, hb, hc⟩
  · exact Or.inl rfl
  · refine Or.inr ⟨b, off, rfl, by simpa [World.setCell] using hb, fun i x hx j u' hu => ?_⟩
    rw [World.cell?_of_block (w := w) (Below.heap_setCell w a u b (fun e => hne (by rw [← e]; rfl)))]
    exact hc i x hx j u' hu
theorem Ops.src {w : World} {a : Option Addr} {n c : Nat} {L : List O} (h : Ops w (.slice a n c) L) : n = 0 ∨ ∃ ad, a = some ad ∧ ∀ j u, (L.flatMap oCells)[j]? = some u → w.cell? (ad.add j) = some u := by
  obtain ⟨a', cap', e, h1, h2, h3⟩ := h
  cases e
  rcases h3 with rfl | ⟨b, off, rfl, hb, hc⟩
  · exact Or.inl rfl
  · refine Or.inr ⟨_, rfl, fun j u hu => ?_⟩
    obtain ⟨x, hx, hu'⟩ := flat3_at L j u hu
    rw [add_plain, ← hc _ x hx _ u hu']
    congr 2
    omega

theorem info3 : (Try.prog.info? 28).map (fun i => (i.zero, i.size, i.bytes)) = some (some (.agg #[.string ⟨#[]⟩, .string ⟨#[]⟩, .int .i64 0]), 3, 40) := by kernel_rfl
theorem info3_parts : ∃ i, Try.prog.info? 28 = some i ∧ i.zero = some (.agg #[.string ⟨#[]⟩, .string ⟨#[]⟩, .int .i64 0]) ∧ i.size = 3 ∧ i.bytes = 40 := by
  have h := info3
  cases hi : Try.prog.info? 28 with
  | none => rw [hi] at h; simp at h
  | some i => rw [hi] at h; simp only [Option.map_some, Option.some.injEq, Prod.mk.injEq] at h; exact ⟨i, rfl, h.1, h.2.1, h.2.2⟩

theorem grow_walk (n : Nat) (hn : n ≤ 5000) (w : World) :
    Calls Try.prog 30 #[.slice none 0 0, .int .i64 n] w fun e w' => ∃ a c, e = .returned (.slice a 0 c) ∧ w'.ownsRow w.heap.size 28 3 (.slice a 0 c) 0 [] ∧ Below w.heap.size w w' := by
  obtain ⟨i0, hi0, hz0, hs0, hb0⟩ := info3_parts
  by_cases h0 : n = 0
  · subst h0
    have hcon := Any8.slices_Grow_room Try.growOp none 0 0 0 w (by omega) (by omega) (by omega) (by omega)
    refine Calls.mono (show Calls Try.prog 30 _ _ _ from hcon) ?_
    rintro e w' ⟨rfl, rfl⟩
    exact ⟨none, 0, rfl, ⟨rfl, Or.inl ⟨rfl, rfl⟩⟩, Below.refl _ _⟩
  · have hcon := Any8.slices_Grow_grow Try.growOp i0 _ hi0 hz0 (by omega) none 0 0 n [] w (by omega) (by omega) (by rw [hb0]; omega) (by omega) (by simp) (fun _ => rfl) (fun a h => by cases h)
    refine Calls.mono (show Calls Try.prog 30 _ _ _ from hcon) ?_
    rintro e w' ⟨rfl, rfl⟩
    refine ⟨_, _, rfl, ⟨rfl, Or.inr ⟨w.heap.size, _, _, rfl, Nat.le_refl _, heap_alloc_new w.drew _, Nat.zero_le _, ?_, ?_, by simp⟩⟩, ((Below.refl _ _).drew).alloc (Nat.le_refl _) _⟩
    · exact grownCap_le_maxLen w _ _ _ (by unfold maxLen; omega)
    · have hge := grownCap_ge w (0 + n) 0 28
      simp only [Array.size_append, size_zeroCells]
      show 0 + (0 + n - 0) * 3 + (grownCap w (0 + n) 0 28 - (0 + n)) * 3 = grownCap w (0 + n) 0 28 * 3
      omega

/-- What the first k hold together. -/
def upto (ps : List (Value × List O)) (k : Nat) : List O := (ps.take k).flatMap (·.2)
theorem upto_succ {ps : List (Value × List O)} {k : Nat} {p : Value × List O} (h : ps[k]? = some p) : upto ps (k + 1) = upto ps k ++ p.2 := by
  unfold upto
  rw [List.take_add_one, h]
  simp
theorem upto_all (ps : List (Value × List O)) {k : Nat} (h : ps.length ≤ k) : upto ps k = ps.flatMap (·.2) := by
  unfold upto
  rw [List.take_of_length_le h]
theorem upto_le (ps : List (Value × List O)) (k : Nat) : (upto ps k).length ≤ (ps.flatMap (·.2)).length := by
  unfold upto
  conv => rhs; rw [← List.take_append_drop k ps, List.flatMap_append, List.length_append]
  omega

theorem own_base {w : World} {B e s n : Nat} {v : Value} {xs : List Value} (h : w.ownsRow B e s v n xs) : ∀ k, v.ownBlock = some k → B ≤ k := fun k hk => by
  rcases h.2 with ⟨rfl, _⟩ | ⟨g, cap, cur, rfl, hg, _⟩
  · simp [Value.ownBlock] at hk
  · simp [Value.ownBlock] at hk
    omega
set_option maxHeartbeats 1000000 in
theorem concat_walk {w : World} {v : Value} {ps : List (Value × List O)} (h : Elems 1 (fun p => [p.1]) w v ps) (hp : ∀ p ∈ ps, Ops w p.1 p.2) (hl : ps.length ≤ 20) (hs : (ps.flatMap (·.2)).length ≤ 5000) :
    Calls Try.prog 21 #[v] w fun e w' => ∃ r, e = .returned r ∧ Ops w' r (ps.flatMap (·.2)) ∧ Below w.heap.size w w' ∧ (∀ k, r.ownBlock = some k → w.heap.size ≤ k) := by
  obtain ⟨a, cap, rfl, h1, h2, h3⟩ := h
  have hc : ∀ (k : Nat) (p : Value × List O), ps[k]? = some p → ∃ b off, a = some ⟨b, off, none⟩ ∧ b < w.heap.size ∧ w.cell? ⟨b, off + k, none⟩ = some p.1 := fun k p hk => by
    rcases h3 with rfl | ⟨b, off, rfl, hb, hc⟩
    · simp at hk
    · exact ⟨b, off, rfl, hb, by have := hc k p hk 0 _ rfl; rwa [show off + (k * 1 + 0) = off + k by omega] at this⟩
  have HC := Lib.hid hc; clear hc h3
  have HP := Lib.hid hp; clear hp
  unfold maxLen at h2
  have HS := Lib.hid hs; clear hs
  go_enter Try.func21, Try.ntmps21
  go_wp2_with fail
  go_loop [3, 11] (fun s i => ∃ k : Nat, k ≤ ps.length ∧ i = .int .i64 k ∧ s = .int .i64 ((upto ps k).length : Nat)) (fun _ i => ps.length - (intOf i).toNat)
  case atStart => exact ⟨0, by omega, rfl, rfl⟩
  case round =>
    obtain ⟨k, hk, rfl, rfl⟩ := hrel
    by_cases hlt : k < ps.length
    · obtain ⟨p, hx⟩ : ∃ p, ps[k]? = some p := ⟨_, List.getElem?_eq_getElem hlt⟩
      obtain ⟨b, off, rfl, hb, d0⟩ := HC.out k p hx
      obtain ⟨pv, pl⟩ := p
      obtain ⟨a1, c1, hpv, hq1, hq2⟩ := Ops.form (HP.out _ (List.mem_of_getElem? hx))
      simp only at hpv d0 hq1 hq2
      subst hpv
      have hm := upto_le ps (k + 1)
      rw [upto_succ hx, List.length_append] at hm
      have hss := HS.out
      simp only at hm
      have HX : Hid ((upto ps (k + 1)).length = (upto ps k).length + pl.length) := Lib.hid (by rw [upto_succ hx, List.length_append])
      obtain ⟨m, hmm⟩ : ∃ m, (upto ps k).length = m := ⟨_, rfl⟩
      rw [hmm] at hm HX ⊢
      have hw : IntKind.i64.wrap ((m : Int) + (pl.length : Int)) = (m : Int) + (pl.length : Int) := by rw [IntKind.wrap_i64]; omega
      have hneg : decide ((m : Int) + (pl.length : Int) < 0) = false := by simp; omega
      clear hmm
      go_wp2_with fail
      exact ⟨⟨k + 1, by omega, by go_num, by rw [HX.out]; push_cast; rfl⟩, by simp [intOf]; omega⟩
    · have hkn : k = ps.length := by omega
      subst hkn
      rw [upto_all ps (Nat.le_refl _)]
      obtain ⟨N, hN⟩ : ∃ N, (ps.flatMap (·.2)).length = N := ⟨_, rfl⟩
      have hNle : N ≤ 5000 := by rw [← hN]; exact HS.out
      rw [hN]
      have HN := Lib.hid hN; clear hN
      (go_wp2_with fail; go_fit (grow_walk N hNle w); rintro e w1 ⟨a1, c1, rfl, hown, hb1⟩)
      obtain ⟨i0, hi0, hz0, hs0, hb0⟩ := info3_parts
      have HO := Lib.hid hown; have HB1 := Lib.hid hb1
      clear hown hb1
      go_wp2_with fail
      go_loopw [6, 27] (fun r i wr => ∃ (k : Nat) (a' : Option Addr) (c' : Nat), k ≤ ps.length ∧ i = .int .i64 k ∧ r = .slice a' (upto ps k).length c' ∧ Hid (wr.ownsRow w.heap.size 28 3 (.slice a' (upto ps k).length c') (upto ps k).length ((upto ps k).flatMap oCells) ∧ Below w.heap.size w wr)) (fun _ i _ => ps.length - (intOf i).toNat)
      case atStart => exact ⟨0, a1, c1, by omega, rfl, rfl, Lib.hid ⟨HO.out, HB1.out⟩⟩
      case round =>
        obtain ⟨k, a2, c2, hk, rfl, rfl, HR⟩ := hrel
        by_cases hlt : k < ps.length
        · obtain ⟨p, hx⟩ : ∃ p, ps[k]? = some p := ⟨_, List.getElem?_eq_getElem hlt⟩
          obtain ⟨b, off, rfl, hb, d0⟩ := HC.out k p hx
          obtain ⟨pv, pl⟩ := p
          have hpo := (HP.out _ (List.mem_of_getElem? hx)).ext HR.out.2
          obtain ⟨a3, c3, hpv, hq1, hq2⟩ := Ops.form hpo
          simp only at hpv d0 hq1 hq2 hpo
          subst hpv
          have d1 : wr.cell? ⟨b, off + k, none⟩ = some (.slice a3 pl.length c3) := cell_later HR.out.2 d0
          have HSC := Lib.hid (Ops.src hpo)
          have hm := upto_le ps (k + 1)
          rw [HN.out, upto_succ hx, List.length_append] at hm
          simp only at hm
          have HX : Hid (upto ps (k + 1) = upto ps k ++ pl) := Lib.hid (by rw [upto_succ hx])
          obtain ⟨L, hL⟩ : ∃ L, upto ps k = L := ⟨_, rfl⟩
          rw [hL] at hm HX HR ⊢
          have HL := Lib.hid hL
          clear hL hx d0 hpo
          obtain ⟨m, hmm⟩ : ∃ m, L.length = m := ⟨_, rfl⟩
          rw [hmm] at hm HR ⊢
          have HM := Lib.hid hmm
          clear hmm
          obtain ⟨n, hnn⟩ : ∃ n, pl.length = n := ⟨_, rfl⟩
          have HPL : Hid ((pl.flatMap oCells).length = n * 3) := Lib.hid (by rw [flat3_len, hnn])
          have HNN := Lib.hid hnn
          rw [hnn] at hm d1 HSC hq1
          clear hnn
          go_wp2_with (first
            | (at_builtin; refine wpList_append_k rfl _ _ 23 rfl w.heap.size 28 i0 (.agg #[.string ⟨#[]⟩, .string ⟨#[]⟩, .int .i64 0]) 3 40 Try.underlying23 hi0 hz0 hs0 (by decide) hb0 rfl (.slice a2 m c2) m (L.flatMap oCells) rfl HR.out.1 a3 n c3 (pl.flatMap oCells) rfl HPL.out HSC.out (flat3_one _) (by unfold maxLen; omega) (by omega) HR.out.2.size (m + n) ((L ++ pl).flatMap oCells) rfl (by rw [List.flatMap_append]) ?_; intro a4 c4 w4 hown4 hgrow4 hat4
               have HO4 := Lib.hid hown4
               have HB4 := Lib.hid (HR.out.2.grown hgrow4 HR.out.2.size (own_base HR.out.1))
               clear hown4 hgrow4 hat4)
            | fail)
          exact ⟨⟨k + 1, a4, c4, by omega, by go_num, by rw [HX.out, List.length_append, HM.out, HNN.out], Lib.hid ⟨by rw [HX.out, List.length_append, HM.out, HNN.out]; exact HO4.out, HB4.out⟩⟩, by simp [intOf]; omega⟩
        · have hkk : ¬ (k : Int) < ps.length := by omega
          have HE : Hid (upto ps k = ps.flatMap (·.2)) := Lib.hid (upto_all ps (by omega))
          obtain ⟨m, hmm⟩ : ∃ m, (upto ps k).length = m := ⟨_, rfl⟩
          have HM := Lib.hid hmm
          rw [hmm]
          clear hmm
          go_wp2
          go_ret
          have hfin := HR.out.1
          have hbase := own_base hfin
          rw [HM.out] at hfin hbase
          refine ⟨.slice a2 m c2, rfl, Ops.owned (B := w.heap.size) ?_, HR.out.2, hbase⟩
          rw [← HE.out, HM.out]
          exact hfin
end Go.Proofs.Ythalpdjnclfleaa
