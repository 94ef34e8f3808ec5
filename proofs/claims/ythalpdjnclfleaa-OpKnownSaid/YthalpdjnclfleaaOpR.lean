/- The document's own: the sides, the table as its own. -/
import Derived.Test.YthalpdjnclfleaaOpQ
namespace Go.Proofs.Ythalpdjnclfleaa
open Go.Shelf Go.RowKit

set_option maxRecDepth 100000
set_option maxHeartbeats 1000000 in
theorem rsides_walk (n k : ByteArray) (l : Int) (w : World) :
    Calls Try.prog 18 #[.agg #[.string n, .string k, .int .i64 l]] w fun e w' => e = .returned (.tuple #[.int .i64 (sidesB (bl k) l).1, .int .i64 (sidesB (bl k) l).2]) ∧ Below w.heap.size w w' := by
  cases h1 : (k.toList == [120, 102, 120])
  · cases h2 : (k.toList == [120, 102, 121])
    · cases h3 : (k.toList == [121, 102, 120])
      · cases h4 : (k.toList == [102, 121])
        · cases h5 : (k.toList == [102, 120])
          · have hE : sidesB (bl k) l = (0, 0) := by unfold sidesB; simp only [tests_bl h1, tests_bl h2, tests_bl h3, tests_bl h4, tests_bl h5, if_true]; try rfl
            rw [hE]; clear hE
            go_enter Try.func18, Try.ntmps18
            go_wp2
            go_ret2
            exact ⟨rfl, by first | exact bel1' _ _ | exact bel_drewN (bel1' _ _) _⟩
          · have hE : sidesB (bl k) l = (0, wrap64 (l - 1)) := by unfold sidesB; simp only [tests_bl h1, tests_bl h2, tests_bl h3, tests_bl h4, tests_bl h5, if_true]; try rfl
            rw [hE]; clear hE
            go_enter Try.func18, Try.ntmps18
            go_wp2_with fail
            go_quiet (fail)
            go_wp2
            go_ret2
            exact ⟨rfl, by first | exact bel1' _ _ | exact bel_drewN (bel1' _ _) _⟩
        · have hE : sidesB (bl k) l = (0, l) := by unfold sidesB; simp only [tests_bl h1, tests_bl h2, tests_bl h3, tests_bl h4, if_true]; try rfl
          rw [hE]; clear hE
          go_enter Try.func18, Try.ntmps18
          go_wp2_with fail
          go_quiet (fail)
          go_wp2
          go_ret2
          exact ⟨rfl, by first | exact bel1' _ _ | exact bel_drewN (bel1' _ _) _⟩
      · have hE : sidesB (bl k) l = (l, wrap64 (l - 1)) := by unfold sidesB; simp only [tests_bl h1, tests_bl h2, tests_bl h3, if_true]; try rfl
        rw [hE]; clear hE
        go_enter Try.func18, Try.ntmps18
        go_wp2_with fail
        go_quiet (fail)
        go_wp2
        go_ret2
        exact ⟨rfl, by first | exact bel1' _ _ | exact bel_drewN (bel1' _ _) _⟩
    · have hE : sidesB (bl k) l = (wrap64 (l - 1), l) := by unfold sidesB; simp only [tests_bl h1, tests_bl h2, if_true]; try rfl
      rw [hE]; clear hE
      go_enter Try.func18, Try.ntmps18
      go_wp2_with fail
      go_quiet (fail)
      go_wp2
      go_ret2
      exact ⟨rfl, by first | exact bel1' _ _ | exact bel_drewN (bel1' _ _) _⟩
  · have hE : sidesB (bl k) l = (wrap64 (l - 1), wrap64 (l - 1)) := by unfold sidesB; simp only [tests_bl h1, if_true]; try rfl
    rw [hE]; clear hE
    go_enter Try.func18, Try.ntmps18
    go_wp2_with fail
    go_quiet (fail)
    go_wp2
    go_ret2
    exact ⟨rfl, by first | exact bel1' _ _ | exact bel_drewN (bel1' _ _) _⟩

theorem infoR : (Try.prog.info? 40).map (fun i => (i.zero, i.size, i.bytes)) = some (some (.agg #[.string ⟨#[]⟩, .string ⟨#[]⟩, .int .i64 0]), 3, 40) := by kernel_rfl
theorem infoR_parts : ∃ i, Try.prog.info? 40 = some i ∧ i.zero = some (.agg #[.string ⟨#[]⟩, .string ⟨#[]⟩, .int .i64 0]) ∧ i.size = 3 ∧ i.bytes = 40 := by
  have h := infoR
  cases hi : Try.prog.info? 40 with
  | none => rw [hi] at h; simp at h
  | some i => rw [hi] at h; simp only [Option.map_some, Option.some.injEq, Prod.mk.injEq] at h; exact ⟨i, rfl, h.1, h.2.1, h.2.2⟩
/-- What the call owns, of whatever kind the row is, reads as these. -/
theorem ops_owned {w : World} {B e : Nat} {v : Value} {L : List O} (h : w.ownsRow B e 3 v L.length (L.flatMap oCells)) : Ops w v L := by
  rcases h.2 with ⟨rfl, h0⟩ | ⟨g, cap, cur, rfl, _, hg, h1, h2, h3, h4⟩
  · obtain rfl := List.length_eq_zero_iff.1 h0
    exact ⟨none, 0, rfl, Nat.le_refl _, Nat.zero_le _, Or.inl rfl⟩
  · refine ⟨_, cap, rfl, h1, h2, Or.inr ⟨g, 0, rfl, (Array.getElem?_eq_some_iff.1 hg).1, fun i x hx j u hu => ?_⟩⟩
    have hj : j < 3 := by have := (List.getElem?_eq_some_iff.1 hu).1; rwa [oCells_len] at this
    have hi := (List.getElem?_eq_some_iff.1 hx).1
    have h5 := flat3_get L i x hx j hj
    rw [← h4, List.getElem?_take, if_pos (by omega), hu] at h5
    rw [Nat.zero_add, World.cell?, hg]
    simpa using h5
theorem one_src (w : World) (x : O) (t : TypeId) : ∀ (j : Nat) (u : Value), ([x].flatMap oCells)[j]? = some u → (w.alloc (.cells #[.string x.n, .string x.k, .int .i64 x.l] t)).cell? ((⟨w.heap.size, 0, none⟩ : Addr).add j) = some u := fun j u hu => by
  rw [add_plain, Nat.zero_add, World.cell?_alloc_at _ _ _ _ rfl]
  simpa [oCells] using hu

set_option maxHeartbeats 2000000 in
theorem ownOps_walk {w : World} {v : Value} {xs : List O} (h : Ops w v xs) (hl : xs.length ≤ 5000) :
    Calls Try.prog 14 #[.agg #[v]] w fun e w' => ∃ a c, e = .returned (.slice a xs.length c) ∧ Ops w' (.slice a xs.length c) xs ∧ Below w.heap.size w w' := by
  obtain ⟨a, c, rfl, hl1, hl2⟩ := h.form
  unfold maxLen at hl2
  have H := Lib.hid h
  clear h
  obtain ⟨i0, hi0, hz0, hs0, hb0⟩ := infoR_parts
  go_enter Try.func14, Try.ntmps14
  go_wp2_with fail
  go_loopw [3, 4] (fun r i wr => ∃ (k : Nat) (a' : Option Addr) (c' : Nat), k ≤ xs.length ∧ i = .int .i64 k ∧ r = .slice a' k c' ∧ Hid (wr.ownsRow (w.heap.size + 1) 40 3 (.slice a' k c') k ((xs.take k).flatMap oCells) ∧
    wr.cell? ⟨w.heap.size, 0, none⟩ = some (.slice a xs.length c) ∧ w.heap.size + 1 ≤ wr.heap.size ∧ Below (w.heap.size + 1) (w.alloc (.cells #[.slice a xs.length c] 25)) wr)) (fun _ i _ => xs.length - (intOf i).toNat)
  case atStart => exact ⟨0, none, 0, by omega, rfl, rfl, Lib.hid ⟨⟨rfl, Or.inl ⟨rfl, rfl⟩⟩, by simp, by simp, Below.refl _ _⟩⟩
  case round =>
    obtain ⟨k, a1, c1, hk, rfl, rfl, HB⟩ := hrel
    have c0 := HB.out.2.1
    have HBW : Hid (Below w.heap.size w wr) := Lib.hid (Below.trans (bel1' _ _) (HB.out.2.2.2.mono (by simp)))
    by_cases hlt : k < xs.length
    · obtain ⟨x, hx⟩ : ∃ x, xs[k]? = some x := ⟨_, List.getElem?_eq_getElem hlt⟩
      obtain ⟨b, off, rfl, hbs, d0, d1, d2⟩ := (H.out.ext HBW.out).cells hx
      have HT : Hid ((xs.take (k + 1)).flatMap oCells = (xs.take k).flatMap oCells ++ [x].flatMap oCells) := Lib.hid (by rw [List.take_add_one, hx, List.flatMap_append]; rfl)
      have HDD := Lib.hid (fun (wq : World) (hb : Below (w.heap.size + 1) (w.alloc (.cells #[.slice (some ⟨b, off, none⟩) xs.length c] 25)) wq) => (show wq.cell? ⟨w.heap.size, 0, none⟩ = some (.slice (some ⟨b, off, none⟩) xs.length c) ∧ wq.cell? ⟨b, off + k * 3, none⟩ = some (.string x.n) ∧ wq.cell? ⟨b, off + k * 3 + 1, none⟩ = some (.string x.k) ∧ wq.cell? ⟨b, off + k * 3 + 2, none⟩ = some (.int .i64 x.l) from by
        refine ⟨(hb.cell (p := ⟨w.heap.size, 0, none⟩) (by simp)).trans (by simp), ?_⟩
        obtain ⟨b', off', e, _, h⟩ := (H.out.ext (Below.trans (bel1' _ _) (hb.mono (by simp)))).cells hx
        cases e
        exact h))
      clear hx
      have hone := fun (wq : World) => one_src wq x 40
      rcases x with ⟨xn, xk, xl⟩
      simp only at d0 d1 d2 hone HDD
      have HONE := Lib.hid hone
      clear hone
      have hkk : (k : Int) < xs.length := by omega
      have HSZ := Lib.hid HB.out.2.2.1
      go_wp2_with fail
      go_region_held3 (fun w' => w'.cell? ⟨w.heap.size, 0, none⟩ = some (.slice (some ⟨b, off, none⟩) xs.length c) ∧ w'.cell? ⟨b, off + k * 3, none⟩ = some (.string xn) ∧ w'.cell? ⟨b, off + k * 3 + 1, none⟩ = some (.string xk) ∧ w'.cell? ⟨b, off + k * 3 + 2, none⟩ = some (.int .i64 xl))
        (first | exact ⟨c0, d0, d1, d2⟩ | exact HDD.out _ HB4.out | go_keep)
        (first
          | (refine step_append_k (by rfl) _ _ 37 (by rfl) (w.heap.size + 1) 40 i0 (.agg #[.string ⟨#[]⟩, .string ⟨#[]⟩, .int .i64 0]) 3 40 Try.underlying37 hi0 hz0 hs0 (by decide) hb0 rfl (.slice a1 k c1) k ((xs.take k).flatMap oCells) (by rfl) (HB.out.1.alloc _) (some ⟨wr.heap.size, 0, none⟩) 1 1 ([(⟨xn, xk, xl⟩ : O)].flatMap oCells) (by rfl) (by rfl) (Or.inr ⟨_, rfl, HONE.out wr⟩) (flat3_one _) (by unfold maxLen; omega) (by omega) (by have := HSZ.out; simp; omega) (k + 1) ((xs.take (k + 1)).flatMap oCells) rfl HT.out ?_; intro a4 c4 w4 hown4 hgrow4 hat4; have HO4 := Lib.hid hown4; have HB4 := Lib.hid ((HB.out.2.2.2.alloc HSZ.out (.cells #[.string xn, .string xk, .int .i64 xl] 40)).drew.grown hgrow4 (by have := HSZ.out; simp; omega) (own_base HB.out.1)); clear hown4 hgrow4 hat4)
          | fail)
      go_wp2
      go_roundw
      case rel => exact ⟨k + 1, a4, c4, by omega, by go_num, rfl, Lib.hid ⟨HO4.out, (HDD.out _ HB4.out).1, by have := HB4.out.size; simpa using this, HB4.out⟩⟩
      case measure => simp [intOf]; omega
    · have hkn : k = xs.length := by omega
      subst hkn
      have hown := HB.out.1
      rw [List.take_length] at hown
      have HO := Lib.hid (ops_owned hown)
      clear hown
      go_wp2
      go_ret
      exact ⟨_, _, rfl, HO.out, HBW.out⟩
end Go.Proofs.Ythalpdjnclfleaa
