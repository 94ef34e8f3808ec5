/- The document's Num and NumParse. -/
import Derived.Test.YtcpfhjdjooakcaaDoorR3
import Derived.Laws.IdiomStrings
import Derived.Deep.RegionHeld3
namespace Go.Proofs.YtcpfhjdjooakcaaDoor
open Go.RowKit
set_option linter.unusedVariables false
/-- 'string([]byte{d})'. -/
theorem conv1 (W : World) (b : Nat) (d : Int) (h0 : 0 ≤ d) (h1 : d < 256) (hc : W.cell? ⟨b, 0, none⟩ = some (.int .u8 d)) :
    (convert 47 9 (.slice (some ⟨b, 0, none⟩) 1 1)).run Tryd.prog W = .ok (.string ⟨#[UInt8.ofNat d.toNat]⟩) W := by
  have := run_convert_bytes_back (P := Tryd.prog) W 47 9 5 ⟨b, 0, none⟩ 1 [UInt8.ofNat d.toNat] Tryd.underlying47 Tryd.underlying5 Tryd.underlying9 (fun j hj => by
    have : j = 0 := by simp at hj; omega
    subst this
    have e : ((UInt8.ofNat d.toNat).toNat : Int) = d := by
      rw [UInt8.toNat_ofNat']; omega
    simp only [List.getElem_cons_zero, e]
    simpa [Addr.add] using hc)
  exact this
theorem conv1_new (W : World) (d : Int) (h0 : 0 ≤ d) (h1 : d < 256) :
    (convert 47 9 (.slice (some ⟨W.heap.size, 0, none⟩) 1 1)).run Tryd.prog (W.alloc (.cells #[.int .u8 d] 5)) = .ok (.string ⟨#[UInt8.ofNat d.toNat]⟩) (W.alloc (.cells #[.int .u8 d] 5)) :=
  conv1 _ _ d h0 h1 (by rw [World.cell?_alloc_at _ _ _ _ rfl]; rfl)
theorem num_small_pos {n : Int} {w : World} (h0 : 0 ≤ n) (h1 : n < 10) : Calls Tryd.prog 21 #[.int .i64 n] w fun e w' => e = .returned (.string (numText n)) ∧ Below w.heap.size w w' := by
  have K := fun W => conv1_new W (48 + n) (by omega) (by omega)
  have e : numText n = ⟨#[UInt8.ofNat (48 + n).toNat]⟩ := by unfold numText; rw [itoa_small_pos h0 h1]
  rw [e]
  generalize UInt8.ofNat (48 + n).toNat = c at K
  go_enter Tryd.func21, Tryd.ntmps21
  go_wp2
  go_ret
  exact ⟨rfl, (Below.refl _ _).alloc (Nat.le_refl _) _⟩
theorem num_small_neg {n : Int} {w : World} (h0 : n < 0) (h1 : -10 < n) : Calls Tryd.prog 21 #[.int .i64 n] w fun e w' => e = .returned (.string (numText n)) ∧ Below w.heap.size w w' := by
  have K := fun W => conv1_new W (48 - n) (by omega) (by omega)
  have e : numText n = ⟨#[45, UInt8.ofNat (48 - n).toNat]⟩ := by unfold numText; rw [itoa_small_neg h0 h1]
  rw [e]
  generalize UInt8.ofNat (48 - n).toNat = c at K
  go_enter Tryd.func21, Tryd.ntmps21
  go_wp2
  go_ret
  exact ⟨rfl, (Below.refl _ _).alloc (Nat.le_refl _) _⟩
theorem bel1 {w w1 : World} (h : Below w.drew.heap.size w.drew w1) (o : Obj) : Below w.heap.size w (w1.alloc o) :=
  (Ext.trans' ((Below.refl _ _).drew) h).alloc (by have := h.size; exact this) o
theorem bel2 {w w1 : World} {o : Obj} (h : Below (w.drew.alloc o).heap.size (w.drew.alloc o) w1) : Below w.heap.size w w1 :=
  Ext.trans' ((Below.refl _ _).drew) (Ext.trans' ((Below.refl _ _).alloc (Nat.le_refl _) o) h)
theorem cat1 (s : ByteArray) (c : UInt8) : bl (s ++ ⟨#[c]⟩) = bl s ++ [c] := by simp [bl]
set_option maxHeartbeats 1000000 in
theorem num_big_pos {n : Int} {w : World} (hn : R n) (h1 : 10 ≤ n) (ih : ∀ w, Calls Tryd.prog 21 #[.int .i64 (n.tdiv 10)] w fun e w' => e = .returned (.string (numText (n.tdiv 10))) ∧ Below w.heap.size w w') : Calls Tryd.prog 21 #[.int .i64 n] w fun e w' => e = .returned (.string (numText n)) ∧ Below w.heap.size w w' := by
  have e := itoa_big_pos h1
  have d := wrap_in (tdiv_R (b := 10) hn (by decide) (by decide))
  have hs := numText_size (tdiv_R (b := 10) hn (by decide) (by decide))
  have hfin : numText (n.tdiv 10) ++ ⟨#[UInt8.ofNat (48 + n.tmod 10).toNat]⟩ = numText n := bl_inj (by rw [cat1]; exact e.symm)
  rw [← hfin]
  clear e hfin
  have m0 := Int.tmod_nonneg (a := n) 10 (by omega)
  have m1 := Int.tmod_lt_of_pos n (b := 10) (by decide)
  obtain ⟨m, hm⟩ : ∃ m, n.tmod 10 = m := ⟨_, rfl⟩
  obtain ⟨q, hq⟩ : ∃ q, n.tdiv 10 = q := ⟨_, rfl⟩
  rw [hm] at m0 m1 ⊢
  rw [hq] at d ih hs ⊢
  generalize numText q = s at ih hs ⊢
  have k1 : IntKind.i64.wrap (48 + m) = 48 + m := wrap_in (by unfold R; omega)
  have k2 : IntKind.u8.wrap (48 + m) = 48 + m := by rw [IntKind.wrap_u8]; omega
  have K := fun W => conv1_new W (48 + m) (by omega) (by omega)
  have K2 := fun W b => conv1 W b (48 + m) (by omega) (by omega)
  have C : ∀ W : World, (W.alloc (.cells #[.int .u8 (48 + m)] 5)).cell? ⟨W.heap.size, 0, none⟩ = some (.int .u8 (48 + m)) := fun W => by rw [World.cell?_alloc_at _ _ _ _ rfl]; rfl
  generalize UInt8.ofNat (48 + m).toNat = c at *
  go_enter Tryd.func21, Tryd.ntmps21
  go_wp2_with fail
  go_region_with (first | (go_at_call 21; go_fit (ih _); rintro e w1 ⟨rfl, b1⟩; try have hc := cell_later b1 (C _)))
  all_goals
    go_wp2
    go_ret
    refine ⟨rfl, ?_⟩
    first | exact bel1 b1 _ | exact bel2 b1
set_option maxHeartbeats 1000000 in
theorem num_big_neg {n : Int} {w : World} (hn : R n) (h1 : n ≤ -10) (ih : ∀ w, Calls Tryd.prog 21 #[.int .i64 (n.tdiv 10)] w fun e w' => e = .returned (.string (numText (n.tdiv 10))) ∧ Below w.heap.size w w') : Calls Tryd.prog 21 #[.int .i64 n] w fun e w' => e = .returned (.string (numText n)) ∧ Below w.heap.size w w' := by
  have e := itoa_big_neg h1
  have d := wrap_in (tdiv_R (b := 10) hn (by decide) (by decide))
  have hs := numText_size (tdiv_R (b := 10) hn (by decide) (by decide))
  have hfin : numText (n.tdiv 10) ++ ⟨#[UInt8.ofNat (48 - n.tmod 10).toNat]⟩ = numText n := bl_inj (by rw [cat1]; exact e.symm)
  rw [← hfin]
  clear e hfin
  have m0 : n.tmod 10 ≤ 0 := by
    have h2 := Int.tmod_nonneg (a := -n) 10 (by omega)
    rw [Int.neg_tmod] at h2; omega
  have m1 := Int.lt_tmod_of_pos n (b := 10) (by decide)
  obtain ⟨m, hm⟩ : ∃ m, n.tmod 10 = m := ⟨_, rfl⟩
  obtain ⟨q, hq⟩ : ∃ q, n.tdiv 10 = q := ⟨_, rfl⟩
  rw [hm] at m0 m1 ⊢
  rw [hq] at d ih hs ⊢
  generalize numText q = s at ih hs ⊢
  have k1 : IntKind.i64.wrap (48 - m) = 48 - m := wrap_in (by unfold R; omega)
  have k2 : IntKind.u8.wrap (48 - m) = 48 - m := by rw [IntKind.wrap_u8]; omega
  have K := fun W => conv1_new W (48 - m) (by omega) (by omega)
  have K2 := fun W b => conv1 W b (48 - m) (by omega) (by omega)
  have C : ∀ W : World, (W.alloc (.cells #[.int .u8 (48 - m)] 5)).cell? ⟨W.heap.size, 0, none⟩ = some (.int .u8 (48 - m)) := fun W => by rw [World.cell?_alloc_at _ _ _ _ rfl]; rfl
  generalize UInt8.ofNat (48 - m).toNat = c at *
  go_enter Tryd.func21, Tryd.ntmps21
  go_wp2_with fail
  go_region_with (first | (go_at_call 21; go_fit (ih _); rintro e w1 ⟨rfl, b1⟩; try have hc := cell_later b1 (C _)))
  all_goals
    go_wp2
    go_ret
    refine ⟨rfl, ?_⟩
    first | exact bel1 b1 _ | exact bel2 b1
theorem num_at : ∀ (k : Nat) (n : Int) (w : World), R n → n.natAbs < k → Calls Tryd.prog 21 #[.int .i64 n] w fun e w' => e = .returned (.string (numText n)) ∧ Below w.heap.size w w'
  | 0, n, w, _, h => by omega
  | k + 1, n, w, hn, h => by
    have hd : (n.tdiv 10).natAbs = n.natAbs / 10 := by rw [Int.natAbs_tdiv]; rfl
    by_cases h1 : 10 ≤ n
    · exact num_big_pos hn h1 (fun w => num_at k _ w (tdiv_R hn (by decide) (by decide)) (by omega))
    · by_cases h2 : n ≤ -10
      · exact num_big_neg hn h2 (fun w => num_at k _ w (tdiv_R hn (by decide) (by decide)) (by omega))
      · by_cases h3 : 0 ≤ n
        · exact num_small_pos h3 (by omega)
        · exact num_small_neg (by omega) (by omega)
end Go.Proofs.YtcpfhjdjooakcaaDoor
