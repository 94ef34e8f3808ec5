/- math/bits.OnesCount64 below 64, label.Levels. -/
import Derived.Test.YtolfbhanglkpkaaLabL
import Derived.Test.YtolfbhanglkpkaaJoins
namespace Go.Proofs.Ytolfbhanglkpkaa
open Go.RowKit
def popc (x : Nat) : Nat := ((List.range 6).filter x.testBit).length
theorem ones_any (x : Nat) (w : World) (hx : x < 64) :
    Calls Try.prog 31 #[.int .u64 x] w fun e w' => e = .returned (.int .i64 (popc x)) ∧ w = w' := by
  go_enter Try.func31, Try.ntmps31
  go_wp2
  go_ret
  refine ⟨ret_int (k := .i64) ?_, rfl⟩
  revert hx; revert x
  decide +kernel

/-- All within l, rising; those below a. -/
def subs (l : Nat) : List Nat := (List.range 64).filter fun i => leq i l
def subsBelow (l a : Nat) : List Nat := (List.range a).filter fun i => leq i l
/-- The next label within l (by the wrap-round of uint64). -/
def nextSub (a l : Nat) : Nat := (a + (18446744073709551616 - l)) % 18446744073709551616 &&& l
def nextOk (l a : Nat) : Bool := !leq a l || a == l || (decide (nextSub a l < 64) && leq (nextSub a l) l && decide (a < nextSub a l) && subsBelow l (nextSub a l) == subsBelow l a ++ [a])
theorem nextOk_all : ((List.range 64).all fun l => (List.range 64).all fun a => nextOk l a) = true := by decide +kernel
theorem subs_next (l : Nat) (hl : l < 64) (a : Nat) (ha : a < 64) (h : leq a l = true) (hne : a ≠ l) : nextSub a l < 64 ∧ leq (nextSub a l) l = true ∧ a < nextSub a l ∧ subsBelow l (nextSub a l) = subsBelow l a ++ [a] := by
  have := List.all_eq_true.1 (List.all_eq_true.1 nextOk_all l (by simpa using hl)) a (by simpa using ha)
  unfold nextOk at this
  simp [h, hne] at this
  exact ⟨this.1.1.1, this.1.1.2, this.1.2, this.2⟩
theorem subs_last : ∀ l, l < 64 → subs l = subsBelow l l ++ [l] := by decide +kernel
theorem subsBelow_len (l a : Nat) : (subsBelow l a).length ≤ a := by have := List.length_filter_le (fun i => leq i l) (List.range a); simpa [subsBelow] using this
theorem next_eq {a l : Nat} (hl : l < 64) : bits .and .u64 (IntKind.u64.wrap ((a : Int) - (l : Int))) (l : Int) = ((nextSub a l : Nat) : Int) := by
  have e : IntKind.u64.wrap ((a : Int) - (l : Int)) = (((a + (18446744073709551616 - l)) % 18446744073709551616 : Nat) : Int) := by rw [IntKind.wrap_u64]; omega
  rw [e, u64_and_nat _ _ (Nat.mod_lt _ (by decide)) (by omega)]; rfl
theorem subs_count : ∀ l, l < 64 → (subs l).length = 2 ^ popc l := by decide +kernel
theorem popc_le : ∀ l, l < 64 → popc l ≤ 6 := by decide +kernel

def NewNums (W : World) (l : List Nat) (e : Ending) (w' : World) : Prop := ∃ v, e = .returned v ∧ U64s w' v l ∧ Below W.heap.size W w'
theorem u64s_owned {w : World} {base e : Nat} {v : Value} {l : List Nat} (h : w.ownsRow base e 1 v l.length (u64v l)) (hl : ∀ x ∈ l, x < 18446744073709551616) (hn : l.length ≤ 100000) : U64s w v l := by
  have h2 := h.2
  rcases h2 with ⟨rfl, h0⟩ | ⟨g, cap, cur, rfl, _, _, h1, hm, _, _⟩
  · exact ⟨none, 0, by rw [h0], by omega, by unfold maxLen; omega, by omega, hl, Or.inl (List.length_eq_zero_iff.1 h0)⟩
  · refine ⟨_, cap, rfl, h1, hm, by omega, hl, ?_⟩
    rcases owned_nums rfl h with h0 | ⟨g', e1, _, e3, _, _, e6⟩
    · exact Or.inl h0
    · exact Or.inr ⟨g', 0, e1, e3, e6⟩
theorem subs_lt (l : Nat) : ∀ x ∈ subs l, x < 64 := fun x hx => by
  unfold subs at hx; rw [List.mem_filter] at hx; simpa using hx.1

set_option maxHeartbeats 800000 in
theorem levels_any {v : Value} {ss : List ByteArray} {w : World} (l : Nat) (hl : l < 64) (h : Strs w v ss) :
    Calls Try.prog 15 #[v, .int .u64 l] w (NewNums w (if fits (ss.map bl) l then subs l else [])) := by
  obtain ⟨i0, hi, hz0, hz1, hz2⟩ := info_parts infoLab
  have hf := @fits_any v ss w l (by omega) h
  have HF := Lib.hid hf; clear hf
  have hp6 := popc_le l hl
  have HCNT := Lib.hid (subs_count l hl)
  have HW := Lib.hid (subs_last l hl)
  have HNX := Lib.hid (subs_next l hl)
  have hones := fun w => ones_any l w hl
  have HONES := Lib.hid hones; clear hones
  generalize popc l = c at *
  have hlen : (2 : Nat) ^ c ≤ 64 := Nat.pow_le_pow_right (by decide) hp6
  cases h0 : fits (ss.map bl) l
  · go_enter Try.func15, Try.ntmps15
    (go_wp2_with fail; go_fit (HONES.out _); rintro e w' ⟨rfl, rfl⟩)
    (go_wp2_with fail; go_fit (HF.out); rintro e w' ⟨rfl, rfl⟩)
    go_wp2
    go_ret
    exact ⟨_, rfl, ⟨none, 0, rfl, by simp, by simp, by simp, by simp, Or.inl rfl⟩, Below.refl _ _⟩
  · simp only [if_true]
    go_enter Try.func15, Try.ntmps15
    (go_wp2_with fail; go_fit (HONES.out _); rintro e w' ⟨rfl, rfl⟩)
    (go_wp2_with fail; go_fit (HF.out); rintro e w' ⟨rfl, rfl⟩)
    have hc2 : wrap64 ((2 : Int) ^ c) = ((2 ^ c : Nat) : Int) := by
      have e2 : ((2 : Int) ^ c) = ((2 ^ c : Nat) : Int) := by simp
      rw [e2]; generalize 2 ^ c = q at hlen; exact IntWalk.wrap64_in _ ⟨by omega, by omega⟩
    have HC2 := Lib.hid hc2; clear hc2
    generalize hq : (2 : Nat) ^ c = q at *
    clear hq
    go_wp2_with (at_make; go_must (refine wpList_make_own _ rfl _ _ 35 rfl w.heap.size 27 i0 (.int .u64 0) 1 Try.underlying35 hi hz0 hz1 _ _ _ q rfl rfl HC2.out (by rw [hz2]; omega) (by unfold maxLen; omega) (Nat.le_refl _) ?_); intro w1 hown1 hg1)
    have hb1 := (Below.refl w.heap.size w).grown hg1 (Nat.le_refl _) (fun q hq => by cases hq)
    go_loopw [6, 7] (fun t a wr => ∃ (m : Nat) (ao : Option Addr) (cv : Nat), a = .int .u64 m ∧ m < 64 ∧ leq m l = true ∧ t = .slice ao (subsBelow l m).length cv ∧ wr.ownsRow w.heap.size 27 1 t (subsBelow l m).length (u64v (subsBelow l m)) ∧ Below w.heap.size w wr)
      (fun _ a _ => 64 - (intOf a).toNat)
    case atStart => exact ⟨0, _, _, rfl, by decide, by simp [leq], rfl, hown1, hb1⟩
    case round =>
      obtain ⟨m, ao, cv, rfl, hm, hml, rfl, hown, hnx⟩ := hrel
      have hsize := hnx.size
      have hln := subsBelow_len l m
      have hne := @next_eq m l hl
      have HML := Lib.hid hml; clear hml
      by_cases hml : m = l
      · have hfin := Lib.hid (show subsBelow l m ++ [m] = subs l by rw [hml]; exact (HW.out).symm)
        have hbq : ((m : Int) == (l : Int)) = true := by rw [hml]; simp
        clear hml hne
        generalize subsBelow l m = ts at *
        go_wp2_with (at_builtin; refine wpList_append_own _ rfl _ _ 35 rfl w.heap.size 27 i0 (.int .u64 0) 1 8 Try.underlying35 hi hz0 hz1 hz2 rfl (by decide) _ _ _ rfl (hown.alloc _) ⟨wr.heap.size, 0, none⟩ 1 1 [.int .u64 m] rfl rfl (cell_one_new _ _ _) (fun x hx => by simp at hx; subst hx; rfl) (by unfold maxLen; omega) (by omega) (by simp; omega) ?_; intro v' w3 hown' hgrow3 hnil3)
        go_ret
        refine ⟨_, rfl, ?_, (hnx.alloc hsize _).grown hgrow3 (by simp; omega) (fun q hq => (hown.lt q hq).1)⟩
        rw [← hfin.out]
        refine u64s_owned (base := w.heap.size) (e := 27) (by simpa [u64v] using hown') (fun x hx => ?_) (by simp; omega)
        have := subs_lt l x (by rw [← hfin.out]; exact hx)
        omega
      · obtain ⟨n1, n2, n3, n4⟩ := HNX.out m hm HML.out hml
        have hbq : ((m : Int) == (l : Int)) = false := by rw [beq_eq_false_iff_ne]; omega
        have N2 := Lib.hid n2; have N4 := Lib.hid n4; clear n2 n4
        generalize nextSub m l = nm at *
        go_wp2_with (at_builtin; refine wpList_append_own _ rfl _ _ 35 rfl w.heap.size 27 i0 (.int .u64 0) 1 8 Try.underlying35 hi hz0 hz1 hz2 rfl (by decide) _ _ _ rfl (hown.alloc _) ⟨wr.heap.size, 0, none⟩ 1 1 [.int .u64 m] rfl rfl (cell_one_new _ _ _) (fun x hx => by simp at hx; subst hx; rfl) (by unfold maxLen; omega) (by omega) (by simp; omega) ?_; intro v' w3 hown' hgrow3 hnil3)
        go_roundw
        case rel =>
          obtain ⟨g3, cap3, hv3⟩ : ∃ g3 cap3, v' = .slice (some ⟨g3, 0, none⟩) ((subsBelow l m).length + 1) cap3 := by
            rcases hown'.2 with ⟨_, h⟩ | ⟨g3, cap3, _, h, _⟩
            · omega
            · exact ⟨g3, cap3, h⟩
          exact ⟨nm, some ⟨g3, 0, none⟩, cap3, rfl, n1, N2.out, by rw [N4.out, hv3]; simp, by rw [N4.out]; simpa [u64v] using hown', (hnx.alloc hsize _).grown hgrow3 (by simp; omega) (fun q hq => (hown.lt q hq).1)⟩
        case measure => simp [intOf]; omega
end Go.Proofs.Ytolfbhanglkpkaa
