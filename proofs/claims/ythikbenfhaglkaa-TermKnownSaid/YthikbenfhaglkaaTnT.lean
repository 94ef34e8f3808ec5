/- TermKnown's closed terms: by reckoning alone. -/
import Derived.Test.YthikbenfhaglkaaTnS
import Derived.Test.YthikbenfhaglkaaTnP
namespace Go.Proofs.Ythikbenfhaglkaa
open Go.RowKit
set_option linter.unusedVariables false

def zT : Tm := .mk 0 0 ⟨#[]⟩ []
def badT : List Tm := [.mk 3 0 ⟨#[]⟩ [], .mk (-1) 0 ⟨#[]⟩ [], .mk 0 (-1) ⟨#[]⟩ [], .mk 0 2147483648 ⟨#[]⟩ [], .mk 0 0 ⟨#[97]⟩ [], .mk 1 0 ⟨#[97]⟩ [], .mk 2 1 ⟨#[97]⟩ [], .mk 2 0 ⟨#[1]⟩ [], .mk 2 0 ⟨#[255]⟩ [], .mk 2 0 ⟨#[102]⟩ (List.replicate 9 zT), .mk 1 0 ⟨#[]⟩ [zT]]
theorem bad_all : ∀ x ∈ badT, goodT x = false := by
  have h : (badT.all fun x => !goodT x) = true := by decide +kernel
  intro x hx
  have := List.all_eq_true.1 h x hx
  simpa using this
def chainT : Nat → Tm
  | 0 => intT 0
  | n + 1 => .mk 2 0 ⟨#[102]⟩ [chainT n]
theorem chain_depth : ∀ n, depthN (chainT n) = n + 1
  | 0 => by decide
  | n + 1 => by rw [chainT, depthN, depthsN, depthsN, chain_depth n]; omega
theorem chain_63 : goodT (chainT 63) = true := by decide +kernel
theorem chain_64 : goodT (chainT 64) = false := by decide +kernel
def wideT : Nat → Tm
  | 0 => atomT ⟨#[97]⟩
  | n + 1 => .mk 2 0 ⟨#[103]⟩ (List.replicate 8 (wideT n))
theorem wide_succ (n : Nat) : wideT (n + 1) = .mk 2 0 ⟨#[103]⟩ (List.replicate 8 (wideT n)) := rfl
theorem chain_succ (n : Nat) : chainT (n + 1) = .mk 2 0 ⟨#[102]⟩ [chainT n] := rfl
theorem wide_size : ∀ n, sizeN (wideT (n + 1)) = 8 * sizeN (wideT n) + 1
  | n => by
    rw [wideT, sizeN]
    simp only [List.replicate, sizesN]
    omega
theorem wide_4 : sizeN (wideT 4) = 4681 := by
  rw [wide_size 3, wide_size 2, wide_size 1, wide_size 0, show sizeN (wideT 0) = 1 by decide]
theorem wide_bad : goodT (wideT 4) = false := by
  unfold goodT
  rw [wide_4]
  rfl
def lT : Tm := listT [intT 1, atomT ⟨#[98]⟩] (varT 0)
theorem l_good : goodT lT = true := by decide +kernel
theorem l_size : sizeN lT = 5 := by decide
theorem l_items : itemsT lT = ([intT 1, atomT ⟨#[98]⟩], varT 0) := by
  unfold lT
  rw [items_list, items_none (by rfl)]
  rfl
theorem nil_good : goodT (atomT ⟨#[91, 93]⟩) = true := by decide +kernel
theorem nil_items : itemsT (atomT ⟨#[91, 93]⟩) = ([], atomT ⟨#[91, 93]⟩) := items_none (by rfl)
theorem b_good : goodT (atomT ⟨#[98]⟩) = true := by decide +kernel
theorem v_good : goodT (varT 0) = true := by decide +kernel
theorem e_good : goodT (atomT ⟨#[]⟩) = true := by decide +kernel
theorem t_good : goodT (intT 3) = true := by decide +kernel
theorem a_good : goodT (atomT ⟨#[97]⟩) = true := by decide +kernel
theorem a1_good : goodT (.mk 2 0 ⟨#[97]⟩ [intT 1]) = true := by decide +kernel
theorem a_same : sameT (atomT ⟨#[97]⟩) (.mk 2 0 ⟨#[97]⟩ [intT 1]) = false := by decide +kernel
/-- A row that is laid anew, of these terms. -/
theorem laid_tms {w : World} {cs : Array Value} {ty : TypeId} (ps : List TmP) (hcs : cs.toList = ps.flatMap pCells) (hp : ∀ p ∈ ps, TmV (w.alloc (.cells cs ty)) p.1 (pVal p)) (hl : ps.length * 56 ≤ BIG) {n : Nat} (hn : ps.length = n) {ts : List Tm} (ht : ps.map (·.1) = ts) :
    Tms (w.alloc (.cells cs ty)) (.slice (some ⟨w.heap.size, 0, none⟩) n n) ts := by
  subst hn ht
  refine ⟨some ⟨w.heap.size, 0, none⟩, ps.length, by rw [List.length_map], by rw [List.length_map]; exact Nat.le_refl _, by unfold BIG at hl; unfold maxLen; omega, by rw [List.length_map]; exact hl, Or.inr ⟨_, _, rfl, by simp, TmRow.mk fun i x hx => ?_⟩⟩
  rw [List.getElem?_map] at hx
  obtain ⟨p, hpi, rfl⟩ := Option.map_eq_some_iff.1 hx
  have hv := hp p (List.mem_of_getElem? hpi)
  have key : ∀ j u, j < 4 → (pCells p)[j]? = some u → (w.alloc (.cells cs ty)).cell? ⟨w.heap.size, 0 + i * 4 + j, none⟩ = some u := fun j u hj hu => by
    have := cell_new w cs ty (i * 4 + j) u (by rw [hcs, flat_get pCells_len ps i p hpi j hj]; exact hu)
    rw [add_plain] at this
    rw [Nat.add_assoc]; exact this
  exact ⟨_, _, _, _, key 0 _ (by omega) rfl, key 1 _ (by omega) rfl, key 2 _ (by omega) rfl, key 3 _ (by omega) rfl, hv⟩
abbrev zp : TmP := (zT, .slice none 0 0)
def Z9 : Array Value := madeCells #[.int .i64 0, .int .i64 0, .string ⟨#[]⟩, .slice none 0 0] 36
theorem Z9_cells : Z9.toList = (List.replicate 9 zp).flatMap pCells := by kernel_rfl
theorem made_z (w : World) : (Instr.makeSlice 23 (.int .i64 9) (.int .i64 9)).run Try.prog w = .ok (.slice (some ⟨w.heap.size, 0, none⟩) 9 9) (w.alloc (.cells Z9 25)) := by
  obtain ⟨i0, hi0, hz0, hs0, hb0⟩ := info_parts infoTerm
  have h := run_makeSlice (P := Try.prog) w 23 25 i0 _ Try.underlying23 hi0 hz0 .i64 .i64 9 9 (by omega) (by omega) (by rw [hs0]; decide) (by rw [hb0]; decide) (by decide)
  rw [hs0] at h
  exact h
theorem z_tm (w : World) : TmV w zT (pVal zp) := leaf_tm w i64_0 i64_0 (by unfold BIG; decide)
abbrev bps (u9 u10 : Value) : List TmP := [(.mk 3 0 ⟨#[]⟩ [], .slice none 0 0), (.mk (-1) 0 ⟨#[]⟩ [], .slice none 0 0), (.mk 0 (-1) ⟨#[]⟩ [], .slice none 0 0), (.mk 0 2147483648 ⟨#[]⟩ [], .slice none 0 0), (.mk 0 0 ⟨#[97]⟩ [], .slice none 0 0), (.mk 1 0 ⟨#[97]⟩ [], .slice none 0 0), (.mk 2 1 ⟨#[97]⟩ [], .slice none 0 0), (.mk 2 0 ⟨#[1]⟩ [], .slice none 0 0), (.mk 2 0 ⟨#[255]⟩ [], .slice none 0 0), (.mk 2 0 ⟨#[102]⟩ (List.replicate 9 zT), u9), (.mk 1 0 ⟨#[]⟩ [zT], u10)]
theorem bps_tm {w : World} {u9 u10 : Value} (h9 : TmV w (.mk 2 0 ⟨#[102]⟩ (List.replicate 9 zT)) (.agg #[.int .i64 2, .int .i64 0, .string ⟨#[102]⟩, u9])) (h10 : Tms w u10 [zT]) : ∀ p ∈ bps u9 u10, TmV w p.1 (pVal p) := by
  intro p hp
  have b0 : (⟨#[]⟩ : ByteArray).size ≤ BIG := by unfold BIG; decide
  have b1 : (⟨#[97]⟩ : ByteArray).size ≤ BIG := by unfold BIG; decide
  have b2 : (⟨#[1]⟩ : ByteArray).size ≤ BIG := by unfold BIG; decide
  have b3 : (⟨#[255]⟩ : ByteArray).size ≤ BIG := by unfold BIG; decide
  have i : ∀ {n : Int}, -9223372036854775808 ≤ n → n ≤ 9223372036854775807 → I64 n := fun h1 h2 => ⟨h1, h2⟩
  simp only [bps, List.mem_cons, List.not_mem_nil, or_false] at hp
  rcases hp with rfl | rfl | rfl | rfl | rfl | rfl | rfl | rfl | rfl | rfl | rfl
  · exact leaf_tm w (i (by omega) (by omega)) i64_0 b0
  · exact leaf_tm w (i (by omega) (by omega)) i64_0 b0
  · exact leaf_tm w i64_0 (i (by omega) (by omega)) b0
  · exact leaf_tm w i64_0 (i (by omega) (by omega)) b0
  · exact leaf_tm w i64_0 i64_0 b1
  · exact leaf_tm w i64_1 i64_0 b1
  · exact leaf_tm w i64_2 i64_1 b1
  · exact leaf_tm w i64_2 i64_0 b2
  · exact leaf_tm w i64_2 i64_0 b3
  · exact h9
  · exact tmV_iff.2 ⟨_, rfl, b0, i64_1, i64_0, h10⟩
end Go.Proofs.Ythikbenfhaglkaa
