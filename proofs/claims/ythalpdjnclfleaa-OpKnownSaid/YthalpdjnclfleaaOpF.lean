/- Operators: alike: a row of them with names that come in. -/
import Derived.Test.YthalpdjnclfleaaOpE
import Derived.Laws.MakeOwn
namespace Go.Proofs.Ythalpdjnclfleaa
open Go.Shelf Go.RowKit

theorem strs_laid (w : World) (t : TypeId) (ss : List ByteArray) (n : Nat) (hn : ss.length = n) (h : n ≤ 100000) (hs : ∀ s ∈ ss, s.size ≤ 100000) : Strs (w.alloc (.cells (ss.map Value.string).toArray t)) (.slice (some ⟨w.heap.size, 0, none⟩) n n) ss := by
  subst hn
  refine ⟨_, _, rfl, Nat.le_refl _, by unfold maxLen; omega, by omega, fun s hm => by have := hs s hm; omega, Or.inr ⟨_, _, rfl, by simp, fun i x hx => ?_⟩⟩
  rw [World.cell?_alloc_at _ _ _ _ rfl]
  simp [hx]
theorem row_cell {w : World} {b t : Nat} {cs : Array Value} {fz : Nat × Nat} (h : w.heap[b]? = some (.cells cs t fz)) (i : Nat) : w.cell? ⟨b, i, none⟩ = cs[i]? := by simp [World.cell?, h]
theorem row_froz {w : World} {b t : Nat} {cs : Array Value} (h : w.heap[b]? = some (.cells cs t (0, 0))) (i : Nat) : w.frozen? ⟨b, i, none⟩ = false := by simp [World.frozen?, h]
theorem row_set {w : World} {b t : Nat} {cs : Array Value} (h : w.heap[b]? = some (.cells cs t (0, 0))) (j : Nat) (u : Value) : (w.setCell ⟨b, j, none⟩ u).heap[b]? = some (.cells (cs.setIfInBounds j u) t (0, 0)) := by
  have hb := (Array.getElem?_eq_some_iff.1 h).1
  simp [World.setCell, Array.getElem?_modify, h]
/-- The first of the row are these. -/
def RowAt (w : World) (g n : Nat) (L : List O) : Prop := ∃ cur, w.heap[g]? = some (.cells cur 28 (0, 0)) ∧ cur.size = n * 3 ∧ cur.toList.take (L.length * 3) = L.flatMap oCells
theorem RowAt.next {w : World} {g n : Nat} {L : List O} (h : RowAt w g n L) (hl : L.length < n) (x : O) :
    RowAt (((w.setCell ⟨g, L.length * 3, none⟩ (.string x.n)).setCell ⟨g, L.length * 3 + 1, none⟩ (.string x.k)).setCell ⟨g, L.length * 3 + 2, none⟩ (.int .i64 x.l)) g n (L ++ [x]) := by
  obtain ⟨cur, h1, h2, h3⟩ := h
  refine ⟨_, row_set (row_set (row_set h1 _ _) _ _) _ _, by simp [h2], ?_⟩
  have e : (L ++ [x]).length * 3 = L.length * 3 + 3 := by simp; omega
  rw [e, List.flatMap_append, ← h3]
  apply List.ext_getElem?
  intro i
  have hcs : cur.size = n * 3 := h2
  by_cases hi : i < L.length * 3
  · rw [List.getElem?_take, if_pos (by omega), List.getElem?_append_left (by simp; omega), List.getElem?_take, if_pos hi]
    simp only [Array.getElem?_toList]
    rw [Array.getElem?_setIfInBounds_ne (by omega), Array.getElem?_setIfInBounds_ne (by omega), Array.getElem?_setIfInBounds_ne (by omega)]
  · rw [List.getElem?_take]
    split
    · rename_i hlt
      rw [List.getElem?_append_right (by simp; omega)]
      simp only [Array.getElem?_toList, List.flatMap_cons, List.flatMap_nil, List.append_nil, List.length_take, Array.length_toList]
      rw [Nat.min_eq_left (by omega)]
      have hc : i = L.length * 3 ∨ i = L.length * 3 + 1 ∨ i = L.length * 3 + 2 := by omega
      rcases hc with rfl | rfl | rfl
      · rw [Array.getElem?_setIfInBounds_ne (by omega), Array.getElem?_setIfInBounds_ne (by omega), Array.getElem?_setIfInBounds_self_of_lt (by omega)]
        simp [oCells]
      · rw [Array.getElem?_setIfInBounds_ne (by omega), Array.getElem?_setIfInBounds_self_of_lt (by simp; omega)]
        simp [oCells]
      · rw [Array.getElem?_setIfInBounds_self_of_lt (by simp; omega)]
        simp [oCells]
    · rename_i hge
      symm
      rw [List.getElem?_eq_none]
      simp [oCells_len]
      omega
theorem RowAt.ops {w : World} {g n : Nat} {L : List O} (h : RowAt w g n L) (hl : L.length = n) (hn : n ≤ 100000) : Ops w (.slice (some ⟨g, 0, none⟩) n n) L := by
  obtain ⟨cur, h1, h2, h3⟩ := h
  subst hl
  refine Ops.owned (B := 0) ⟨by rw [flat3_len], Or.inr ⟨g, _, cur, rfl, Nat.zero_le _, h1, Nat.le_refl _, by unfold maxLen; omega, h2, h3⟩⟩

set_option maxHeartbeats 1000000 in
theorem alike_walk {w : World} {v : Value} {names : List ByteArray} (kind : ByteArray) (l : Int) (h : Strs w v names) (hn : names.length ≤ 1000) :
    Calls Try.prog 22 #[.string kind, .int .i64 l, v] w fun e w' => ∃ r, e = .returned r ∧ Ops w' r (names.map fun s => (⟨s, kind, l⟩ : O)) ∧ Below w.heap.size w w' := by
  obtain ⟨a, cap, rfl, h1, h2, _, _, h3⟩ := h
  have hc : ∀ (k : Nat) (s : ByteArray), names[k]? = some s → ∃ b off, a = some ⟨b, off, none⟩ ∧ b < w.heap.size ∧ w.cell? ⟨b, off + k, none⟩ = some (.string s) := fun k s hk => by
    rcases h3 with rfl | ⟨b, off, rfl, hb, hc⟩
    · simp at hk
    · exact ⟨b, off, rfl, hb, hc k s hk⟩
  have HC := Lib.hid hc; clear hc h3
  unfold maxLen at h2
  obtain ⟨i0, hi0, hz0, hs0, hb0⟩ := info3_parts
  obtain ⟨n, hnn⟩ : ∃ n, names.length = n := ⟨_, rfl⟩
  rw [hnn] at hn h1 ⊢
  have HN := Lib.hid hnn
  clear hnn
  have hmk := fun (w : World) => run_make (P := Try.prog) w 23 28 i0 _ Try.underlying23 hi0 hz0 .i64 .i64 (n : Int) (n : Int) (by omega) (Int.le_refl _) (by rw [hb0]; omega) (by omega)
  rw [Int.toNat_natCast, hs0] at hmk
  obtain ⟨Z, hZ⟩ : ∃ Z, madeCells (Value.agg #[.string ⟨#[]⟩, .string ⟨#[]⟩, .int .i64 0]).cells (n * 3) = Z := ⟨_, rfl⟩
  have HZ : Hid (Z.size = n * 3) := Lib.hid (by rw [← hZ, size_madeCells])
  rw [hZ] at hmk
  clear hZ
  have HW : Hid (RowAt (w.alloc (.cells Z 28)) w.heap.size n []) := Lib.hid ⟨Z, heap_alloc_new w _, HZ.out, by simp⟩
  go_enter Try.func22, Try.ntmps22
  go_wp2_with fail
  go_loopw [15] (fun i wr => ∃ k : Nat, k ≤ n ∧ i = .int .i64 k ∧ Hid (RowAt wr w.heap.size n ((names.take k).map fun s => (⟨s, kind, l⟩ : O)) ∧ Below w.heap.size w wr)) (fun i _ => n - (intOf i).toNat)
  case atStart => exact ⟨0, by omega, rfl, Lib.hid ⟨by simpa using HW.out, bel1' _ _⟩⟩
  case round =>
    obtain ⟨k, hk, rfl, HR⟩ := hrel
    by_cases hlt : k < n
    · obtain ⟨s, hx⟩ : ∃ s, names[k]? = some s := ⟨_, List.getElem?_eq_getElem (by rw [HN.out]; exact hlt)⟩
      obtain ⟨b, off, rfl, hb, d0⟩ := HC.out k s hx
      have d1 : wr.cell? ⟨b, off + k, none⟩ = some (.string s) := cell_later HR.out.2 d0
      clear d0
      have hL : ((names.take k).map fun s => (⟨s, kind, l⟩ : O)).length = k := by
        have := HN.out
        simp
        omega
      have HNX := HR.out.1.next (by rw [hL]; exact hlt) ⟨s, kind, l⟩
      rw [hL] at HNX
      have HX := Lib.hid HNX
      have HT : Hid ((names.take (k + 1)).map (fun s => (⟨s, kind, l⟩ : O)) = (names.take k).map (fun s => (⟨s, kind, l⟩ : O)) ++ [⟨s, kind, l⟩]) := Lib.hid (by rw [List.take_add_one, hx]; simp)
      obtain ⟨cur, hcur, hsz, _⟩ := HR.out.1
      have c0 : wr.cell? ⟨w.heap.size, k * 3, none⟩ = some (cur[k * 3]'(by omega)) := by rw [row_cell hcur]; exact Array.getElem?_eq_getElem _
      have c1 : wr.cell? ⟨w.heap.size, k * 3 + 1, none⟩ = some (cur[k * 3 + 1]'(by omega)) := by rw [row_cell hcur]; exact Array.getElem?_eq_getElem _
      have c2 : wr.cell? ⟨w.heap.size, k * 3 + 2, none⟩ = some (cur[k * 3 + 2]'(by omega)) := by rw [row_cell hcur]; exact Array.getElem?_eq_getElem _
      have f0 : ∀ j, wr.frozen? ⟨w.heap.size, j, none⟩ = false := fun j => row_froz hcur j
      generalize cur[k * 3]'(by omega) = x0 at c0
      generalize cur[k * 3 + 1]'(by omega) = x1 at c1
      generalize cur[k * 3 + 2]'(by omega) = x2 at c2
      clear HNX hL hx hcur hsz
      go_wp2_with fail
      exact ⟨⟨k + 1, by omega, by go_num, Lib.hid ⟨by rw [HT.out]; exact HX.out, ((HR.out.2.setCell (Nat.le_refl _) _).setCell (Nat.le_refl _) _).setCell (Nat.le_refl _) _⟩⟩, by simp [intOf]; omega⟩
    · have hkk : ¬ (k : Int) < n := by omega
      go_wp2
      go_ret
      refine ⟨_, rfl, ?_, HR.out.2⟩
      have := HR.out.1
      rw [List.take_of_length_le (by rw [HN.out]; omega)] at this
      exact this.ops (by rw [List.length_map, HN.out]) (by omega)
end Go.Proofs.Ythalpdjnclfleaa
