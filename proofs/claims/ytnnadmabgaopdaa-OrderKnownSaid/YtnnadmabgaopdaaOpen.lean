/- How the arguments of a law are opened: from the form's reading to our own predicates. Nothing here speaks of one program. -/
import Derived.Test.YtnnadmabgaopdaaStr
import Derived.OpenShut
import Derived.SizedLaws
import Derived.SliceStrings
import Derived.Carry
import Derived.Stop.Joined
namespace Go.Proofs.Ytnnadmabgaopdaa
open Go.RowKit Go.ChangeShapes Go.WideShapes Go.ChangeAt

/-- The law's end: this bool, and nothing that was there has turned. -/
def IsBool (W : World) (b : Bool) (e : Ending) (w' : World) : Prop := e = .returned (.bool b) ∧ Below W.heap.size W w'

section
variable {H : Type} {enc : TypeId × Value → H} {P : Program} {W : World}

theorem weights_ok {ts : List TypeId} {ds : List (DataW H)} (h : (DataW.weightsEach P ts ds).all (· ≤ reachBytes) = true) {j : Nat} {t : TypeId} {d : DataW H} (ht : ts[j]? = some t) (hd : ds[j]? = some d) :
    ∀ n ∈ d.weights P t, n ≤ 140737488351232 := fun n hn => by
  have := List.all_eq_true.1 h n (DataW.weights_mem_each ht hd n hn)
  have e : reachBytes = 140737488351232 := by decide
  simpa [e] using this
theorem weights_all_mem {e : TypeId} : ∀ {l : List (DataW H)} {d : DataW H}, d ∈ l → ∀ n ∈ d.weights P e, n ∈ DataW.weightsAll P e l
  | a :: r, d, h, n, hn => by
    simp only [DataW.weightsAll, List.mem_append]
    rcases List.mem_cons.1 h with rfl | h
    · exact Or.inl hn
    · exact Or.inr (weights_all_mem h n hn)

theorem lt_of_trod {t : TypeId} {v : Value} {d : DataW H} {ps : List MemPlace} (h : DataW.Trod enc P W 0 (fun _ => true) true t v d ps) : ∀ x ∈ ps, x.block < W.heap.size := by
  obtain ⟨m, hm⟩ := h; exact DataW.trod_lt m _ _ _ hm

theorem add_plain (b o i : Nat) : (⟨b, o, none⟩ : Addr).add i = ⟨b, o + i, none⟩ := by
  unfold Addr.add; split
  · rename_i h; rw [h]; rfl
  · rfl
theorem spot_of_cell {w : World} {x : Addr} {v : Value} (h : w.cell? (x.add 0) = some v) : x.spot = none := by
  rcases x with ⟨xb, xo, xs⟩
  cases xs with
  | none => rfl
  | some q =>
    exfalso
    rw [show (⟨xb, xo, some q⟩ : Addr).add 0 = ⟨xb, xo, some q⟩ from rfl] at h
    unfold World.cell? at h
    split at h <;> simp at h
theorem strs_of_trod {t e : TypeId} {v : Value} {d : DataW H} {ps : List MemPlace} (ht : P.underlying t = some (.slice e)) (he : P.underlying e = some .string) (hc : P.cellsOf e = 1) (hb : P.bytesOf e = 16)
    (hv : ∃ a n c, v = .slice a n c) (h : DataW.Trod enc P W 0 (fun _ => true) true t v d ps) (hw : ∀ n ∈ d.weights P t, n ≤ 140737488351232) : ∃ ss, Strs W v ss := by
  have hlt := lt_of_trod h
  obtain ⟨a, n, c, rfl⟩ := hv
  obtain ⟨fuel, hf⟩ := h
  rcases open_strings ht he hc hf with ⟨hcs, _⟩ | ⟨x, l, cc, ss, hcs, _, hl, hm, hz, hd, hcell, hsz⟩
  · simp [Value.cells] at hcs
    obtain ⟨rfl, rfl, rfl⟩ := hcs
    exact ⟨[], none, 0, rfl, Nat.le_refl _, Nat.zero_le _, by simp, by simp, Or.inl rfl⟩
  · simp [Value.cells] at hcs
    obtain ⟨rfl, rfl, rfl⟩ := hcs
    simp only [Prod.mk.injEq] at hd
    obtain ⟨rfl, rfl⟩ := hd
    simp at hz
    have hz' : ss.length = c := hz
    have htl : (ss.take n).length = n := by simp; omega
    have hbig := hw (((strs (H := H) (ss.take n)).length + (strs (H := H) (ss.drop n)).length) * P.bytesOf e) (by simp [DataW.weights, ht])
    rw [hb] at hbig
    simp [strs] at hbig
    refine ⟨ss.take n, some x, c, by rw [htl], by omega, hm, by rw [htl]; omega, fun s hs => ?_, ?_⟩
    · have h1 : (DataW.lit (.string s.data.toList) : DataW H) ∈ strs (H := H) (ss.take n) := List.mem_map_of_mem (f := fun s : ByteArray => (DataW.lit (.string s.data.toList) : DataW H)) hs
      have h2 := weights_all_mem (P := P) (e := e) h1 s.data.toList.length (by simp [DataW.weights])
      have h3 := hw s.data.toList.length (by simp only [DataW.weights, ht, List.mem_cons, List.mem_append]; exact Or.inr (Or.inl h2))
      exact h3
    · by_cases h0 : n = 0
      · left; rw [h0]; rfl
      right
      have hx0 := hcell 0 (by omega)
      have hs0 := spot_of_cell hx0
      rcases x with ⟨xb, xo, xs⟩
      cases (show xs = none from hs0)
      refine ⟨xb, xo, rfl, ?_, fun i y hy => ?_⟩
      · rw [add_plain] at hx0; exact World.block_lt_of_cell? _ _ hx0
      · have hi : i < (ss.take n).length := (List.getElem?_eq_some_iff.1 hy).1
        have hx := hcell i (by omega)
        have e1 : (ss.take n)[i]? = ss[i]? := by rw [List.getElem?_take]; simp; omega
        rw [e1] at hy
        rw [List.getD_eq_getElem?_getD, hy, add_plain] at hx
        exact hx

/-- The value reads as this list of numbers (uint64). -/
def U64s (w : World) (v : Value) (l : List Nat) : Prop :=
  ∃ (a : Option Addr) (cap : Nat), v = .slice a l.length cap ∧ l.length ≤ cap ∧ cap ≤ maxLen ∧ l.length * 8 ≤ 140737488351232 ∧ (∀ x ∈ l, x < 18446744073709551616) ∧
    (l = [] ∨ ∃ b off, a = some ⟨b, off, none⟩ ∧ b < w.heap.size ∧ ∀ (i : Nat) (x : Nat), l[i]? = some x → w.cell? ⟨b, off + i, none⟩ = some (.int .u64 x))
theorem u64s_of_trod {t e : TypeId} {v : Value} {d : DataW H} {ps : List MemPlace} (ht : P.underlying t = some (.slice e)) (he : P.underlying e = some (.int .u64)) (hc : P.cellsOf e = 1) (hb : P.bytesOf e = 8)
    (hv : ∃ a n c, v = .slice a n c) (h : DataW.Trod enc P W 0 (fun _ => true) true t v d ps) (hw : ∀ n ∈ d.weights P t, n ≤ 140737488351232) : ∃ l, U64s W v l := by
  obtain ⟨a, n, c, rfl⟩ := hv
  obtain ⟨fuel, hf⟩ := h
  rcases open_ints ht he hc hf with ⟨hcs, _⟩ | ⟨x, l, cc, zs, hcs, _, hl, hm, hz, hd, hcell, hwz⟩
  · simp [Value.cells] at hcs
    obtain ⟨rfl, rfl, rfl⟩ := hcs
    exact ⟨[], none, 0, rfl, Nat.le_refl _, Nat.zero_le _, by simp, by simp, Or.inl rfl⟩
  · simp [Value.cells] at hcs
    obtain ⟨rfl, rfl, rfl⟩ := hcs
    simp only [Prod.mk.injEq] at hd
    obtain ⟨rfl, _⟩ := hd
    have hz' : zs.length = c := by simpa using hz
    have hbig := hw _ (by simp only [DataW.weights, ht]; exact List.mem_cons_self)
    rw [hb] at hbig
    simp [lits] at hbig
    have htl : ((zs.take n).map Int.toNat).length = n := by simp; omega
    have hr : ∀ i (y : Nat), ((zs.take n).map Int.toNat)[i]? = some y → i < n ∧ zs.getD i 0 = (y : Int) ∧ y < 18446744073709551616 := fun i y hy => by
      have hi : i < ((zs.take n).map Int.toNat).length := (List.getElem?_eq_some_iff.1 hy).1
      have hi' : i < zs.length := by omega
      have h1 := hwz zs[i] (List.getElem_mem _)
      have h2 := bounds_u64 h1
      have hyz : y = zs[i].toNat := by
        have := (List.getElem?_eq_some_iff.1 hy).2
        simp at this; exact this.symm
      refine ⟨by omega, ?_, by omega⟩
      rw [List.getD_eq_getElem?_getD, List.getElem?_eq_getElem hi']
      simp; omega
    refine ⟨(zs.take n).map Int.toNat, some x, c, by rw [htl], by omega, hm, by rw [htl]; omega, fun y hy => ?_, ?_⟩
    · obtain ⟨i, hi⟩ := List.getElem?_of_mem hy
      exact (hr i y hi).2.2
    · by_cases h0 : n = 0
      · left; rw [h0]; rfl
      right
      have hx0 := hcell 0 (by omega)
      have hs0 := spot_of_cell hx0
      rcases x with ⟨xb, xo, xs⟩
      cases (show xs = none from hs0)
      refine ⟨xb, xo, rfl, ?_, fun i y hy => ?_⟩
      · rw [add_plain] at hx0; exact World.block_lt_of_cell? _ _ hx0
      · obtain ⟨h1, h2, _⟩ := hr i y hy
        have hx := hcell i (by omega)
        rw [add_plain, h2] at hx
        exact hx
end
end Go.Proofs.Ytnnadmabgaopdaa
