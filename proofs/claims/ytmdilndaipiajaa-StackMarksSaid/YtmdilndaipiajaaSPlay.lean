/- StackPlays: the acts as they came in; slices of numbers as they came in. -/
import Derived.Test.YtmdilndaipiajaaIaw
import Derived.Test.YtmdilndaipiajaaOpenE
namespace Go.Proofs.Ytmdilndaipiajaa
open Go.RowKit

/-- The value reads as these numbers. -/
def Ints (w : World) (v : Value) (zs : List Int) : Prop :=
  ∃ (a : Option Addr) (cap : Nat), v = .slice a zs.length cap ∧ zs.length ≤ cap ∧ cap ≤ maxLen ∧ (∀ z ∈ zs, -9223372036854775808 ≤ z ∧ z ≤ 9223372036854775807) ∧
    (zs = [] ∨ ∃ b off, a = some ⟨b, off, none⟩ ∧ b < w.heap.size ∧ ∀ (i : Nat) (x : Int), zs[i]? = some x → w.cell? ⟨b, off + i, none⟩ = some (.int .i64 x))
theorem Ints.src {w wq : World} {a : Option Addr} {n c : Nat} {zs : List Int} (h : Ints w (.slice a n c) zs) (hb : Below w.heap.size w wq) :
    n = 0 ∨ ∃ ad, a = some ad ∧ ∀ j u, (zs.map (Value.int .i64))[j]? = some u → wq.cell? (ad.add j) = some u := by
  obtain ⟨a', c', e, _, _, _, h4⟩ := h
  cases e
  rcases h4 with rfl | ⟨b, off, rfl, hg, hc⟩
  · left; rfl
  · refine Or.inr ⟨_, rfl, fun j u hu => ?_⟩
    rw [List.getElem?_map, Option.map_eq_some_iff] at hu
    obtain ⟨x, hx1, rfl⟩ := hu
    rw [add_plain]
    exact cell_later hb (hc j x hx1)

structure ActV where
  op : Int
  n : Int
  v : Value
  L : List Int
def actCells (x : ActV) : List Value := [.int .i64 x.op, .int .i64 x.n, x.v]
def actOk (W : World) (x : ActV) : Prop := (-9223372036854775808 ≤ x.op ∧ x.op ≤ 9223372036854775807) ∧ (-9223372036854775808 ≤ x.n ∧ x.n ≤ 9223372036854775807) ∧ Ints W x.v x.L
def Acts (w : World) (v : Value) (l : List ActV) : Prop := Elems 3 actCells w v l ∧ ∀ x ∈ l, actOk w x

section
open Go.ChangeShapes Go.WideShapes Go.ChangeAt Go.Deep
theorem wf_range {a : Int} (h : (Lit.int .i64 a).wf = true) : -9223372036854775808 ≤ a ∧ a ≤ 9223372036854775807 := by
  simpa [Lit.wf, IntKind.min, IntKind.max, IntKind.signed, IntKind.bits] using h
theorem ints_of_cells {H : Type} {enc : TypeId × Value → H} {W : World} {fuel : Nat} {cs : List Value} {x : DataW H × List MemPlace} (h : DataW.trod enc Try.prog W 0 (fun _ => true) true fuel 37 cs = some x) :
    ∃ v zs, cs = [v] ∧ Ints W v zs := by
  rcases open_ints Try.underlying37 Try.underlying3 (by kernel_rfl) h with ⟨hcs, _⟩ | ⟨ad, len, cap, zs, hcs, _, hl, hm, hz, _, hcell, hwz⟩
  · exact ⟨_, [], hcs, none, 0, rfl, Nat.le_refl _, Nat.zero_le _, by simp, Or.inl rfl⟩
  · have hz' : zs.length = cap := by simpa using hz
    have htl : (zs.take len).length = len := by simp; omega
    refine ⟨_, zs.take len, hcs, some ad, cap, by rw [htl], by omega, hm, fun z hz => wf_range (hwz z (List.mem_of_mem_take hz)), ?_⟩
    by_cases h0 : len = 0
    · left; rw [h0]; rfl
    right
    have hx0 := hcell 0 (by omega)
    have hs0 := spot_of_cell hx0
    rcases ad with ⟨xb, xo, xs⟩
    cases (show xs = none from hs0)
    refine ⟨xb, xo, rfl, ?_, fun i y hy => ?_⟩
    · rw [add_plain] at hx0; exact World.block_lt_of_cell? _ _ hx0
    · have hi := (List.getElem?_eq_some_iff.1 hy).1
      have hx := hcell i (by omega)
      rw [List.getElem?_take, if_pos (by omega)] at hy
      rw [add_plain, List.getD_eq_getElem?_getD, hy] at hx
      exact hx
theorem ints_of_trod {H : Type} {enc : TypeId × Value → H} {W : World} {v : Value} {d : DataW H} {ps : List MemPlace} (h : DataW.Trod enc Try.prog W 0 (fun _ => true) true 37 v d ps)
    (hv : Value.okWide Try.prog W .any 0 37 v) (_hw : ∀ n ∈ d.weights Try.prog 37, n ≤ 140737488351232) : ∃ zs, Ints W v zs := by
  obtain ⟨x, y, z, rfl⟩ := okWide_slice Try.underlying37 hv
  obtain ⟨fuel, hf⟩ := h
  obtain ⟨v', zs, e, hz⟩ := ints_of_cells hf
  simp [Value.cells] at e
  subst e
  exact ⟨zs, hz⟩
theorem acts_of_trod {H : Type} {enc : TypeId × Value → H} {W : World} {v : Value} {d : DataW H} {ps : List MemPlace} (h : DataW.Trod enc Try.prog W 0 (fun _ => true) true 36 v d ps)
    (hv : Value.okWide Try.prog W .any 0 36 v) (hw : ∀ n ∈ d.weights Try.prog 36, n ≤ 140737488351232) : ∃ l, Acts W v l := by
  obtain ⟨l, h1, h2, _⟩ := elems_of_trod (α := ActV) Try.underlying36 (S := 3) (B := 40) (by kernel_rfl) (by omega) (by kernel_rfl) actCells (actOk W)
    (by obtain ⟨x, y, z, e⟩ := okWide_slice Try.underlying36 hv; exact ⟨x, y, z, e⟩) h hw (fun n cs D pl hd hw' => by
      obtain ⟨xs, n', rfl, hx, hl, hxl, hf⟩ := DataW.trod_struct Try.underlying39 hd
      have e1 : Try.prog.cellsOf 39 = 3 := by kernel_rfl
      have e2 : Try.prog.cellsOf 3 = 1 := by kernel_rfl
      have e3 : Try.prog.cellsOf 37 = 1 := by kernel_rfl
      rw [e1] at hl
      obtain ⟨c0, c1, c2, rfl⟩ : ∃ c0 c1 c2, cs = [c0, c1, c2] := by
        match cs, hl with
        | [a, b, c], _ => exact ⟨a, b, c, rfl⟩
      obtain ⟨y0, y1, y2, rfl⟩ : ∃ y0 y1 y2, xs = [y0, y1, y2] := by
        match xs, hxl with
        | [a, b, c], _ => exact ⟨a, b, c, rfl⟩
      have f0 : DataW.trod enc Try.prog W 0 (fun _ => true) true n' 3 (([c0, c1, c2].drop 0).take (Try.prog.cellsOf 3)) = [y0, y1, y2][0]? := hf 0 _ rfl
      have f1 : DataW.trod enc Try.prog W 0 (fun _ => true) true n' 3 (([c0, c1, c2].drop 1).take (Try.prog.cellsOf 3)) = [y0, y1, y2][1]? := hf 1 _ rfl
      have f2 : DataW.trod enc Try.prog W 0 (fun _ => true) true n' 37 (([c0, c1, c2].drop 2).take (Try.prog.cellsOf 37)) = [y0, y1, y2][2]? := hf 2 _ rfl
      rw [e2] at f0 f1
      rw [e3] at f2
      simp only [List.drop_zero, List.drop_succ_cons, List.take_succ_cons, List.take_zero, List.getElem?_cons_zero, List.getElem?_cons_succ] at f0 f1 f2
      obtain ⟨a, q0, r0, s0⟩ := DataW.trod_int Try.underlying3 f0
      obtain ⟨b, q1, r1, s1⟩ := DataW.trod_int Try.underlying3 f1
      obtain ⟨v', zs, q2, hz⟩ := ints_of_cells f2
      obtain rfl := (List.cons.inj q0).1
      obtain rfl := (List.cons.inj q1).1
      obtain rfl := (List.cons.inj q2).1
      exact ⟨⟨a, b, c2, zs⟩, rfl, wf_range s0, wf_range s1, hz⟩)
  exact ⟨l, h1, h2⟩
end
end Go.Proofs.Ytmdilndaipiajaa
