/- Operators that came in: one, a slice of them. -/
import Derived.Test.YthalpdjnclfleaaOpA
namespace Go.Proofs.Ythalpdjnclfleaa
open Go.RowKit Go.ChangeShapes Go.WideShapes Go.ChangeAt Go.Deep

theorem wf_range {a : Int} (h : (Lit.int .i64 a).wf = true) : -9223372036854775808 ≤ a ∧ a ≤ 9223372036854775807 := by
  simpa [Lit.wf, IntKind.min, IntKind.max, IntKind.signed, IntKind.bits] using h
theorem op_parse {H : Type} {enc : TypeId × Value → H} {W : World} {n : Nat} {cs : List Value} {D : DataW H} {pl : List MemPlace} (hd : DataW.trod enc Try.prog W 0 (fun _ => true) true n 28 cs = some (D, pl))
    (hw : ∀ m ∈ D.weights Try.prog 28, m ≤ 140737488351232) : ∃ x : O, cs = oCells x ∧ oOk x := by
  obtain ⟨xs, n', rfl, hx, hl, hxl, hf⟩ := DataW.trod_struct Try.underlying28 hd
  have e1 : Try.prog.cellsOf 28 = 3 := by kernel_rfl
  have e2 : Try.prog.cellsOf 3 = 1 := by kernel_rfl
  have e3 : Try.prog.cellsOf 9 = 1 := by kernel_rfl
  rw [e1] at hl
  obtain ⟨c0, c1, c2, rfl⟩ : ∃ c0 c1 c2, cs = [c0, c1, c2] := by
    match cs, hl with
    | [a, b, c], _ => exact ⟨a, b, c, rfl⟩
  obtain ⟨y0, y1, y2, rfl⟩ : ∃ y0 y1 y2, xs = [y0, y1, y2] := by
    match xs, hxl with
    | [a, b, c], _ => exact ⟨a, b, c, rfl⟩
  have f0 : DataW.trod enc Try.prog W 0 (fun _ => true) true n' 9 (([c0, c1, c2].drop 0).take (Try.prog.cellsOf 9)) = [y0, y1, y2][0]? := hf 0 _ rfl
  have f1 : DataW.trod enc Try.prog W 0 (fun _ => true) true n' 9 (([c0, c1, c2].drop 1).take (Try.prog.cellsOf 9)) = [y0, y1, y2][1]? := hf 1 _ rfl
  have f2 : DataW.trod enc Try.prog W 0 (fun _ => true) true n' 3 (([c0, c1, c2].drop 2).take (Try.prog.cellsOf 3)) = [y0, y1, y2][2]? := hf 2 _ rfl
  rw [e3] at f0 f1
  rw [e2] at f2
  simp only [List.drop_zero, List.drop_succ_cons, List.take_succ_cons, List.take_zero, List.getElem?_cons_zero, List.getElem?_cons_succ] at f0 f1 f2
  obtain ⟨s, q0, r0, s0⟩ := DataW.trod_string Try.underlying9 f0
  obtain ⟨t, q1, r1, s1⟩ := DataW.trod_string Try.underlying9 f1
  obtain ⟨a, q2, r2, s2⟩ := DataW.trod_int Try.underlying3 f2
  obtain rfl := (List.cons.inj q0).1
  obtain rfl := (List.cons.inj q1).1
  obtain rfl := (List.cons.inj q2).1
  simp only [Prod.mk.injEq] at hx
  have h0 := hw s.data.toList.length (by
    rw [hx.1, r0]
    simp [DataW.weights, Try.underlying28, DataW.weightsEach])
  have h1 := hw t.data.toList.length (by
    rw [hx.1, r1]
    simp [DataW.weights, Try.underlying28, DataW.weightsEach])
  exact ⟨⟨s, t, a⟩, rfl, h0, h1, wf_range s2⟩
theorem ops_of_trod {H : Type} {enc : TypeId × Value → H} {W : World} {v : Value} {d : DataW H} {ps : List MemPlace} (h : DataW.Trod enc Try.prog W 0 (fun _ => true) true 23 v d ps)
    (hv : Value.okWide Try.prog W .any 0 23 v) (hw : ∀ n ∈ d.weights Try.prog 23, n ≤ 140737488351232) : ∃ l, Ops W v l ∧ ∀ x ∈ l, oOk x := by
  obtain ⟨l, h1, h2, _⟩ := elems_of_trod (α := O) Try.underlying23 (S := 3) (B := 40) (by kernel_rfl) (by omega) (by kernel_rfl) oCells oOk
    (by obtain ⟨x, y, z, e⟩ := okWide_slice Try.underlying23 hv; exact ⟨x, y, z, e⟩) h hw (fun n cs D pl hd hw' => op_parse hd hw')
  exact ⟨l, h1, h2⟩
def IsOp (v : Value) (o : O) : Prop := v = oVal o ∧ oOk o
theorem op_of_trod {H : Type} {enc : TypeId × Value → H} {W : World} {v : Value} {d : DataW H} {ps : List MemPlace} (h : DataW.Trod enc Try.prog W 0 (fun _ => true) true 28 v d ps)
    (hv : Value.okWide Try.prog W .any 0 28 v) (hw : ∀ n ∈ d.weights Try.prog 28, n ≤ 140737488351232) : ∃ o, IsOp v o := by
  obtain ⟨cs, rfl, _⟩ := okWide_struct Try.underlying28 hv
  obtain ⟨fuel, hf⟩ := h
  obtain ⟨x, hx, hok⟩ := op_parse hf hw
  refine ⟨x, ?_, hok⟩
  have : cs.toList = oCells x := by simpa [Value.cells] using hx
  rw [show cs = (oCells x).toArray by rw [← this]]
  rfl
end Go.Proofs.Ythalpdjnclfleaa
