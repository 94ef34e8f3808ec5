/- TablePlays: any calls of a table of strings. -/
import Derived.Test.YtjpdigdocdppbaaTabI
import Derived.Test.YtjpdigdocdppbaaOpenE
import Derived.Deep.RegionLaw
import Derived.Deep.RegionHeld3
import Derived.Deep.Cut
import Derived.Deep.CutRange
import Derived.Deep.DeepCutAuto
import Derived.Deep.AppendLies
namespace Go.Proofs.Ytjpdigdocdppbaa
open Go.RowKit Go.Maps Go.WideMaps

structure ActV where
  op : Int
  n : Int
  k : ByteArray
def actCells (x : ActV) : List Value := [.int .i64 x.op, .int .i64 x.n, .string x.k]
def actOk (x : ActV) : Prop := (-9223372036854775808 ≤ x.op ∧ x.op ≤ 9223372036854775807) ∧ (-9223372036854775808 ≤ x.n ∧ x.n ≤ 9223372036854775807) ∧ x.k.size ≤ 140737488351232
def Acts (w : World) (v : Value) (l : List ActV) : Prop := Elems 3 actCells w v l ∧ ∀ x ∈ l, actOk x

section
open Go.ChangeShapes Go.WideShapes Go.ChangeAt Go.Deep
theorem wf_range {a : Int} (h : (Lit.int .i64 a).wf = true) : -9223372036854775808 ≤ a ∧ a ≤ 9223372036854775807 := by
  simpa [Lit.wf, IntKind.min, IntKind.max, IntKind.signed, IntKind.bits] using h
theorem acts_of_trod {H : Type} {enc : TypeId × Value → H} {W : World} {v : Value} {d : DataW H} {ps : List MemPlace} (h : DataW.Trod enc Try.prog W 0 (fun _ => true) true 36 v d ps)
    (hv : Value.okWide Try.prog W .any 0 36 v) (hw : ∀ n ∈ d.weights Try.prog 36, n ≤ 140737488351232) : ∃ l, Acts W v l := by
  obtain ⟨l, h1, h2, _⟩ := elems_of_trod (α := ActV) Try.underlying36 (S := 3) (B := 32) (by kernel_rfl) (by omega) (by kernel_rfl) actCells actOk
    (by obtain ⟨x, y, z, e⟩ := okWide_slice Try.underlying36 hv; exact ⟨x, y, z, e⟩) h hw (fun n cs D pl hd hw' => by
      obtain ⟨xs, n', rfl, hx, hl, hxl, hf⟩ := DataW.trod_struct Try.underlying38 hd
      have e1 : Try.prog.cellsOf 38 = 3 := by kernel_rfl
      have e2 : Try.prog.cellsOf 3 = 1 := by kernel_rfl
      have e3 : Try.prog.cellsOf 9 = 1 := by kernel_rfl
      rw [e1] at hl
      obtain ⟨c0, c1, c2, rfl⟩ : ∃ c0 c1 c2, cs = [c0, c1, c2] := by
        match cs, hl with
        | [a, b, c], _ => exact ⟨a, b, c, rfl⟩
      obtain ⟨y0, y1, y2, rfl⟩ : ∃ y0 y1 y2, xs = [y0, y1, y2] := by
        match xs, hxl with
        | [a, b, c], _ => exact ⟨a, b, c, rfl⟩
      have f0 : DataW.trod enc Try.prog W 0 (fun _ => true) true n' 3 (([c0, c1, c2].drop 0).take (Try.prog.cellsOf 3)) = [y0, y1, y2][0]? := hf 0 _ rfl
      have f1 : DataW.trod enc Try.prog W 0 (fun _ => true) true n' 3 (([c0, c1, c2].drop 1).take (Try.prog.cellsOf 3)) = [y0, y1, y2][1]? := hf 1 _ rfl
      have f2 : DataW.trod enc Try.prog W 0 (fun _ => true) true n' 9 (([c0, c1, c2].drop 2).take (Try.prog.cellsOf 9)) = [y0, y1, y2][2]? := hf 2 _ rfl
      rw [e2] at f0 f1
      rw [e3] at f2
      simp only [List.drop_zero, List.drop_succ_cons, List.take_succ_cons, List.take_zero, List.getElem?_cons_zero, List.getElem?_cons_succ] at f0 f1 f2
      obtain ⟨a, q0, r0, s0⟩ := DataW.trod_int Try.underlying3 f0
      obtain ⟨b, q1, r1, s1⟩ := DataW.trod_int Try.underlying3 f1
      obtain ⟨s, q2, r2, s2⟩ := DataW.trod_string Try.underlying9 f2
      obtain rfl := (List.cons.inj q0).1
      obtain rfl := (List.cons.inj q1).1
      obtain rfl := (List.cons.inj q2).1
      refine ⟨⟨a, b, s⟩, rfl, wf_range s0, wf_range s1, ?_⟩
      simp only [Prod.mk.injEq] at hx
      have := hw' s.data.toList.length (by
        rw [hx.1, r2]
        simp [DataW.weights, Try.underlying38, DataW.weightsEach])
      exact this)
  exact ⟨l, h1, h2⟩
end
end Go.Proofs.Ytjpdigdocdppbaa
