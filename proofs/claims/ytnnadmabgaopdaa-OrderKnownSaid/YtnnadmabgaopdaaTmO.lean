/- Terms that came in: one, a slice of them. -/
import Derived.Test.YtnnadmabgaopdaaTmV
import Derived.Test.YtnnadmabgaopdaaRows
namespace Go.Proofs.Ytnnadmabgaopdaa
open Go.RowKit Go.ChangeShapes Go.WideShapes Go.ChangeAt Go.Deep
set_option maxRecDepth 100000

theorem wf_range {a : Int} (h : (Lit.int .i64 a).wf = true) : I64 a := by
  unfold I64
  simpa [Lit.wf, IntKind.min, IntKind.max, IntKind.signed, IntKind.bits] using h
section
variable {H : Type} {enc : TypeId × Value → H} {W : World}
/-- A slice's reading, where each of its elements' readings is a term. -/
theorem tms_parse {n : Nat} {c : Value} {D : DataW H} {pl : List MemPlace} (hd : DataW.trod enc Try.prog W 0 (fun _ => true) true n 23 [c] = some (D, pl)) (hw : ∀ m ∈ D.weights Try.prog 23, m ≤ 140737488351232)
    (ih : ∀ (d : DataW H), SizeOf.sizeOf d < SizeOf.sizeOf D → ∀ (n : Nat) (cs : List Value) (pl : List MemPlace), DataW.trod enc Try.prog W 0 (fun _ => true) true n 25 cs = some (d, pl) → (∀ m ∈ d.weights Try.prog 25, m ≤ 140737488351232) → ∃ x : Tm, TmV W x (.agg cs.toArray) ∧ cs.length = 4) :
    ∃ l : List Tm, Tms W c l := by
  have hc : Try.prog.cellsOf 25 = 4 := by kernel_rfl
  have hb : Try.prog.bytesOf 25 = 56 := by kernel_rfl
  rcases open_slice Try.underlying23 hd with ⟨hcs, _⟩ | ⟨a, n, cc, m, n', D', Pl, hcs, _, hl, hm, hz, hd', hi⟩
  · obtain rfl := (List.cons.inj hcs).1
    exact ⟨[], Tms.nil W⟩
  · obtain rfl := (List.cons.inj hcs).1
    simp at hz
    subst hz
    simp only [Prod.mk.injEq] at hd'
    obtain ⟨rfl, rfl⟩ := hd'
    have hbig := hw ((((List.range n).map D').length + ((List.range (m - n)).map fun j => D' (n + j)).length) * Try.prog.bytesOf 25) (by simp [DataW.weights, Try.underlying23])
    rw [hb] at hbig
    simp at hbig
    obtain ⟨xs, hxl, hxs⟩ := list_choose (Q := fun i (y : Tm) => ∃ cs', W.cells? 0 (a.add (i * 4)) 4 = some cs' ∧ TmV W y (.agg cs'.toArray) ∧ cs'.length = 4) n (fun i hin => by
      obtain ⟨cs', h1, h2⟩ := hi i (by omega)
      rw [hc] at h1
      have hmem : D' i ∈ (List.range n).map D' := List.mem_map_of_mem (f := D') (List.mem_range.2 hin)
      obtain ⟨y, hy1, hy2⟩ := ih (D' i) (by
        have := List.sizeOf_lt_of_mem hmem
        simp only [DataW.slice.sizeOf_spec]
        omega) n' cs' (Pl i) h2 (fun k hk => hw k (by
        simp only [DataW.weights, Try.underlying23, List.mem_cons, List.mem_append]
        exact Or.inr (Or.inl (weights_all_mem hmem k hk))))
      exact ⟨y, cs', h1, hy1, hy2⟩)
    refine ⟨xs, some a, m, by rw [hxl], by omega, hm, by unfold BIG; omega, ?_⟩
    by_cases h0 : n = 0
    · left; exact List.length_eq_zero_iff.1 (by omega)
    right
    obtain ⟨y0, hy0⟩ : ∃ y0, xs[0]? = some y0 := ⟨_, List.getElem?_eq_getElem (by omega)⟩
    obtain ⟨cs0, hq, _, _⟩ := hxs 0 y0 hy0
    obtain ⟨_, hl0, hat0⟩ := World.cells?_some hq
    have hx0 := hat0 0 (by omega)
    have hs0 : a.spot = none := by
      rw [List.getElem?_eq_getElem (by omega)] at hx0
      have e1 := spot_of_cell hx0
      rw [Nat.zero_mul] at e1
      have : a.add 0 = a := by
        rcases a with ⟨xb, xo, xs'⟩; unfold Addr.add; split <;> simp_all
      rw [this] at e1; exact e1
    rcases a with ⟨xb, xo, xs'⟩
    cases (show xs' = none from hs0)
    refine ⟨xb, xo, rfl, ?_, TmRow.mk fun i y hy => ?_⟩
    · rw [List.getElem?_eq_getElem (by omega), add_plain, add_plain] at hx0; exact World.block_lt_of_cell? _ _ hx0
    · obtain ⟨cs', hq', hv, hl4⟩ := hxs i y hy
      obtain ⟨_, hl', hat⟩ := World.cells?_some hq'
      obtain ⟨c0, c1, c2, c3, rfl⟩ : ∃ c0 c1 c2 c3, cs' = [c0, c1, c2, c3] := by
        match cs', hl4 with
        | [a, b, c, d], _ => exact ⟨a, b, c, d, rfl⟩
      have t0 := hat 0 (by omega)
      have t1 := hat 1 (by omega)
      have t2 := hat 2 (by omega)
      have t3 := hat 3 (by omega)
      rw [add_plain, add_plain] at t0 t1 t2 t3
      exact ⟨c0, c1, c2, c3, t0, t1, t2, t3, hv⟩
theorem term_parse : ∀ (N : Nat) (D : DataW H), SizeOf.sizeOf D ≤ N → ∀ (n : Nat) (cs : List Value) (pl : List MemPlace), DataW.trod enc Try.prog W 0 (fun _ => true) true n 25 cs = some (D, pl) →
    (∀ m ∈ D.weights Try.prog 25, m ≤ 140737488351232) → ∃ x : Tm, TmV W x (.agg cs.toArray) ∧ cs.length = 4
  | 0, D, hN, n, cs, pl, hd, hw => by
    cases D <;> simp at hN
  | N + 1, D, hN, n, cs, pl, hd, hw => by
    obtain ⟨xs, n', rfl, hx, hl, hxl, hf⟩ := DataW.trod_struct Try.underlying25 hd
    have e1 : Try.prog.cellsOf 25 = 4 := by kernel_rfl
    have e2 : Try.prog.cellsOf 3 = 1 := by kernel_rfl
    have e3 : Try.prog.cellsOf 2 = 1 := by kernel_rfl
    have e4 : Try.prog.cellsOf 9 = 1 := by kernel_rfl
    have e5 : Try.prog.cellsOf 23 = 1 := by kernel_rfl
    rw [e1] at hl
    obtain ⟨c0, c1, c2, c3, rfl⟩ : ∃ c0 c1 c2 c3, cs = [c0, c1, c2, c3] := by
      match cs, hl with
      | [a, b, c, d], _ => exact ⟨a, b, c, d, rfl⟩
    obtain ⟨y0, y1, y2, y3, rfl⟩ : ∃ y0 y1 y2 y3, xs = [y0, y1, y2, y3] := by
      match xs, hxl with
      | [a, b, c, d], _ => exact ⟨a, b, c, d, rfl⟩
    have f0 : DataW.trod enc Try.prog W 0 (fun _ => true) true n' 3 (([c0, c1, c2, c3].drop 0).take (Try.prog.cellsOf 3)) = [y0, y1, y2, y3][0]? := hf 0 _ rfl
    have f1 : DataW.trod enc Try.prog W 0 (fun _ => true) true n' 2 (([c0, c1, c2, c3].drop 1).take (Try.prog.cellsOf 2)) = [y0, y1, y2, y3][1]? := hf 1 _ rfl
    have f2 : DataW.trod enc Try.prog W 0 (fun _ => true) true n' 9 (([c0, c1, c2, c3].drop 2).take (Try.prog.cellsOf 9)) = [y0, y1, y2, y3][2]? := hf 2 _ rfl
    have f3 : DataW.trod enc Try.prog W 0 (fun _ => true) true n' 23 (([c0, c1, c2, c3].drop 3).take (Try.prog.cellsOf 23)) = [y0, y1, y2, y3][3]? := hf 3 _ rfl
    rw [e2] at f0
    rw [e3] at f1
    rw [e4] at f2
    rw [e5] at f3
    simp only [List.drop_zero, List.drop_succ_cons, List.take_succ_cons, List.take_zero, List.getElem?_cons_zero, List.getElem?_cons_succ] at f0 f1 f2 f3
    obtain ⟨k, q0, r0, s0⟩ := DataW.trod_int Try.underlying3 f0
    obtain ⟨m, q1, r1, s1⟩ := DataW.trod_int Try.underlying2 f1
    obtain ⟨s, q2, r2, s2⟩ := DataW.trod_string Try.underlying9 f2
    obtain rfl := (List.cons.inj q0).1
    obtain rfl := (List.cons.inj q1).1
    obtain rfl := (List.cons.inj q2).1
    simp only [Prod.mk.injEq] at hx
    obtain ⟨hx1, _⟩ := hx
    have h0 := hw s.data.toList.length (by
      rw [hx1, r2]
      simp [DataW.weights, Try.underlying25, DataW.weightsEach])
    obtain ⟨l, hl⟩ := tms_parse (D := y3.1) (pl := y3.2) f3 (fun j hj => hw j (by
      rw [hx1]
      simp [DataW.weights, Try.underlying25, DataW.weightsEach, hj])) (fun d hds => term_parse N d (by
      have : SizeOf.sizeOf y3.1 < SizeOf.sizeOf D := by
        rw [hx1]
        simp only [List.map_cons, List.map_nil, DataW.agg.sizeOf_spec, List.cons.sizeOf_spec]
        omega
      omega))
    exact ⟨.mk k m s l, tmV_iff.2 ⟨c3, rfl, h0, wf_range s0, wf_range s1, hl⟩, rfl⟩
end
def IsTm (w : World) (v : Value) (x : Tm) : Prop := TmV w x v
theorem term_of_trod {H : Type} {enc : TypeId × Value → H} {W : World} {v : Value} {d : DataW H} {ps : List MemPlace} (h : DataW.Trod enc Try.prog W 0 (fun _ => true) true 25 v d ps)
    (hv : Value.okWide Try.prog W .any 0 25 v) (hw : ∀ n ∈ d.weights Try.prog 25, n ≤ 140737488351232) : ∃ x, IsTm W v x := by
  obtain ⟨cs, rfl, _⟩ := okWide_struct Try.underlying25 hv
  obtain ⟨fuel, hf⟩ := h
  obtain ⟨x, hx, _⟩ := term_parse _ d (Nat.le_refl _) _ _ _ hf hw
  refine ⟨x, ?_⟩
  have : (Value.agg cs).cells.toList.toArray = cs := by simp [Value.cells]
  rw [this] at hx
  exact hx
theorem terms_of_trod {H : Type} {enc : TypeId × Value → H} {W : World} {v : Value} {d : DataW H} {ps : List MemPlace} (h : DataW.Trod enc Try.prog W 0 (fun _ => true) true 23 v d ps)
    (hv : Value.okWide Try.prog W .any 0 23 v) (hw : ∀ n ∈ d.weights Try.prog 23, n ≤ 140737488351232) : ∃ l, Tms W v l := by
  obtain ⟨a, n, c, rfl⟩ := okWide_slice Try.underlying23 hv
  obtain ⟨fuel, hf⟩ := h
  exact tms_parse (c := .slice a n c) hf hw (fun d' _ => term_parse _ d' (Nat.le_refl _))
end Go.Proofs.Ytnnadmabgaopdaa
