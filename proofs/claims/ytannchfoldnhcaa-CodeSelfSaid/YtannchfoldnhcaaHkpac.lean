import Derived.Test.YtannchfoldnhcaaHkpab
import Derived.Test.YtannchfoldnhcaaRows
import Derived.Maps.AppendAt
import Derived.Deep.Upon
import Derived.Deep.AppendSrc
import Derived.Laws.ResultCell
set_option linter.unusedVariables false
set_option linter.unusedSimpArgs false
/- Terms that came in: one, a slice of them. -/
namespace Go.Proofs.Ytannchfoldnhcaa
open Go.RowKit Go.ChangeShapes Go.WideShapes Go.ChangeAt Go.Deep
set_option maxRecDepth 100000

theorem wf_range {a : Int} (h : (Lit.int .i64 a).wf = true) : I64 a := by
  unfold I64
  simpa [Lit.wf, IntKind.min, IntKind.max, IntKind.signed, IntKind.bits] using h
section
variable {H : Type} {enc : TypeId × Value → H} {W : World}
/-- A slice's reading, where each of its elements' readings is a term. -/
theorem tms_parse {n : Nat} {c : Value} {D : DataW H} {pl : List MemPlace} (hd : DataW.trod enc Try.prog W 0 (fun _ => true) true n 29 [c] = some (D, pl)) (hw : ∀ m ∈ D.weights Try.prog 29, m ≤ 140737488351232)
    (ih : ∀ (d : DataW H), SizeOf.sizeOf d < SizeOf.sizeOf D → ∀ (n : Nat) (cs : List Value) (pl : List MemPlace), DataW.trod enc Try.prog W 0 (fun _ => true) true n 31 cs = some (d, pl) → (∀ m ∈ d.weights Try.prog 31, m ≤ 140737488351232) → ∃ x : Tm, TmV W x (.agg cs.toArray) ∧ cs.length = 4) :
    ∃ l : List Tm, Tms W c l := by
  have hc : Try.prog.cellsOf 31 = 4 := by kernel_rfl
  have hb : Try.prog.bytesOf 31 = 56 := by kernel_rfl
  rcases open_slice Try.underlying29 hd with ⟨hcs, _⟩ | ⟨a, n, cc, m, n', D', Pl, hcs, _, hl, hm, hz, hd', hi⟩
  · obtain rfl := (List.cons.inj hcs).1
    exact ⟨[], Tms.nil W⟩
  · obtain rfl := (List.cons.inj hcs).1
    simp at hz
    subst hz
    simp only [Prod.mk.injEq] at hd'
    obtain ⟨rfl, rfl⟩ := hd'
    have hbig := hw ((((List.range n).map D').length + ((List.range (m - n)).map fun j => D' (n + j)).length) * Try.prog.bytesOf 31) (by simp [DataW.weights, Try.underlying29])
    rw [hb] at hbig
    simp at hbig
    obtain ⟨xs, hxl, hxs⟩ := list_choose (Q := fun i (y : Tm) => ∃ cs', W.cells? 0 (a.add (i * 4)) 4 = some cs' ∧ TmV W y (.agg cs'.toArray) ∧ cs'.length = 4) n (fun i hin => by
      obtain ⟨cs', h1, h2⟩ := hi i (by omega)
      rw [hc] at h1
      have hmem : D' i ∈ (List.range n).map D' := List.mem_map_of_mem (f := D') (List.mem_range.2 hin)
      obtain ⟨y, hy1, hy2⟩ := ih (D' i) (by
        have := List.sizeOf_lt_of_mem hmem
        simp only [DataW.slice.sizeOf_spec]
        omega) n' cs' (Pl i) h2 (fun k hk => hw k (by
        simp only [DataW.weights, Try.underlying29, List.mem_cons, List.mem_append]
        exact Or.inr (Or.inl (weights_all_mem hmem k hk))))
      exact ⟨y, cs', h1, hy1, hy2⟩)
    refine ⟨xs, some a, m, by rw [hxl], by omega, hm, by unfold BIG; omega, ?_⟩
    by_cases h0 : n = 0
    · left; exact List.length_eq_zero_iff.1 (by omega)
    right
    obtain ⟨y0, hy0⟩ : ∃ y0, xs[0]? = some y0 := ⟨_, List.getElem?_eq_getElem (by omega)⟩
    obtain ⟨cs0, hq, _, _⟩ := hxs 0 y0 hy0
    obtain ⟨_, hl0, hat0⟩ := World.cells?_some hq
    have hx0 := hat0 0 (by omega)
    have hs0 : a.spot = none := by
      rw [List.getElem?_eq_getElem (by omega)] at hx0
      have e1 := spot_of_cell hx0
      rw [Nat.zero_mul] at e1
      have : a.add 0 = a := by
        rcases a with ⟨xb, xo, xs'⟩; unfold Addr.add; split <;> simp_all
      rw [this] at e1; exact e1
    rcases a with ⟨xb, xo, xs'⟩
    cases (show xs' = none from hs0)
    refine ⟨xb, xo, rfl, ?_, TmRow.mk fun i y hy => ?_⟩
    · rw [List.getElem?_eq_getElem (by omega), add_plain, add_plain] at hx0; exact World.block_lt_of_cell? _ _ hx0
    · obtain ⟨cs', hq', hv, hl4⟩ := hxs i y hy
      obtain ⟨_, hl', hat⟩ := World.cells?_some hq'
      obtain ⟨c0, c1, c2, c3, rfl⟩ : ∃ c0 c1 c2 c3, cs' = [c0, c1, c2, c3] := by
        match cs', hl4 with
        | [a, b, c, d], _ => exact ⟨a, b, c, d, rfl⟩
      have t0 := hat 0 (by omega)
      have t1 := hat 1 (by omega)
      have t2 := hat 2 (by omega)
      have t3 := hat 3 (by omega)
      rw [add_plain, add_plain] at t0 t1 t2 t3
      exact ⟨c0, c1, c2, c3, t0, t1, t2, t3, hv⟩
theorem term_parse : ∀ (N : Nat) (D : DataW H), SizeOf.sizeOf D ≤ N → ∀ (n : Nat) (cs : List Value) (pl : List MemPlace), DataW.trod enc Try.prog W 0 (fun _ => true) true n 31 cs = some (D, pl) →
    (∀ m ∈ D.weights Try.prog 31, m ≤ 140737488351232) → ∃ x : Tm, TmV W x (.agg cs.toArray) ∧ cs.length = 4
  | 0, D, hN, n, cs, pl, hd, hw => by
    cases D <;> simp at hN
  | N + 1, D, hN, n, cs, pl, hd, hw => by
    obtain ⟨xs, n', rfl, hx, hl, hxl, hf⟩ := DataW.trod_struct Try.underlying31 hd
    have e1 : Try.prog.cellsOf 31 = 4 := by kernel_rfl
    have e2 : Try.prog.cellsOf 3 = 1 := by kernel_rfl
    have e3 : Try.prog.cellsOf 2 = 1 := by kernel_rfl
    have e4 : Try.prog.cellsOf 9 = 1 := by kernel_rfl
    have e5 : Try.prog.cellsOf 29 = 1 := by kernel_rfl
    rw [e1] at hl
    obtain ⟨c0, c1, c2, c3, rfl⟩ : ∃ c0 c1 c2 c3, cs = [c0, c1, c2, c3] := by
      match cs, hl with
      | [a, b, c, d], _ => exact ⟨a, b, c, d, rfl⟩
    obtain ⟨y0, y1, y2, y3, rfl⟩ : ∃ y0 y1 y2 y3, xs = [y0, y1, y2, y3] := by
      match xs, hxl with
      | [a, b, c, d], _ => exact ⟨a, b, c, d, rfl⟩
    have f0 : DataW.trod enc Try.prog W 0 (fun _ => true) true n' 3 (([c0, c1, c2, c3].drop 0).take (Try.prog.cellsOf 3)) = [y0, y1, y2, y3][0]? := hf 0 _ rfl
    have f1 : DataW.trod enc Try.prog W 0 (fun _ => true) true n' 2 (([c0, c1, c2, c3].drop 1).take (Try.prog.cellsOf 2)) = [y0, y1, y2, y3][1]? := hf 1 _ rfl
    have f2 : DataW.trod enc Try.prog W 0 (fun _ => true) true n' 9 (([c0, c1, c2, c3].drop 2).take (Try.prog.cellsOf 9)) = [y0, y1, y2, y3][2]? := hf 2 _ rfl
    have f3 : DataW.trod enc Try.prog W 0 (fun _ => true) true n' 29 (([c0, c1, c2, c3].drop 3).take (Try.prog.cellsOf 29)) = [y0, y1, y2, y3][3]? := hf 3 _ rfl
    rw [e2] at f0
    rw [e3] at f1
    rw [e4] at f2
    rw [e5] at f3
    simp only [List.drop_zero, List.drop_succ_cons, List.take_succ_cons, List.take_zero, List.getElem?_cons_zero, List.getElem?_cons_succ] at f0 f1 f2 f3
    obtain ⟨k, q0, r0, s0⟩ := DataW.trod_int Try.underlying3 f0
    obtain ⟨m, q1, r1, s1⟩ := DataW.trod_int Try.underlying2 f1
    obtain ⟨s, q2, r2, s2⟩ := DataW.trod_string Try.underlying9 f2
    obtain rfl := (List.cons.inj q0).1
    obtain rfl := (List.cons.inj q1).1
    obtain rfl := (List.cons.inj q2).1
    simp only [Prod.mk.injEq] at hx
    obtain ⟨hx1, _⟩ := hx
    have h0 := hw s.data.toList.length (by
      rw [hx1, r2]
      simp [DataW.weights, Try.underlying31, DataW.weightsEach])
    obtain ⟨l, hl⟩ := tms_parse (D := y3.1) (pl := y3.2) f3 (fun j hj => hw j (by
      rw [hx1]
      simp [DataW.weights, Try.underlying31, DataW.weightsEach, hj])) (fun d hds => term_parse N d (by
      have : SizeOf.sizeOf y3.1 < SizeOf.sizeOf D := by
        rw [hx1]
        simp only [List.map_cons, List.map_nil, DataW.agg.sizeOf_spec, List.cons.sizeOf_spec]
        omega
      omega))
    exact ⟨.mk k m s l, tmV_iff.2 ⟨c3, rfl, h0, wf_range s0, wf_range s1, hl⟩, rfl⟩
end
def IsTm (w : World) (v : Value) (x : Tm) : Prop := TmV w x v
theorem term_of_trod {H : Type} {enc : TypeId × Value → H} {W : World} {v : Value} {d : DataW H} {ps : List MemPlace} (h : DataW.Trod enc Try.prog W 0 (fun _ => true) true 31 v d ps)
    (hv : Value.okWide Try.prog W .any 0 31 v) (hw : ∀ n ∈ d.weights Try.prog 31, n ≤ 140737488351232) : ∃ x, IsTm W v x := by
  obtain ⟨cs, rfl, _⟩ := okWide_struct Try.underlying31 hv
  obtain ⟨fuel, hf⟩ := h
  obtain ⟨x, hx, _⟩ := term_parse _ d (Nat.le_refl _) _ _ _ hf hw
  refine ⟨x, ?_⟩
  have : (Value.agg cs).cells.toList.toArray = cs := by simp [Value.cells]
  rw [this] at hx
  exact hx
end Go.Proofs.Ytannchfoldnhcaa
/- Small facts of ours on worlds: what is laid anew, what is drawn, a row that stays. Nothing here speaks of one program. -/
namespace Go.Proofs.Ytannchfoldnhcaa
open Go.RowKit
theorem bel1' (w : World) (o : Obj) : Below w.heap.size w (w.alloc o) := (Below.refl _ _).alloc (Nat.le_refl _) o
theorem bel_drewN {B : Nat} {a w : World} (h : Below B a w) (n : Nat) : Below B a (w.drewN n) := ⟨h.os, h.tape, h.output, h.size, h.block⟩
theorem row_ext {w w' : World} {B k n : Nat} {e : TypeId} {v : Value} {xs : List Value} (h : w.ownsRow B e k v n xs) (hb : Below w.heap.size w w') : w'.ownsRow B e k v n xs := by
  obtain ⟨h0, h1⟩ := h
  refine ⟨h0, ?_⟩
  rcases h1 with h1 | ⟨g, cap, cur, rfl, hg, hh, h2⟩
  · exact Or.inl h1
  · exact Or.inr ⟨g, cap, cur, rfl, hg, by rw [hb.block g (Array.getElem?_eq_some_iff.1 hh).1]; exact hh, h2⟩
end Go.Proofs.Ytannchfoldnhcaa
/- Terms: small facts; a term as a parameter. -/
namespace Go.Proofs.Ytannchfoldnhcaa
open Go.RowKit
set_option linter.unusedVariables false

abbrev box4 (k n : Int) (s : ByteArray) (u : Value) (ty : TypeId) : Obj := .cells #[.int .i64 k, .int .i64 n, .string s, u] ty
theorem mem_size {k n : Int} {s : ByteArray} {ts : List Tm} {y : Tm} {N : Nat} (h : sizeN (.mk k n s ts) ≤ N + 1) (hy : y ∈ ts) : sizeN y ≤ N := by
  have := sizes_mem hy
  rw [sizeN] at h
  omega
/-- A term that came in is laid anew as a parameter. -/
theorem box_cells (w : World) (ty : TypeId) (c0 c1 c2 c3 : Value) {wr : World} (hb : Below (w.alloc (.cells #[c0, c1, c2, c3] ty)).heap.size (w.alloc (.cells #[c0, c1, c2, c3] ty)) wr) :
    wr.cell? ⟨w.heap.size, 0, none⟩ = some c0 ∧ wr.cell? ⟨w.heap.size, 1, none⟩ = some c1 ∧ wr.cell? ⟨w.heap.size, 2, none⟩ = some c2 ∧ wr.cell? ⟨w.heap.size, 3, none⟩ = some c3 :=
  ⟨cell_later hb (by simp), cell_later hb (by simp), cell_later hb (by simp), cell_later hb (by simp)⟩
end Go.Proofs.Ytannchfoldnhcaa
/- append of whatever slice to a row of the call's own, of elements of however many cells: also of nothing. Nothing here speaks of one program. -/
namespace Go.Proofs.Ytannchfoldnhcaa
open Go.RowKit

theorem row_formk {w : World} {b e sz n : Nat} {v : Value} {xs : List Value} (h : w.ownsRow b e sz v n xs) : ∃ a c, v = .slice a n c ∧ n ≤ c := by
  rcases h.2 with ⟨rfl, h0⟩ | ⟨g, cap, cur, rfl, _, _, h1, _⟩
  · exact ⟨none, 0, by rw [h0], by omega⟩
  · exact ⟨_, cap, rfl, h1⟩
section
variable {P : Program}
theorem run_append_k (w : World) (base : Nat) (t ty e : TypeId) (i : TypeInfo) (z : Value) (size bytes : Nat) (ht : P.underlying t = some (.slice e)) (hi : P.info? e = some i) (hz : i.zero = some z) (hsize : i.size = size) (hpos : 0 < size) (hby : i.bytes = bytes) (hzs : z.cells.size = size)
    (v : Value) (n : Nat) (xs : List Value) (hown : w.ownsRow base e size v n xs) (ao : Option Addr) (m c : Nat) (news : List Value) (hl : news.length = m * size)
    (hsrc : m = 0 ∨ ∃ ad, ao = some ad ∧ ∀ j u, news[j]? = some u → w.cell? (ad.add j) = some u) (h1 : ∀ u ∈ news, u.oneCell' = true)
    (h63 : n + m ≤ maxLen) (hbytes : (n + m) * bytes ≤ 140737488355328) (hbase : base ≤ w.heap.size) :
    ∃ v' w', (Builtin.append_ #[t, t] ty #[v, .slice ao m c]).run P w = .ok v' w' ∧ w'.ownsRow base e size v' (n + m) (xs ++ news) ∧ w.grownBy w' v.ownBlock ∧ (v'.ownBlock = v.ownBlock ∨ v'.ownBlock = some w.heap.size) := by
  by_cases hm : m = 0
  · subst hm
    obtain rfl : news = [] := List.length_eq_zero_iff.1 (by simpa using hl)
    obtain ⟨a, cc, rfl, hle⟩ := row_formk hown
    have hs : Src P i.size t (.slice ao 0 c) 0 [] w := by
      refine ⟨Or.inl ⟨e, ht⟩, fun w' => rfl, ?_, ?_, by simp, by simp⟩
      · cases ao with
        | none => rfl
        | some ad => exact run_firstCells_some w i.size 0 ad 0 c [] (by simp) (by simp)
      · cases ao with
        | none => rfl
        | some ad => exact run_firstCells_some w.drew i.size 0 ad 0 c [] (by simp) (by simp)
    exact ⟨_, w, run_append_nothing w t t ty e i ht hi a n cc hle _ hs, by simpa using hown, ⟨rfl, rfl, rfl, Nat.le_refl _, fun _ _ _ => rfl⟩, Or.inl rfl⟩
  · rcases hsrc with h0 | ⟨ad, rfl, hc⟩
    · exact absurd h0 hm
    obtain ⟨v', w', r1, r2, r3, _, r5⟩ := run_append_own_at (P := P) w base t ty e i z size bytes ht hi hz hsize hby hzs hpos v n xs hown ad m c news (by omega) hc h1 h63 hbytes hbase
    exact ⟨v', w', r1, r2, r3, r5⟩
theorem wp_append_k {w : World} {o : Oper} {a : Act} {K : Act → World → Prop} {Q : Exit → Act → World → Prop} (s x : Operand) (t : TypeId)
    (ho : o.op = .call { callee := .builtin .append, args := #[s, x], argTypes := #[t, t] })
    (base : Nat) (e : TypeId) (i : TypeInfo) (z : Value) (size bytes : Nat) (ht : P.underlying t = some (.slice e)) (hi : P.info? e = some i) (hz : i.zero = some z) (hsize : i.size = size) (hpos : 0 < size) (hby : i.bytes = bytes) (hzs : z.cells.size = size)
    (v : Value) (n : Nat) (xs : List Value) (hs : a.eval s = v) (hown : w.ownsRow base e size v n xs) (ao : Option Addr) (m c : Nat) (news : List Value) (hx : a.eval x = .slice ao m c) (hl : news.length = m * size)
    (hsrc : m = 0 ∨ ∃ ad, ao = some ad ∧ ∀ j u, news[j]? = some u → w.cell? (ad.add j) = some u) (h1 : ∀ u ∈ news, u.oneCell' = true)
    (h63 : n + m ≤ maxLen) (hbytes : (n + m) * bytes ≤ 140737488355328) (hbase : base ≤ w.heap.size) (N : Nat) (L : List Value) (hN : N = n + m) (hL : L = xs ++ news)
    (h : ∀ (a' : Option Addr) (c' : Nat) (w' : World), w'.ownsRow base e size (.slice a' N c') N L → w.grownBy w' v.ownBlock → ((Value.slice a' N c').ownBlock = v.ownBlock ∨ (Value.slice a' N c').ownBlock = some w.heap.size) → K (a.put o.dst (.slice a' N c')) w') : o.wp P a w K Q := by
  subst hN hL
  obtain ⟨v', w', hr, h2, h3, h4⟩ := run_append_k (P := P) w base t o.type e i z size bytes ht hi hz hsize hpos hby hzs v n xs hown ao m c news hl hsrc h1 h63 hbytes hbase
  obtain ⟨a', c', rfl, _⟩ := row_formk h2
  unfold Oper.wp execOp
  simp only [ho, resolve, invoke, builtin, Sem.run_bind, Sem.run_pure, Result.andThen_ok, List.map_toArray, List.map_cons, List.map_nil, hs, hx, hr]
  exact h a' c' w' h2 h3 h4
theorem step_append_k {w : World} {ops : Array Oper} {o : Oper} {a : Act} {K : Act → World → Prop} {Q : Exit → Act → World → Prop} {E : Prop} (hgd : o.guard = none) (s x : Operand) (t : TypeId)
    (ho : o.op = .call { callee := .builtin .append, args := #[s, x], argTypes := #[t, t] })
    (base : Nat) (e : TypeId) (i : TypeInfo) (z : Value) (size bytes : Nat) (ht : P.underlying t = some (.slice e)) (hi : P.info? e = some i) (hz : i.zero = some z) (hsize : i.size = size) (hpos : 0 < size) (hby : i.bytes = bytes) (hzs : z.cells.size = size)
    (v : Value) (n : Nat) (xs : List Value) (hs : a.eval s = v) (hown : w.ownsRow base e size v n xs) (ao : Option Addr) (m c : Nat) (news : List Value) (hx : a.eval x = .slice ao m c) (hl : news.length = m * size)
    (hsrc : m = 0 ∨ ∃ ad, ao = some ad ∧ ∀ j u, news[j]? = some u → w.cell? (ad.add j) = some u) (h1 : ∀ u ∈ news, u.oneCell' = true)
    (h63 : n + m ≤ maxLen) (hbytes : (n + m) * bytes ≤ 140737488355328) (hbase : base ≤ w.heap.size) (N : Nat) (L : List Value) (hN : N = n + m) (hL : L = xs ++ news)
    (h : ∀ (a' : Option Addr) (c' : Nat) (w' : World), w'.ownsRow base e size (.slice a' N c') N L → w.grownBy w' v.ownBlock → ((Value.slice a' N c').ownBlock = v.ownBlock ∨ (Value.slice a' N c').ownBlock = some w.heap.size) → K (a.put o.dst (.slice a' N c')) w') :
    if Region.wanted o (yielded ops a.tmps) = true then Oper.wp P o a w K Q else E := by
  have hw : Region.wanted o (yielded ops a.tmps) = true := by simp [Region.wanted, hgd]
  rw [if_pos hw]
  exact wp_append_k s x t ho base e i z size bytes ht hi hz hsize hpos hby hzs v n xs hs hown ao m c news hx hl hsrc h1 h63 hbytes hbase N L hN hL h
theorem wpList_append_k {w : World} {ops : Array Oper} {rest : List Oper} {o : Oper} {a : Act} {Q : Exit → Act → World → Prop} (hgd : o.guard = none) (s x : Operand) (t : TypeId)
    (ho : o.op = .call { callee := .builtin .append, args := #[s, x], argTypes := #[t, t] })
    (base : Nat) (e : TypeId) (i : TypeInfo) (z : Value) (size bytes : Nat) (ht : P.underlying t = some (.slice e)) (hi : P.info? e = some i) (hz : i.zero = some z) (hsize : i.size = size) (hpos : 0 < size) (hby : i.bytes = bytes) (hzs : z.cells.size = size)
    (v : Value) (n : Nat) (xs : List Value) (hs : a.eval s = v) (hown : w.ownsRow base e size v n xs) (ao : Option Addr) (m c : Nat) (news : List Value) (hx : a.eval x = .slice ao m c) (hl : news.length = m * size)
    (hsrc : m = 0 ∨ ∃ ad, ao = some ad ∧ ∀ j u, news[j]? = some u → w.cell? (ad.add j) = some u) (h1 : ∀ u ∈ news, u.oneCell' = true)
    (h63 : n + m ≤ maxLen) (hbytes : (n + m) * bytes ≤ 140737488355328) (hbase : base ≤ w.heap.size) (N : Nat) (L : List Value) (hN : N = n + m) (hL : L = xs ++ news)
    (h : ∀ (a' : Option Addr) (c' : Nat) (w' : World), w'.ownsRow base e size (.slice a' N c') N L → w.grownBy w' v.ownBlock → ((Value.slice a' N c').ownBlock = v.ownBlock ∨ (Value.slice a' N c').ownBlock = some w.heap.size) → wpList P ops Q rest (a.put o.dst (.slice a' N c')) w') :
    wpList P ops Q (o :: rest) a w := by
  refine wpList_plain hgd fun K hK => ?_
  exact wp_append_k s x t ho base e i z size bytes ht hi hz hsize hpos hby hzs v n xs hs hown ao m c news hx hl hsrc h1 h63 hbytes hbase N L hN hL (fun a' c' w' h2 h3 h4 => hK _ _ (h a' c' w' h2 h3 h4))
end
end Go.Proofs.Ytannchfoldnhcaa
/- A row of the call's own, of elements of S cells each, reads as its elements; what is appended to it. Nothing here speaks of one program. -/
namespace Go.Proofs.Ytannchfoldnhcaa
open Go.RowKit

section
variable {α : Type} {S : Nat} {cells : α → List Value}
theorem flat_len (hc : ∀ x, (cells x).length = S) (L : List α) : (L.flatMap cells).length = L.length * S := by
  induction L with
  | nil => simp
  | cons a r ih => rw [List.flatMap_cons, List.length_append, ih, hc, List.length_cons, Nat.add_mul, Nat.one_mul, Nat.add_comm]
theorem flat_get (hc : ∀ x, (cells x).length = S) : ∀ (L : List α) (i : Nat) (x : α), L[i]? = some x → ∀ j, j < S → (L.flatMap cells)[i * S + j]? = (cells x)[j]?
  | [], i, x, h, _, _ => by simp at h
  | a :: r, 0, x, h, j, hj => by
    simp at h
    subst h
    rw [List.flatMap_cons, Nat.zero_mul, Nat.zero_add, List.getElem?_append_left (by rw [hc]; exact hj)]
  | a :: r, i + 1, x, h, j, hj => by
    have e : (i + 1) * S + j = S + (i * S + j) := by rw [Nat.add_mul, Nat.one_mul]; omega
    rw [List.flatMap_cons, List.getElem?_append_right (by rw [hc, e]; omega), hc, e, Nat.add_sub_cancel_left]
    exact flat_get hc r i x (by simpa using h) j hj
/-- What the call owns reads as these. -/
theorem Elems.owned (hc : ∀ x, (cells x).length = S) {w : World} {B : Nat} {e : TypeId} {v : Value} {L : List α} (h : w.ownsRow B e S v L.length (L.flatMap cells)) : Elems S cells w v L := by
  rcases h.2 with ⟨rfl, h0⟩ | ⟨g, cap, cur, rfl, _, hg, h1, h2, h3, h4⟩
  · obtain rfl := List.length_eq_zero_iff.1 h0
    exact ⟨none, 0, rfl, Nat.le_refl _, Nat.zero_le _, Or.inl rfl⟩
  · refine ⟨_, cap, rfl, h1, h2, Or.inr ⟨g, 0, rfl, (Array.getElem?_eq_some_iff.1 hg).1, fun i x hx j u hu => ?_⟩⟩
    have hj : j < S := by have := (List.getElem?_eq_some_iff.1 hu).1; rwa [hc] at this
    have hi := (List.getElem?_eq_some_iff.1 hx).1
    have h5 := flat_get hc L i x hx j hj
    have hle : i * S + S ≤ L.length * S := by
      have : (i + 1) * S ≤ L.length * S := Nat.mul_le_mul_right _ hi
      rwa [Nat.add_mul, Nat.one_mul] at this
    rw [← h4, List.getElem?_take, if_pos (by omega), hu] at h5
    rw [Nat.zero_add, World.cell?, hg]
    simpa using h5
end
theorem cell_new (w : World) (cs : Array Value) (ty : TypeId) (j : Nat) (u : Value) (h : cs.toList[j]? = some u) : (w.alloc (.cells cs ty)).cell? ((⟨w.heap.size, 0, none⟩ : Addr).add j) = some u := by
  have h1 : (w.alloc (.cells cs ty)).heap[w.heap.size]? = some (.cells cs ty) := by
    show (w.heap.push _)[w.heap.size]? = _
    simp
  rw [add_plain, Nat.zero_add, World.cell?, h1]
  simpa using h
end Go.Proofs.Ytannchfoldnhcaa
/- A row of terms of the call's own; a term's fields. Nothing here speaks of one program. -/
namespace Go.Proofs.Ytannchfoldnhcaa
open Go.RowKit
set_option linter.unusedVariables false

theorem TmV.full {w : World} {x : Tm} {v : Value} (h : TmV w x v) : ∃ k n s a m c, v = .agg #[.int .i64 k, .int .i64 n, .string s, .slice a m c] := by
  cases x with
  | mk k n s ts =>
    obtain ⟨u, rfl, _, _, _, hu⟩ := tmV_iff.1 h
    obtain ⟨a, c, rfl, _⟩ := hu.len
    exact ⟨_, _, _, _, _, _, rfl⟩
/-- A term beside the value of its Args. -/
abbrev TmP := Tm × Value
def pCells (p : TmP) : List Value := [.int .i64 p.1.k, .int .i64 p.1.n, .string p.1.s, p.2]
def pVal (p : TmP) : Value := .agg #[.int .i64 p.1.k, .int .i64 p.1.n, .string p.1.s, p.2]
theorem pCells_len (p : TmP) : (pCells p).length = 4 := rfl
theorem TmV.pair {w : World} {x : Tm} {v : Value} (h : TmV w x v) : ∃ u, v = pVal (x, u) := by
  cases x with
  | mk k n s ts =>
    obtain ⟨u, rfl, _⟩ := tmV_iff.1 h
    exact ⟨u, rfl⟩
theorem pCells_one (L : List TmP) {w : World} (h : ∀ p ∈ L, TmV w p.1 (pVal p)) : ∀ u ∈ L.flatMap pCells, u.oneCell' = true := by
  intro u hu
  obtain ⟨p, hp, hx⟩ := List.mem_flatMap.1 hu
  have hv := h p hp
  obtain ⟨x, q⟩ := p
  cases x with
  | mk k n s ts =>
    obtain ⟨u', hu', _, _, _, hq⟩ := tmV_iff.1 hv
    have : u' = q := by
      simp only [pVal, Value.agg.injEq] at hu'
      have h2 := congrArg Array.toList hu'
      simp only [List.cons.injEq, and_true] at h2
      exact h2.2.2.2.symm
    subst this
    obtain ⟨a, c, rfl, _⟩ := hq.len
    simp [pCells] at hx
    rcases hx with rfl | rfl | rfl | rfl <;> rfl
def RowP (w : World) (base : Nat) (ty : TypeId) (v : Value) (ps : List TmP) : Prop := w.ownsRow base ty 4 v ps.length (ps.flatMap pCells)
/-- What the call owns reads as these terms. -/
theorem RowP.terms {w : World} {base : Nat} {ty : TypeId} {v : Value} {ps : List TmP} (h : RowP w base ty v ps) (hp : ∀ p ∈ ps, TmV w p.1 (pVal p)) (hl : ps.length * 56 ≤ BIG) : Tms w v (ps.map (·.1)) := by
  obtain ⟨a, c, rfl, h1, h2, h3⟩ := Elems.owned pCells_len h
  refine ⟨a, c, by rw [List.length_map], by rw [List.length_map]; exact h1, h2, by rw [List.length_map]; exact hl, ?_⟩
  rcases h3 with rfl | ⟨b, off, rfl, hb, hc⟩
  · left; rfl
  · refine Or.inr ⟨b, off, rfl, hb, TmRow.mk fun i x hx => ?_⟩
    rw [List.getElem?_map] at hx
    obtain ⟨p, hpi, rfl⟩ := Option.map_eq_some_iff.1 hx
    have hv := hp p (List.mem_of_getElem? hpi)
    exact ⟨_, _, _, _, hc i p hpi 0 _ rfl, by rw [Nat.add_assoc]; exact hc i p hpi 1 _ rfl, by rw [Nat.add_assoc]; exact hc i p hpi 2 _ rfl, by rw [Nat.add_assoc]; exact hc i p hpi 3 _ rfl, hv⟩
end Go.Proofs.Ytannchfoldnhcaa
/- Package term: the makers, Comp, Size. -/
namespace Go.Proofs.Ytannchfoldnhcaa
open Go.RowKit
set_option linter.unusedVariables false

theorem results_cell1 {fn : Func} {p : Tmp} {ty : TypeId} (h : fn.results = #[.cell p ty]) (tmps : Array Value) (P : Program) (w : World) :
    (results fn tmps).run P w = ((asAddr (tmps.getD p undef)).run P w).andThen fun a w₁ => (loadVar ty a).run P w₁ := by
  simp only [results, h]
  simp [Sem.run_bind, Result.andThen]
/-- The row that is read, beside the values of the Args. -/
theorem TmRow.pairs {w : World} : ∀ {l : List Tm} {b off : Nat}, TmRow w l b off → ∃ ps : List TmP, ps.map (·.1) = l ∧ (∀ p ∈ ps, TmV w p.1 (pVal p)) ∧ ∀ j u, (ps.flatMap pCells)[j]? = some u → w.cell? ⟨b, off + j, none⟩ = some u
  | [], b, off, _ => ⟨[], rfl, fun p h => by simp at h, fun j u h => by simp at h⟩
  | x :: r, b, off, h => by
    rw [TmRow] at h
    obtain ⟨⟨c0, c1, c2, c3, h0, h1, h2, h3, h4⟩, h5⟩ := h
    obtain ⟨ps, e1, e2, e3⟩ := TmRow.pairs h5
    obtain ⟨u, hu⟩ := h4.pair
    rw [hu] at h4
    simp only [pVal, Value.agg.injEq] at hu
    have h2' := congrArg Array.toList hu
    simp only [List.cons.injEq, and_true] at h2'
    obtain ⟨rfl, rfl, rfl, rfl⟩ := h2'
    refine ⟨(x, c3) :: ps, by simp [e1], fun p hp => ?_, fun j u hj => ?_⟩
    · rcases List.mem_cons.1 hp with rfl | hp
      · exact h4
      · exact e2 p hp
    · rw [List.flatMap_cons] at hj
      by_cases hlt : j < 4
      · rw [List.getElem?_append_left (by rw [pCells_len]; exact hlt)] at hj
        match j, hlt with
        | 0, _ => cases hj; exact h0
        | 1, _ => cases hj; exact h1
        | 2, _ => cases hj; exact h2
        | 3, _ => cases hj; exact h3
      · rw [List.getElem?_append_right (by rw [pCells_len]; omega), pCells_len] at hj
        have := e3 _ _ hj
        rw [show off + 4 + (j - 4) = off + j by omega] at this
        exact this
theorem Tms.pairs {w : World} {v : Value} {l : List Tm} (h : Tms w v l) : ∃ (ps : List TmP) (a : Option Addr) (c : Nat), v = .slice a l.length c ∧ ps.length = l.length ∧ ps.map (·.1) = l ∧ (∀ p ∈ ps, TmV w p.1 (pVal p)) ∧ l.length * 56 ≤ BIG ∧ (l.length = 0 ∨ ∃ ad, a = some ad ∧ ∀ j u, (ps.flatMap pCells)[j]? = some u → w.cell? (ad.add j) = some u) := by
  obtain ⟨a, c, h1, h2, h3, h4, h5⟩ := h
  rcases h5 with rfl | ⟨b, off, rfl, hb, hr⟩
  · exact ⟨[], a, c, h1, rfl, rfl, fun p h => by simp at h, h4, Or.inl rfl⟩
  · obtain ⟨ps, e1, e2, e3⟩ := hr.pairs
    exact ⟨ps, _, c, h1, by rw [← e1, List.length_map], e1, e2, h4, Or.inr ⟨_, rfl, fun j u hj => by rw [add_plain]; exact e3 j u hj⟩⟩
theorem infoTerm : (Try.prog.info? 31).map (fun i => (i.zero, i.size, i.bytes)) = some (some (.agg #[.int .i64 0, .int .i64 0, .string ⟨#[]⟩, .slice none 0 0]), 4, 56) := by kernel_rfl
theorem leaf_tm (w : World) {k n : Int} {s : ByteArray} (hk : I64 k) (hn : I64 n) (hs : s.size ≤ BIG) : TmV w (.mk k n s []) (.agg #[.int .i64 k, .int .i64 n, .string s, .slice none 0 0]) :=
  tmV_iff.2 ⟨_, rfl, hs, hk, hn, Tms.nil w⟩
def intT (n : Int) : Tm := .mk 1 n ⟨#[]⟩ []
def atomT (s : ByteArray) : Tm := .mk 2 0 s []
theorem i64_0 : I64 0 := by unfold I64; omega
theorem i64_1 : I64 1 := by unfold I64; omega
theorem i64_2 : I64 2 := by unfold I64; omega
theorem var_at (w : World) (n : Int) : Calls Try.prog 9 #[.int .i64 n] w fun e w' => e = .returned (.agg #[.int .i64 0, .int .i64 n, .string ⟨#[]⟩, .slice none 0 0]) ∧ Below w.heap.size w w' := by
  go_enter Try.func9, Try.ntmps9
  go_wp2
  refine bodyPost_ret (v := .agg #[.int .i64 0, .int .i64 n, .string ⟨#[]⟩, .slice none 0 0]) (by rw [results_cell1 rfl]; go_simp) rfl ⟨rfl, ?_⟩
  exact bel1' _ _
theorem int_at (w : World) (n : Int) : Calls Try.prog 10 #[.int .i64 n] w fun e w' => e = .returned (.agg #[.int .i64 1, .int .i64 n, .string ⟨#[]⟩, .slice none 0 0]) ∧ Below w.heap.size w w' := by
  go_enter Try.func10, Try.ntmps10
  go_wp2
  refine bodyPost_ret (v := .agg #[.int .i64 1, .int .i64 n, .string ⟨#[]⟩, .slice none 0 0]) (by rw [results_cell1 rfl]; go_simp) rfl ⟨rfl, ?_⟩
  exact bel1' _ _
theorem atom_at (w : World) (s : ByteArray) : Calls Try.prog 11 #[.string s] w fun e w' => e = .returned (.agg #[.int .i64 2, .int .i64 0, .string s, .slice none 0 0]) ∧ Below w.heap.size w w' := by
  go_enter Try.func11, Try.ntmps11
  go_wp2
  refine bodyPost_ret (v := .agg #[.int .i64 2, .int .i64 0, .string s, .slice none 0 0]) (by rw [results_cell1 rfl]; go_simp) rfl ⟨rfl, ?_⟩
  exact bel1' _ _
theorem css {w : World} {a : Addr} {u v : Value} (h : w.cell? a = some u) : (w.setCell a v).cell? a = some v := by apply World.cell?_setCell_same; exact h
/-- Four cells of a box set one behind the other. -/
def setFour (w : World) (B : Nat) (v0 v1 v2 v3 : Value) : World := (((w.setCell ⟨B, 0, none⟩ v0).setCell ⟨B, 1, none⟩ v1).setCell ⟨B, 2, none⟩ v2).setCell ⟨B, 3, none⟩ v3
theorem four_below {w0 w : World} {D B : Nat} (v0 v1 v2 v3 : Value) (h : Below D w0 w) (hB : D ≤ B) : Below D w0 (setFour w B v0 v1 v2 v3) :=
  (((h.setCell (p := ⟨B, 0, none⟩) hB v0).setCell (p := ⟨B, 1, none⟩) hB v1).setCell (p := ⟨B, 2, none⟩) hB v2).setCell (p := ⟨B, 3, none⟩) hB v3
theorem four_row {w : World} {base B n k : Nat} {e : TypeId} {v : Value} {xs : List Value} (v0 v1 v2 v3 : Value) (h : w.ownsRow base e k v n xs) (hB : B < base) : (setFour w B v0 v1 v2 v3).ownsRow base e k v n xs :=
  ownsRow_setCell_below (ownsRow_setCell_below (ownsRow_setCell_below (ownsRow_setCell_below h (a := ⟨B, 0, none⟩) hB v0) (a := ⟨B, 1, none⟩) hB v1) (a := ⟨B, 2, none⟩) hB v2) (a := ⟨B, 3, none⟩) hB v3
theorem four_kept {w w4 : World} {c0 c1 c2 c3 : Value} {ty : TypeId} (h : w4.heap[w.heap.size]? = (w.alloc (.cells #[c0, c1, c2, c3] ty)).heap[w.heap.size]?) :
    w4.cell? ⟨w.heap.size, 0, none⟩ = some c0 ∧ w4.cell? ⟨w.heap.size, 1, none⟩ = some c1 ∧ w4.cell? ⟨w.heap.size, 2, none⟩ = some c2 ∧ w4.cell? ⟨w.heap.size, 3, none⟩ = some c3 ∧ ∀ j, w4.frozen? ⟨w.heap.size, j, none⟩ = false := by
  refine ⟨?_, ?_, ?_, ?_, fun j => ?_⟩
  · rw [World.cell?_of_block (w := w.alloc (.cells #[c0, c1, c2, c3] ty)) h]; simp
  · rw [World.cell?_of_block (w := w.alloc (.cells #[c0, c1, c2, c3] ty)) h]; simp
  · rw [World.cell?_of_block (w := w.alloc (.cells #[c0, c1, c2, c3] ty)) h]; simp
  · rw [World.cell?_of_block (w := w.alloc (.cells #[c0, c1, c2, c3] ty)) h]; simp
  · rw [World.frozen?_of_block (w := w.alloc (.cells #[c0, c1, c2, c3] ty)) h]; simp
set_option maxHeartbeats 2000000 in
theorem comp_ps {w : World} {ao : Option Addr} {m c : Nat} (ps : List TmP) (s : ByteArray) (hpl : ps.length = m) (hbig : m * 56 ≤ BIG) (hone : ∀ u ∈ ps.flatMap pCells, u.oneCell' = true)
    (hsrc : m = 0 ∨ ∃ ad, ao = some ad ∧ ∀ j u, (ps.flatMap pCells)[j]? = some u → w.cell? (ad.add j) = some u) :
    Calls Try.prog 12 #[.string s, .slice ao m c] w fun e w' => ∃ a c', e = .returned (.agg #[.int .i64 2, .int .i64 0, .string s, .slice a m c']) ∧ RowP w' (w.heap.size + 1) 31 (.slice a m c') ps ∧ Below w.heap.size w w' := by
  obtain ⟨i0, hi0, hz0, hs0, hb0⟩ := info_parts infoTerm
  have hfl : (ps.flatMap pCells).length = m * 4 := by rw [flat_len pCells_len, hpl]
  have HPL := Lib.hid hpl
  unfold BIG at hbig
  obtain ⟨news, hnews⟩ : ∃ news, ps.flatMap pCells = news := ⟨_, rfl⟩
  rw [hnews] at hfl hone hsrc
  have HN := Lib.hid hnews
  have hsrc' : m = 0 ∨ ∃ ad, ao = some ad ∧ ∀ j u, news[j]? = some u → (w.alloc (.cells #[.int .i64 0, .int .i64 0, .string ⟨#[]⟩, .slice none 0 0] 31)).cell? (ad.add j) = some u := by
    rcases hsrc with h | ⟨ad, e, h⟩
    · exact Or.inl h
    · exact Or.inr ⟨ad, e, fun j u hj => Lib.cell?_alloc_some _ (h j u hj)⟩
  clear hpl hnews hsrc
  go_enter Try.func12, Try.ntmps12
  go_wp2_with (at_builtin; refine wpList_append_k rfl _ _ 29 rfl (w.heap.size + 1) 31 i0 (.agg #[.int .i64 0, .int .i64 0, .string ⟨#[]⟩, .slice none 0 0]) 4 56 Try.underlying29 hi0 hz0 hs0 (by decide) hb0 rfl (.slice none 0 0) 0 [] rfl (World.ownsRow_nil _ _ _ _) ao m c news rfl hfl hsrc' hone (by unfold maxLen; omega) (by omega) (by simp) m news (by omega) rfl ?_; intro a4 c4 w4 hown4 hgrow4 hat4; obtain ⟨e0, e1, e2, e3, g0⟩ := four_kept (hgrow4.block w.heap.size (by simp) (by simp [Value.ownBlock])))
  have hB : Below w.heap.size w w4 := (bel1' w _).grown hgrow4 (by simp) (fun q hq => by simp [Value.ownBlock] at hq)
  refine bodyPost_ret (v := .agg #[.int .i64 2, .int .i64 0, .string s, .slice a4 m c4]) (by rw [results_cell1 rfl]; go_simp) rfl ⟨a4, c4, rfl, ?_⟩
  have hF : Below w.heap.size w (setFour w4 w.heap.size (.int .i64 2) (.int .i64 0) (.string s) (.slice a4 m c4)) := four_below _ _ _ _ hB (Nat.le_refl _)
  refine ⟨?_, hF⟩
  unfold RowP
  rw [HPL.out, HN.out]
  exact four_row _ _ _ _ hown4 (by omega)
theorem comp_at {w : World} {v : Value} {l : List Tm} (s : ByteArray) (hs : s.size ≤ BIG) (h : Tms w v l) :
    Calls Try.prog 12 #[.string s, v] w fun e w' => ∃ a c, e = .returned (.agg #[.int .i64 2, .int .i64 0, .string s, .slice a l.length c]) ∧ TmV w' (.mk 2 0 s l) (.agg #[.int .i64 2, .int .i64 0, .string s, .slice a l.length c]) ∧ Below w.heap.size w w' := by
  obtain ⟨ps, ao, c, rfl, hpl, hpm, hpa, hbig, hsrc⟩ := h.pairs
  refine (comp_ps (c := c) ps s hpl hbig (pCells_one ps hpa) hsrc).mono ?_
  rintro e w' ⟨a, c', rfl, hR, hB⟩
  refine ⟨a, c', rfl, ?_, hB⟩
  have hT := hR.terms (fun p hp => TmV.ext hB _ _ (hpa p hp)) (by rw [hpl]; exact hbig)
  rw [hpm] at hT
  exact tmV_iff.2 ⟨_, rfl, hs, i64_2, i64_0, hT⟩
end Go.Proofs.Ytannchfoldnhcaa
/- Chapter 15, the document's own example: pure. Nothing here is walked. -/
namespace Go.Proofs.Ytannchfoldnhcaa
set_option linter.unusedVariables false

def p15S : ByteArray := ⟨#[112]⟩
def f15S : ByteArray := ⟨#[102]⟩
def k15T : Tm := nameT p15S [varV 9, nameT f15S [varV 9]]
def k15C : CodeM := ⟨2, 1, 3, [⟨opVar, 0, 0, 0, 0, ⟨#[]⟩⟩, ⟨opComp, 1, 1, 2, 0, f15S⟩, ⟨opVal, 2, 0, 0, 0, ⟨#[]⟩⟩]⟩
theorem k15C_t : goodT k15T = true := by decide +kernel
theorem k15C_head : headCE k15T = (k15C, 0) := by
  unfold headCE
  rw [if_pos ⟨k15C_t, rfl⟩]
  rfl
end Go.Proofs.Ytannchfoldnhcaa
/- Chapter 15, Match over a head's steps: what each step asks, and that it is enough. Nothing here is walked. -/
namespace Go.Proofs.Ytannchfoldnhcaa
set_option linter.unusedVariables false

theorem pos_get8 {l : List Int} (hn : l.Nodup) {j : Nat} (hj : j < l.length) : posI l l[j] = j := by
  have e := congrArg (fun r : List Int => r[j]?) (pos_row hn 0)
  simp [hj] at e
  omega
/-- The head's Args, its variables as slots. -/
def hArgs (t : Tm) : List Tm := subL (renV (varsT t []) 0) t.args
structure MQ (t : Tm) (i nx K : Nat) (q : List Tm) (seen : List Int) (sl : Int → Option Tm) : Prop where
  flat : (headC t).l.drop i = flatI (varsT t []) K q i nx seen
  size : sizesN q ≤ K
  len : nx = i + q.length
  formed : formedL q = true
  inv : ∀ n ∈ occL q, n ∈ varsT t []
  sv : ∀ n ∈ seen, n ∈ varsT t []
  slo : ∀ n ∈ varsT t [], ((sl (slotI (varsT t []) n)).isSome = true ↔ n ∈ seen)
  dom : ∀ v x, sl v = some x → ∃ n ∈ varsT t [], v = slotI (varsT t []) n
  cover : ∀ n ∈ varsT t [], n ∈ seen ∨ n ∈ occL q
/-- i steps are done; these registers have been given, these slots met. -/
def MAt (S0 : List (Int × Tm)) (N0 : Nat) (args : List Tm) (t : Tm) (i : Nat) (regs : List Tm) (sl : Int → Option Tm) (N : Nat) (S : List (Int × Tm)) : Prop :=
  ∃ K q seen, MQ t i regs.length K q seen sl ∧ MInv S0 N0 args (hArgs t) (subL (renV (varsT t []) 0) q) (regs.drop i) sl N S
section
variable {S0 : List (Int × Tm)} {N0 : Nat} {args regs : List Tm} {sl : Int → Option Tm} {N : Nat} {S : List (Int × Tm)} {t : Tm} {i : Nat}
theorem MAt.start (hf : formedT t = true) (hk : t.k = 2) (hl : args.length = t.args.length) (h : OkS N0 S0) (ht : ∀ m : Int, (N0 : Int) ≤ m → fullB S0 m = varV m) (ha : InNs N0 args) : MAt S0 N0 args t 0 args (fun _ => none) N0 S0 := by
  have hv : ∀ n, n ∈ varsT t [] ↔ n ∈ occL t.args := fun n => by
    rw [mem_vars2, occ_kids hf]
    simp [hk]
  refine ⟨sizesN t.args, t.args, [], ⟨?_, Nat.le_refl _, by omega, formed_argsL hf, fun n hn => (hv n).2 hn, fun n hn => (by cases hn), fun n _ => (by simp), fun v x e => (by cases e), fun n hn => Or.inr ((hv n).1 hn)⟩, ?_⟩
  · rw [List.drop_zero, hl]; rfl
  · rw [List.drop_zero]; exact MInv.start h ht ha
theorem MAt.step (h : MAt S0 N0 args t i regs sl N S) (hi : i < (headC t).l.length) : ∃ (r t' : Tm) (q : List Tm) (seen : List Int), regs[i]? = some r ∧ InN N r ∧ (headC t).l[i]? = some (stepI (varsT t []) seen i regs.length t') ∧ formedT t' = true ∧ (∀ n ∈ occT t', n ∈ varsT t []) ∧ (∀ n ∈ varsT t [], ((sl (slotI (varsT t []) n)).isSome = true ↔ n ∈ seen)) ∧ (∀ v x, sl v = some x → ∃ n ∈ varsT t [], v = slotI (varsT t []) n) ∧
    MInv S0 N0 args (hArgs t) (subT (renV (varsT t []) 0) t' :: q) (r :: regs.drop (i + 1)) sl N S ∧
    ∀ (us : List Tm) (sl' : Int → Option Tm) (N' : Nat) (S' : List (Int × Tm)), us.length = t'.args.length → (∀ n ∈ varsT t [], ((sl' (slotI (varsT t []) n)).isSome = true ↔ n ∈ seenI seen t')) → (∀ v x, sl' v = some x → ∃ n ∈ varsT t [], v = slotI (varsT t []) n) →
      MInv S0 N0 args (hArgs t) (q ++ subL (renV (varsT t []) 0) t'.args) (regs.drop (i + 1) ++ us) sl' N' S' → MAt S0 N0 args t (i + 1) (regs ++ us) sl' N' S' := by
  obtain ⟨K, q0, seen, hq, hm⟩ := h
  have hpos : 0 < ((headC t).l.drop i).length := by rw [List.length_drop]; omega
  cases q0 with
  | nil =>
    rw [hq.flat, cflat_size _ _ _ _ _ _ hq.size, sizesN] at hpos
    omega
  | cons t' q =>
    have hs := hq.size
    have hp := size_pos t'
    rw [sizesN] at hs
    cases K with
    | zero => omega
    | succ K =>
      have hfl := hq.flat
      rw [flatI] at hfl
      have hlen := hq.len
      rw [List.length_cons] at hlen
      have hir : i < regs.length := by omega
      have hkid := size_kids t'
      have hfm := hq.formed
      rw [formedL, Bool.and_eq_true] at hfm
      rw [List.drop_eq_getElem_cons hir, subL] at hm
      have hocc : ∀ n, n ∈ occL (t' :: q) ↔ n ∈ occT t' ∨ n ∈ occL q := fun n => by rw [occL, List.mem_append]
      refine ⟨regs[i], t', subL (renV (varsT t []) 0) q, seen, List.getElem?_eq_getElem hir, hm.reg _ List.mem_cons_self, ?_, hfm.1, fun n hn => hq.inv n ((hocc n).2 (Or.inl hn)), hq.slo, hq.dom, hm, fun us sl' N' S' hu h1 h2 h3 => ?_⟩
      · have e := congrArg (fun l => l[0]?) hfl
        simpa [List.getElem?_drop] using e
      · refine ⟨K, q ++ t'.args, seenI seen t', ⟨?_, ?_, ?_, ?_, fun n hn => ?_, fun n hn => ?_, h1, h2, fun n hn => ?_⟩, ?_⟩
        · have e := congrArg (fun l => l.drop 1) hfl
          simp only [List.drop_drop, List.drop_succ_cons, List.drop_zero] at e
          rw [e, List.length_append, hu]
        · rw [sizes_app]; omega
        · rw [List.length_append, List.length_append, hu]; omega
        · rw [formedL_app, hfm.2, formed_argsL hfm.1]; rfl
        · rw [occL_app, List.mem_append] at hn
          exact hq.inv n ((hocc n).2 (hn.elim Or.inr fun hn => Or.inl ((occ_kids hfm.1).2 (Or.inr hn))))
        · rcases mem_seenI.1 hn with hn | ⟨hk, rfl⟩
          · exact hq.sv n hn
          · exact hq.inv _ ((hocc _).2 (Or.inl ((occ_kids hfm.1).2 (Or.inl ⟨hk, rfl⟩))))
        · rcases hq.cover n hn with hc | hc
          · exact Or.inl (mem_seenI.2 (Or.inl hc))
          · rcases (hocc n).1 hc with hc | hc
            · rcases (occ_kids hfm.1).1 hc with hc | hc
              · exact Or.inl (mem_seenI.2 (Or.inr hc))
              · exact Or.inr (by rw [occL_app, List.mem_append]; exact Or.inr hc)
            · exact Or.inr (by rw [occL_app, List.mem_append]; exact Or.inl hc)
        · have e1 : subL (renV (varsT t []) 0) (q ++ t'.args) = subL (renV (varsT t []) 0) q ++ subL (renV (varsT t []) 0) t'.args := by rw [subL_map, subL_map, subL_map, List.map_append]
          rw [e1, List.drop_append_of_le_length (by omega)]
          exact h3
/-- No step is left. -/
theorem MAt.done {L : List Tm} (h : MAt S0 N0 args t i regs sl N S) (hi : (headC t).l.length ≤ i) (hL : L.length = (varsT t []).length) (hsl : ∀ v x, sl v = some x → L[v.toNat]? = some x) : MYes S0 N0 args (hArgs t) (varsT t []).length N S L := by
  obtain ⟨K, q, seen, hq, hm⟩ := h
  have h0 : ((headC t).l.drop i).length = 0 := by rw [List.length_drop]; omega
  rw [hq.flat, cflat_size _ _ _ _ _ _ hq.size] at h0
  cases q with
  | cons x r => rw [sizesN] at h0; have := size_pos x; omega
  | nil =>
    have hlen := hq.len
    rw [subL, List.drop_eq_nil_of_le (by simp at hlen; omega)] at hm
    refine hm.done hL fun v x => ⟨fun e => ?_, fun ⟨h1, h2⟩ => ?_⟩
    · obtain ⟨n, _, rfl⟩ := hq.dom v x e
      exact ⟨by unfold slotI; omega, hsl _ x e⟩
    · have hv : v.toNat < (varsT t []).length := by rw [← hL]; exact (List.getElem?_eq_some_iff.1 h2).1
      have hmem : (varsT t [])[v.toNat] ∈ varsT t [] := List.getElem_mem hv
      have hslot : slotI (varsT t []) (varsT t [])[v.toNat] = v := by
        unfold slotI
        rw [pos_get8 (vars_nodup t [] List.nodup_nil) hv]
        omega
      have hs := (hq.slo _ hmem).2 ((hq.cover _ hmem).elim id fun hc => by rw [occL] at hc; cases hc)
      rw [hslot] at hs
      obtain ⟨y, hy⟩ := Option.isSome_iff_exists.1 hs
      have := hsl v y hy
      rw [h2] at this
      cases this
      exact hy
end
end Go.Proofs.Ytannchfoldnhcaa
/- Chapter 15, Match over a head's steps: each step by what it says. Nothing here is walked. -/
namespace Go.Proofs.Ytannchfoldnhcaa
set_option linter.unusedVariables false

section
variable (S0 : List (Int × Tm)) (N0 : Nat) (args regs : List Tm) (sl : Int → Option Tm) (N : Nat) (S : List (Int × Tm)) (t : Tm) (i : Nat) (r : Tm) (x : InsM)
/-- A slot for the first time. -/
def StVar : Prop := x.op = opVar ∧ sl x.b = none ∧ 0 ≤ x.b ∧ x.b < (varsT t []).length ∧ MAt S0 N0 args t (i + 1) regs (setO sl x.b r) N S
/-- A slot that was met. -/
def StVal : Prop := x.op = opVal ∧ 0 ≤ x.b ∧ x.b < (varsT t []).length ∧ ∃ y, sl x.b = some y ∧ InN N y ∧ ∀ res, uniT 2000 S r y 0 = res ∨ uniT 2000 S y r 0 = res → res.cost ≤ 2000 →
  (res.ok = true → ∀ S', fullB S' = fullB res.set → OkS N S' → (∀ m : Int, (N : Int) ≤ m → fullB S' m = varV m) → MAt S0 N0 args t (i + 1) regs sl N S') ∧ (res.ok = false → MNo S0 N0 args (hArgs t))
/-- A number, a name without Args. -/
def StCon : Prop := ∃ T, conT T ∧ ((x.op = opInt ∧ T = intT x.n) ∨ (x.op = opAtom ∧ T = atomT x.s)) ∧
  (subT (fullB S) T = subT (fullB S) r → MAt S0 N0 args t (i + 1) regs sl N S) ∧
  (∀ y, InN N y → subT (fullB S) y = subT (fullB S) r → ¬ y.k = 0 → ¬ y = T → MNo S0 N0 args (hArgs t)) ∧
  (∀ n y, 0 ≤ n → n < (N : Int) → fullB S n = varV n → subT (fullB S) (varV n) = subT (fullB S) r → (subT (fullB S) y = subT (fullB S) T → MAt S0 N0 args t (i + 1) regs sl N ((n, y) :: S))) ∧
  ∀ res, uniT 2000 S r T 0 = res → res.cost ≤ 2000 → (res.ok = true → ∀ S', fullB S' = fullB res.set → OkS N S' → (∀ m : Int, (N : Int) ≤ m → fullB S' m = varV m) → MAt S0 N0 args t (i + 1) regs sl N S') ∧ (res.ok = false → MNo S0 N0 args (hArgs t))
/-- A name of so many Args. -/
def StComp : Prop := x.op = opComp ∧ ∃ k : Nat, x.b = (k : Int) ∧ 1 ≤ k ∧ k ≤ 8 ∧ x.c = (regs.length : Int) ∧ (∀ us : List Tm, us.length = k → formedL us = true → formedT (nameT x.s us) = true) ∧
  (∀ us, InN N (nameT x.s us) → subT (fullB S) (nameT x.s us) = subT (fullB S) r → us.length = k → MAt S0 N0 args t (i + 1) (regs ++ us) sl N S) ∧
  (∀ y, InN N y → subT (fullB S) y = subT (fullB S) r → ¬ y.k = 0 → ¬ (y.k = 2 ∧ y.s = x.s ∧ y.args.length = k) → MNo S0 N0 args (hArgs t)) ∧
  ∀ n y, N + k ≤ 65536 → 0 ≤ n → n < (N : Int) → fullB S n = varV n → subT (fullB S) (varV n) = subT (fullB S) r → subT (fullB S) y = subT (fullB S) (nameT x.s (freshL N k)) → OkS (N + k) ((n, y) :: S) → MAt S0 N0 args t (i + 1) (regs ++ freshL N k) sl (N + k) ((n, y) :: S)
end
section
variable {S0 : List (Int × Tm)} {N0 : Nat} {args regs : List Tm} {sl : Int → Option Tm} {N : Nat} {S : List (Int × Tm)} {t : Tm} {i : Nat}
theorem pos_lt8 : ∀ {l : List Int} {m : Int}, m ∈ l → posI l m < l.length
  | [], m, h => by cases h
  | x :: r, m, h => by
    rw [posI, List.length_cons]
    by_cases hx : x = m
    · rw [if_pos hx]; omega
    · rw [if_neg hx]
      rcases List.mem_cons.1 h with h | h
      · exact absurd h.symm hx
      · have := pos_lt8 h; omega
theorem MInv.con_uni {hargs q rs : List Tm} {r T : Tm} {S' : List (Int × Tm)} {res : URes} (h : MInv S0 N0 args hargs (T :: q) (r :: rs) sl N S) (hT : conT T) (hres : uniT 2000 S r T 0 = res) (hok : res.ok = true) (hset : fullB S' = fullB res.set) (hoks : OkS N S') (htop : ∀ m : Int, (N : Int) ≤ m → fullB S' m = varV m) : MInv S0 N0 args hargs q rs sl N S' := by
  subst hres
  exact h.uni (y := T) (con_inN hT) (uni_post 2000 S r T 0 h.oks (h.reg r (by simp)) (con_inN hT) (by omega) (by omega)) hok (fun m => by rw [hset]) hoks htop (fun A ρ _ => by rw [con_sub hT, con_sub hT])
theorem MInv.con_uni_no {hargs q rs : List Tm} {r T : Tm} {res : URes} (h : MInv S0 N0 args hargs (T :: q) (r :: rs) sl N S) (hT : conT T) (hres : uniT 2000 S r T 0 = res) (hok : res.ok = false) (hc : res.cost ≤ 2000) : MNo S0 N0 args hargs := by
  subst hres
  exact h.uni_no (y := T) (uni_post 2000 S r T 0 h.oks (h.reg r (by simp)) (con_inN hT) (by omega) (by omega)) hok hc (fun A ρ _ => by rw [con_sub hT, con_sub hT])
theorem con_way {t' r : Tm} {q : List Tm} {seen : List Int} {x : InsM} (hm : MInv S0 N0 args (hArgs t) (subT (renV (varsT t []) 0) t' :: q) (r :: regs.drop (i + 1)) sl N S) (hcon : conT t')
    (hnext : ∀ (us : List Tm) (sl' : Int → Option Tm) (N' : Nat) (S' : List (Int × Tm)), us.length = ([] : List Tm).length → (∀ n ∈ varsT t [], ((sl' (slotI (varsT t []) n)).isSome = true ↔ n ∈ seenI seen t')) → (∀ v x, sl' v = some x → ∃ n ∈ varsT t [], v = slotI (varsT t []) n) →
      MInv S0 N0 args (hArgs t) (q ++ subL (renV (varsT t []) 0) []) (regs.drop (i + 1) ++ us) sl' N' S' → MAt S0 N0 args t (i + 1) (regs ++ us) sl' N' S')
    (hslo : ∀ n ∈ varsT t [], ((sl (slotI (varsT t []) n)).isSome = true ↔ n ∈ seen)) (hdom : ∀ v x, sl v = some x → ∃ n ∈ varsT t [], v = slotI (varsT t []) n) (hop : (x.op = opInt ∧ t' = intT x.n) ∨ (x.op = opAtom ∧ t' = atomT x.s)) : StCon S0 N0 args regs sl N S t i r x := by
  have hseen : seenI seen t' = seen := by unfold seenI; rw [if_neg hcon.2.1]
  rw [hseen] at hnext
  rw [con_sub hcon] at hm
  have go : ∀ S', MInv S0 N0 args (hArgs t) q (regs.drop (i + 1)) sl N S' → MAt S0 N0 args t (i + 1) regs sl N S' := fun S' hS => by
    have := hnext [] sl N S' rfl hslo hdom (by rw [subL, List.append_nil, List.append_nil]; exact hS)
    rwa [List.append_nil] at this
  exact ⟨t', hcon, hop, fun h1 => go S (hm.con_same hcon h1), fun y h1 h2 h3 h4 => hm.con_not hcon h1 h2 h3 h4, fun n y h1 h2 h3 h4 h5 => go _ (hm.con_set hcon h1 h2 h3 h4 h5), fun res hres hcost => ⟨fun hok S' h1 h2 h3 => go _ (hm.con_uni hcon hres hok h1 h2 h3), fun hok => hm.con_uni_no hcon hres hok hcost⟩⟩
theorem MAt.ways (hg : goodT t = true) (h : MAt S0 N0 args t i regs sl N S) (hi : i < (headC t).l.length) : ∃ (r : Tm) (x : InsM), regs[i]? = some r ∧ InN N r ∧ (headC t).l[i]? = some x ∧ x.a = (i : Int) ∧
    (StVar S0 N0 args regs sl N S t i r x ∨ StVal S0 N0 args regs sl N S t i r x ∨ StCon S0 N0 args regs sl N S t i r x ∨ StComp S0 N0 args regs sl N S t i r x) := by
  obtain ⟨r, t', q, seen, hr, hrN, hx, hf, hocc, hslo, hdom, hm, hnext⟩ := h.step hi
  refine ⟨r, _, hr, hrN, hx, ?_, ?_⟩
  · unfold stepI
    repeat' split
    all_goals rfl
  · rcases formed_kids hf with ⟨hk, he⟩ | ⟨hk, he⟩ | ⟨hk, he⟩
    · have ha : t'.args = [] := by rw [he]; rfl
      have hn : t'.n ∈ varsT t [] := hocc _ (by rw [he, occ_varV]; exact List.mem_singleton.2 rfl)
      have hpl := pos_lt8 hn
      have hsub : subT (renV (varsT t []) 0) t' = varV (slotI (varsT t []) t'.n) := by
        conv => lhs; rw [he, sub_varV]
        unfold renV slotI
        rw [Int.zero_add]
      rw [hsub] at hm
      have hb : (stepI (varsT t []) seen i regs.length t').b = slotI (varsT t []) t'.n := by unfold stepI; rw [if_pos hk]; rfl
      rw [ha] at hnext
      have hst : stepI (varsT t []) seen i regs.length t' = ⟨if seen.contains t'.n then opVal else opVar, i, (posI (varsT t []) t'.n : Nat), 0, 0, ⟨#[]⟩⟩ := by unfold stepI; rw [if_pos hk]
      by_cases hc : seen.contains t'.n = true
      · refine Or.inr (Or.inl ⟨by rw [hst, hc]; rfl, by rw [hb]; unfold slotI; omega, by rw [hb]; unfold slotI; omega, ?_⟩)
        rw [hb]
        have hmem : t'.n ∈ seen := by simpa using hc
        obtain ⟨y, hy⟩ := Option.isSome_iff_exists.1 ((hslo _ hn).2 hmem)
        have hseen : seenI seen t' = seen := by unfold seenI; rw [if_pos hk, if_pos hc]
        rw [hseen] at hnext
        have go : ∀ S', MInv S0 N0 args (hArgs t) q (regs.drop (i + 1)) sl N S' → MAt S0 N0 args t (i + 1) regs sl N S' := fun S' hS => by
          have := hnext [] sl N S' rfl hslo hdom (by rw [subL, List.append_nil, List.append_nil]; exact hS)
          rwa [List.append_nil] at this
        refine ⟨y, hy, hm.slo _ y hy, fun res hres hcost => ⟨fun hok S' h1 h2 h3 => go S' ?_, fun hok => ?_⟩⟩
        · rcases hres with hres | hres
          · exact hm.val_at hy hres hok hcost h1 h2 h3
          · exact hm.val_at' hy hres hok hcost h1 h2 h3
        · rcases hres with hres | hres
          · exact hm.val_no hy hres hok hcost
          · exact hm.val_no' hy hres hok hcost
      · have hmem : ¬ t'.n ∈ seen := by simpa using hc
        have hnone : sl (slotI (varsT t []) t'.n) = none := by
          cases hs : sl (slotI (varsT t []) t'.n) with
          | none => rfl
          | some y => exact absurd ((hslo _ hn).1 (by rw [hs]; rfl)) hmem
        refine Or.inl ⟨by rw [hst]; exact if_neg hc, by rw [hb]; exact hnone, by rw [hb]; unfold slotI; omega, by rw [hb]; unfold slotI; omega, ?_⟩
        rw [hb]
        have hv := hm.var hnone
        have := hnext [] _ N S rfl (fun n hn2 => ?_) (fun v y e => ?_) (by rw [subL, List.append_nil, List.append_nil]; exact hv)
        · rwa [List.append_nil] at this
        · unfold setO
          rw [mem_seenI]
          by_cases hs : slotI (varsT t []) n = slotI (varsT t []) t'.n
          · rw [if_pos hs]
            have : n = t'.n := pos_inj hn2 hn (by unfold slotI at hs; omega)
            simp [this, hk]
          · rw [if_neg hs, hslo n hn2]
            exact ⟨Or.inl, fun h => h.elim id fun h => absurd (by rw [h.2]) hs⟩
        · unfold setO at e
          by_cases hs : v = slotI (varsT t []) t'.n
          · exact ⟨_, hn, hs⟩
          · rw [if_neg hs] at e; exact hdom v y e
    · have ha : t'.args = [] := by rw [he]; rfl
      have hcon : conT t' := ⟨hf, by omega, ha⟩
      refine Or.inr (Or.inr (Or.inl ?_))
      exact con_way hm hcon (by rw [ha] at hnext; exact hnext) hslo hdom (Or.inl ⟨by unfold stepI; rw [if_neg (by omega), if_pos hk], by unfold stepI; rw [if_neg (by omega), if_pos hk]; exact he⟩)
    · by_cases ha : t'.args = []
      · have hcon : conT t' := ⟨hf, by omega, ha⟩
        refine Or.inr (Or.inr (Or.inl ?_))
        have hst : stepI (varsT t []) seen i regs.length t' = ⟨opAtom, i, 0, 0, 0, t'.s⟩ := by unfold stepI; rw [if_neg (by omega), if_neg (by omega), if_pos (by rw [ha]; rfl)]
        refine con_way hm hcon (by rw [ha] at hnext; exact hnext) hslo hdom (Or.inr ⟨by rw [hst], ?_⟩)
        rw [hst]
        rw [ha] at he
        exact he
      · refine Or.inr (Or.inr (Or.inr ?_))
        have hlen : ¬ t'.args.length = 0 := fun e => ha (List.eq_nil_of_length_eq_zero e)
        have hst : stepI (varsT t []) seen i regs.length t' = ⟨opComp, i, (t'.args.length : Nat), (regs.length : Nat), 0, t'.s⟩ := by unfold stepI; rw [if_neg (by omega), if_neg (by omega), if_neg hlen]
        rw [hst]
        have hpk := plain_kids hf hk
        have hseen : seenI seen t' = seen := by unfold seenI; rw [if_neg (by omega)]
        rw [hseen] at hnext
        have hsub : subT (renV (varsT t []) 0) t' = nameT t'.s (subL (renV (varsT t []) 0) t'.args) := by
          conv => lhs; rw [he]
          exact sub_nameL _ _ _
        have hl : (subL (renV (varsT t []) 0) t'.args).length = t'.args.length := subL_len _ _
        rw [hsub] at hm
        have hform : ∀ us : List Tm, us.length = t'.args.length → formedL us = true → formedT (nameT t'.s us) = true := fun us h1 h2 => by
          have h3 := hf
          rw [he] at h3
          unfold nameT at h3 ⊢
          rw [formedT, Bool.and_eq_true] at h3 ⊢
          exact ⟨by rw [h1]; exact h3.1, h2⟩
        have hfr : formedT (nameT t'.s (subL (renV (varsT t []) 0) t'.args)) = true := by
          refine hform _ hl (formeds_sub _ (formed_argsL hf) fun m hm2 => ?_)
          have h1 : m ∈ varsT t [] := hocc m ((occ_kids hf).2 (Or.inr hm2))
          have h2 := pos_lt8 h1
          unfold renV
          exact var_formed (by omega) (by have h3 := cvars_len t []; have h4 := (good_parts hg).1; simp at h3; omega)
        refine ⟨rfl, t'.args.length, rfl, by omega, hpk.2, rfl, hform, fun us h1 h2 h3 => ?_, fun y h1 h2 h3 h4 => ?_, fun n y h1 h2 h3 h4 h5 h6 h7 => ?_⟩
        · exact hnext us sl N S h3 hslo hdom (hm.comp_at h1 h2 (by rw [hl]; exact h3))
        · exact hm.comp_not h1 h2 h3 (by rw [hl]; exact h4)
        · have hfl : (freshL N t'.args.length).length = t'.args.length := by unfold freshL; rw [List.length_map, List.length_range]
          have := hm.build_at (y := y) (by rw [hl]; exact h1) h2 h3 h4 h5 hfr (by rw [hl]; exact h6) (by rw [hl]; exact h7)
          rw [hl] at this
          exact hnext (freshL N t'.args.length) sl _ _ hfl hslo hdom this
end
end Go.Proofs.Ytannchfoldnhcaa
/- Chapter 15, Match's laws, their pure ends. Nothing here is walked. -/
namespace Go.Proofs.Ytannchfoldnhcaa
set_option linter.unusedVariables false

section
variable {t : Tm}
theorem hArgs_eq (hg : goodT t = true) (hk : t.k = 2) : renT 0 t = nameT t.s (hArgs t) ∧ (renT 0 t).args = hArgs t := by
  have he : t = nameT t.s t.args := by
    rcases formed_kids (good_parts hg).2.2 with ⟨h, _⟩ | ⟨h, _⟩ | ⟨_, h⟩
    · omega
    · omega
    · exact h
  have h0 : renT 0 t = nameT t.s (hArgs t) := by
    have h2 := sub_nameL (renV (varsT t []) 0) t.s t.args
    rw [← he] at h2
    exact h2
  exact ⟨h0, by rw [h0]; rfl⟩
theorem vars_le (hg : goodT t = true) : (varsT t []).length ≤ 2000 := by
  have h1 := cvars_len t []
  have h2 := (good_parts hg).1
  simp at h1
  omega
/-- CodeSelf's end. -/
theorem match_self15 {N N' : Nat} {S : List (Int × Tm)} {sl : List Tm} (hg : goodT t = true) (hk : t.k = 2) (hin : ∀ m ∈ varsT t [], 0 ≤ m ∧ m < (N : Int)) :
    ¬ MNo [] N t.args (hArgs t) ∧ (MYes [] N t.args (hArgs t) (varsT t []).length N' S sl → ∀ (i : Nat) (n : Int) (x : Tm), (varsT t [])[i]? = some n → sl[i]? = some x → subT (fullB S) x = fullB S n ∧ (subT (fullB S) x).k = 0) := by
  rw [← (hArgs_eq hg hk).2]
  exact match_self hg hk hin rfl
end
end Go.Proofs.Ytannchfoldnhcaa
