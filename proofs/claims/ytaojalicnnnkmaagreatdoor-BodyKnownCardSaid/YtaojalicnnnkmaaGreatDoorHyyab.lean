import Derived.Test.YtaojalicnnnkmaaGreatDoorHyyaa
import Derived.Maps.AppendAt
import Derived.Deep.Upon
import Derived.Deep.AppendSrc
import Derived.Laws.ResultCell
import Derived.Lib.Strings
import Derived.Deep.Quiet
import Derived.Below
import Derived.BigQuiet
set_option linter.unusedVariables false
set_option linter.unusedSimpArgs false
/- append of whatever slice to a row of the call's own, of elements of however many cells: also of nothing. Nothing here speaks of one program. -/
namespace Go.Proofs.YtaojalicnnnkmaaGreatDoor
open Go.RowKit

theorem row_formk {w : World} {b e sz n : Nat} {v : Value} {xs : List Value} (h : w.ownsRow b e sz v n xs) : ∃ a c, v = .slice a n c ∧ n ≤ c := by
  rcases h.2 with ⟨rfl, h0⟩ | ⟨g, cap, cur, rfl, _, _, h1, _⟩
  · exact ⟨none, 0, by rw [h0], by omega⟩
  · exact ⟨_, cap, rfl, h1⟩
section
variable {P : Program}
theorem run_append_k (w : World) (base : Nat) (t ty e : TypeId) (i : TypeInfo) (z : Value) (size bytes : Nat) (ht : P.underlying t = some (.slice e)) (hi : P.info? e = some i) (hz : i.zero = some z) (hsize : i.size = size) (hpos : 0 < size) (hby : i.bytes = bytes) (hzs : z.cells.size = size)
    (v : Value) (n : Nat) (xs : List Value) (hown : w.ownsRow base e size v n xs) (ao : Option Addr) (m c : Nat) (news : List Value) (hl : news.length = m * size)
    (hsrc : m = 0 ∨ ∃ ad, ao = some ad ∧ ∀ j u, news[j]? = some u → w.cell? (ad.add j) = some u) (h1 : ∀ u ∈ news, u.oneCell' = true)
    (h63 : n + m ≤ maxLen) (hbytes : (n + m) * bytes ≤ 140737488355328) (hbase : base ≤ w.heap.size) :
    ∃ v' w', (Builtin.append_ #[t, t] ty #[v, .slice ao m c]).run P w = .ok v' w' ∧ w'.ownsRow base e size v' (n + m) (xs ++ news) ∧ w.grownBy w' v.ownBlock ∧ (v'.ownBlock = v.ownBlock ∨ v'.ownBlock = some w.heap.size) := by
  by_cases hm : m = 0
  · subst hm
    obtain rfl : news = [] := List.length_eq_zero_iff.1 (by simpa using hl)
    obtain ⟨a, cc, rfl, hle⟩ := row_formk hown
    have hs : Src P i.size t (.slice ao 0 c) 0 [] w := by
      refine ⟨Or.inl ⟨e, ht⟩, fun w' => rfl, ?_, ?_, by simp, by simp⟩
      · cases ao with
        | none => rfl
        | some ad => exact run_firstCells_some w i.size 0 ad 0 c [] (by simp) (by simp)
      · cases ao with
        | none => rfl
        | some ad => exact run_firstCells_some w.drew i.size 0 ad 0 c [] (by simp) (by simp)
    exact ⟨_, w, run_append_nothing w t t ty e i ht hi a n cc hle _ hs, by simpa using hown, ⟨rfl, rfl, rfl, Nat.le_refl _, fun _ _ _ => rfl⟩, Or.inl rfl⟩
  · rcases hsrc with h0 | ⟨ad, rfl, hc⟩
    · exact absurd h0 hm
    obtain ⟨v', w', r1, r2, r3, _, r5⟩ := run_append_own_at (P := P) w base t ty e i z size bytes ht hi hz hsize hby hzs hpos v n xs hown ad m c news (by omega) hc h1 h63 hbytes hbase
    exact ⟨v', w', r1, r2, r3, r5⟩
theorem wp_append_k {w : World} {o : Oper} {a : Act} {K : Act → World → Prop} {Q : Exit → Act → World → Prop} (s x : Operand) (t : TypeId)
    (ho : o.op = .call { callee := .builtin .append, args := #[s, x], argTypes := #[t, t] })
    (base : Nat) (e : TypeId) (i : TypeInfo) (z : Value) (size bytes : Nat) (ht : P.underlying t = some (.slice e)) (hi : P.info? e = some i) (hz : i.zero = some z) (hsize : i.size = size) (hpos : 0 < size) (hby : i.bytes = bytes) (hzs : z.cells.size = size)
    (v : Value) (n : Nat) (xs : List Value) (hs : a.eval s = v) (hown : w.ownsRow base e size v n xs) (ao : Option Addr) (m c : Nat) (news : List Value) (hx : a.eval x = .slice ao m c) (hl : news.length = m * size)
    (hsrc : m = 0 ∨ ∃ ad, ao = some ad ∧ ∀ j u, news[j]? = some u → w.cell? (ad.add j) = some u) (h1 : ∀ u ∈ news, u.oneCell' = true)
    (h63 : n + m ≤ maxLen) (hbytes : (n + m) * bytes ≤ 140737488355328) (hbase : base ≤ w.heap.size) (N : Nat) (L : List Value) (hN : N = n + m) (hL : L = xs ++ news)
    (h : ∀ (a' : Option Addr) (c' : Nat) (w' : World), w'.ownsRow base e size (.slice a' N c') N L → w.grownBy w' v.ownBlock → ((Value.slice a' N c').ownBlock = v.ownBlock ∨ (Value.slice a' N c').ownBlock = some w.heap.size) → K (a.put o.dst (.slice a' N c')) w') : o.wp P a w K Q := by
  subst hN hL
  obtain ⟨v', w', hr, h2, h3, h4⟩ := run_append_k (P := P) w base t o.type e i z size bytes ht hi hz hsize hpos hby hzs v n xs hown ao m c news hl hsrc h1 h63 hbytes hbase
  obtain ⟨a', c', rfl, _⟩ := row_formk h2
  unfold Oper.wp execOp
  simp only [ho, resolve, invoke, builtin, Sem.run_bind, Sem.run_pure, Result.andThen_ok, List.map_toArray, List.map_cons, List.map_nil, hs, hx, hr]
  exact h a' c' w' h2 h3 h4
theorem step_append_k {w : World} {ops : Array Oper} {o : Oper} {a : Act} {K : Act → World → Prop} {Q : Exit → Act → World → Prop} {E : Prop} (hgd : o.guard = none) (s x : Operand) (t : TypeId)
    (ho : o.op = .call { callee := .builtin .append, args := #[s, x], argTypes := #[t, t] })
    (base : Nat) (e : TypeId) (i : TypeInfo) (z : Value) (size bytes : Nat) (ht : P.underlying t = some (.slice e)) (hi : P.info? e = some i) (hz : i.zero = some z) (hsize : i.size = size) (hpos : 0 < size) (hby : i.bytes = bytes) (hzs : z.cells.size = size)
    (v : Value) (n : Nat) (xs : List Value) (hs : a.eval s = v) (hown : w.ownsRow base e size v n xs) (ao : Option Addr) (m c : Nat) (news : List Value) (hx : a.eval x = .slice ao m c) (hl : news.length = m * size)
    (hsrc : m = 0 ∨ ∃ ad, ao = some ad ∧ ∀ j u, news[j]? = some u → w.cell? (ad.add j) = some u) (h1 : ∀ u ∈ news, u.oneCell' = true)
    (h63 : n + m ≤ maxLen) (hbytes : (n + m) * bytes ≤ 140737488355328) (hbase : base ≤ w.heap.size) (N : Nat) (L : List Value) (hN : N = n + m) (hL : L = xs ++ news)
    (h : ∀ (a' : Option Addr) (c' : Nat) (w' : World), w'.ownsRow base e size (.slice a' N c') N L → w.grownBy w' v.ownBlock → ((Value.slice a' N c').ownBlock = v.ownBlock ∨ (Value.slice a' N c').ownBlock = some w.heap.size) → K (a.put o.dst (.slice a' N c')) w') :
    if Region.wanted o (yielded ops a.tmps) = true then Oper.wp P o a w K Q else E := by
  have hw : Region.wanted o (yielded ops a.tmps) = true := by simp [Region.wanted, hgd]
  rw [if_pos hw]
  exact wp_append_k s x t ho base e i z size bytes ht hi hz hsize hpos hby hzs v n xs hs hown ao m c news hx hl hsrc h1 h63 hbytes hbase N L hN hL h
theorem wpList_append_k {w : World} {ops : Array Oper} {rest : List Oper} {o : Oper} {a : Act} {Q : Exit → Act → World → Prop} (hgd : o.guard = none) (s x : Operand) (t : TypeId)
    (ho : o.op = .call { callee := .builtin .append, args := #[s, x], argTypes := #[t, t] })
    (base : Nat) (e : TypeId) (i : TypeInfo) (z : Value) (size bytes : Nat) (ht : P.underlying t = some (.slice e)) (hi : P.info? e = some i) (hz : i.zero = some z) (hsize : i.size = size) (hpos : 0 < size) (hby : i.bytes = bytes) (hzs : z.cells.size = size)
    (v : Value) (n : Nat) (xs : List Value) (hs : a.eval s = v) (hown : w.ownsRow base e size v n xs) (ao : Option Addr) (m c : Nat) (news : List Value) (hx : a.eval x = .slice ao m c) (hl : news.length = m * size)
    (hsrc : m = 0 ∨ ∃ ad, ao = some ad ∧ ∀ j u, news[j]? = some u → w.cell? (ad.add j) = some u) (h1 : ∀ u ∈ news, u.oneCell' = true)
    (h63 : n + m ≤ maxLen) (hbytes : (n + m) * bytes ≤ 140737488355328) (hbase : base ≤ w.heap.size) (N : Nat) (L : List Value) (hN : N = n + m) (hL : L = xs ++ news)
    (h : ∀ (a' : Option Addr) (c' : Nat) (w' : World), w'.ownsRow base e size (.slice a' N c') N L → w.grownBy w' v.ownBlock → ((Value.slice a' N c').ownBlock = v.ownBlock ∨ (Value.slice a' N c').ownBlock = some w.heap.size) → wpList P ops Q rest (a.put o.dst (.slice a' N c')) w') :
    wpList P ops Q (o :: rest) a w := by
  refine wpList_plain hgd fun K hK => ?_
  exact wp_append_k s x t ho base e i z size bytes ht hi hz hsize hpos hby hzs v n xs hs hown ao m c news hx hl hsrc h1 h63 hbytes hbase N L hN hL (fun a' c' w' h2 h3 h4 => hK _ _ (h a' c' w' h2 h3 h4))
end
end Go.Proofs.YtaojalicnnnkmaaGreatDoor
/- A row of the call's own, of elements of S cells each, reads as its elements; what is appended to it. Nothing here speaks of one program. -/
namespace Go.Proofs.YtaojalicnnnkmaaGreatDoor
open Go.RowKit

section
variable {α : Type} {S : Nat} {cells : α → List Value}
theorem flat_len (hc : ∀ x, (cells x).length = S) (L : List α) : (L.flatMap cells).length = L.length * S := by
  induction L with
  | nil => simp
  | cons a r ih => rw [List.flatMap_cons, List.length_append, ih, hc, List.length_cons, Nat.add_mul, Nat.one_mul, Nat.add_comm]
theorem flat_get (hc : ∀ x, (cells x).length = S) : ∀ (L : List α) (i : Nat) (x : α), L[i]? = some x → ∀ j, j < S → (L.flatMap cells)[i * S + j]? = (cells x)[j]?
  | [], i, x, h, _, _ => by simp at h
  | a :: r, 0, x, h, j, hj => by
    simp at h
    subst h
    rw [List.flatMap_cons, Nat.zero_mul, Nat.zero_add, List.getElem?_append_left (by rw [hc]; exact hj)]
  | a :: r, i + 1, x, h, j, hj => by
    have e : (i + 1) * S + j = S + (i * S + j) := by rw [Nat.add_mul, Nat.one_mul]; omega
    rw [List.flatMap_cons, List.getElem?_append_right (by rw [hc, e]; omega), hc, e, Nat.add_sub_cancel_left]
    exact flat_get hc r i x (by simpa using h) j hj
/-- What the call owns reads as these. -/
theorem Elems.owned (hc : ∀ x, (cells x).length = S) {w : World} {B : Nat} {e : TypeId} {v : Value} {L : List α} (h : w.ownsRow B e S v L.length (L.flatMap cells)) : Elems S cells w v L := by
  rcases h.2 with ⟨rfl, h0⟩ | ⟨g, cap, cur, rfl, _, hg, h1, h2, h3, h4⟩
  · obtain rfl := List.length_eq_zero_iff.1 h0
    exact ⟨none, 0, rfl, Nat.le_refl _, Nat.zero_le _, Or.inl rfl⟩
  · refine ⟨_, cap, rfl, h1, h2, Or.inr ⟨g, 0, rfl, (Array.getElem?_eq_some_iff.1 hg).1, fun i x hx j u hu => ?_⟩⟩
    have hj : j < S := by have := (List.getElem?_eq_some_iff.1 hu).1; rwa [hc] at this
    have hi := (List.getElem?_eq_some_iff.1 hx).1
    have h5 := flat_get hc L i x hx j hj
    have hle : i * S + S ≤ L.length * S := by
      have : (i + 1) * S ≤ L.length * S := Nat.mul_le_mul_right _ hi
      rwa [Nat.add_mul, Nat.one_mul] at this
    rw [← h4, List.getElem?_take, if_pos (by omega), hu] at h5
    rw [Nat.zero_add, World.cell?, hg]
    simpa using h5
end
theorem cell_new (w : World) (cs : Array Value) (ty : TypeId) (j : Nat) (u : Value) (h : cs.toList[j]? = some u) : (w.alloc (.cells cs ty)).cell? ((⟨w.heap.size, 0, none⟩ : Addr).add j) = some u := by
  have h1 : (w.alloc (.cells cs ty)).heap[w.heap.size]? = some (.cells cs ty) := by
    show (w.heap.push _)[w.heap.size]? = _
    simp
  rw [add_plain, Nat.zero_add, World.cell?, h1]
  simpa using h
end Go.Proofs.YtaojalicnnnkmaaGreatDoor
/- A row of terms of the call's own; a term's fields. Nothing here speaks of one program. -/
namespace Go.Proofs.YtaojalicnnnkmaaGreatDoor
open Go.RowKit
set_option linter.unusedVariables false

theorem TmV.full {w : World} {x : Tm} {v : Value} (h : TmV w x v) : ∃ k n s a m c, v = .agg #[.int .i64 k, .int .i64 n, .string s, .slice a m c] := by
  cases x with
  | mk k n s ts =>
    obtain ⟨u, rfl, _, _, _, hu⟩ := tmV_iff.1 h
    obtain ⟨a, c, rfl, _⟩ := hu.len
    exact ⟨_, _, _, _, _, _, rfl⟩
/-- A term beside the value of its Args. -/
abbrev TmP := Tm × Value
def pCells (p : TmP) : List Value := [.int .i64 p.1.k, .int .i64 p.1.n, .string p.1.s, p.2]
def pVal (p : TmP) : Value := .agg #[.int .i64 p.1.k, .int .i64 p.1.n, .string p.1.s, p.2]
theorem pCells_len (p : TmP) : (pCells p).length = 4 := rfl
theorem TmV.pair {w : World} {x : Tm} {v : Value} (h : TmV w x v) : ∃ u, v = pVal (x, u) := by
  cases x with
  | mk k n s ts =>
    obtain ⟨u, rfl, _⟩ := tmV_iff.1 h
    exact ⟨u, rfl⟩
theorem pCells_one (L : List TmP) {w : World} (h : ∀ p ∈ L, TmV w p.1 (pVal p)) : ∀ u ∈ L.flatMap pCells, u.oneCell' = true := by
  intro u hu
  obtain ⟨p, hp, hx⟩ := List.mem_flatMap.1 hu
  have hv := h p hp
  obtain ⟨x, q⟩ := p
  cases x with
  | mk k n s ts =>
    obtain ⟨u', hu', _, _, _, hq⟩ := tmV_iff.1 hv
    have : u' = q := by
      simp only [pVal, Value.agg.injEq] at hu'
      have h2 := congrArg Array.toList hu'
      simp only [List.cons.injEq, and_true] at h2
      exact h2.2.2.2.symm
    subst this
    obtain ⟨a, c, rfl, _⟩ := hq.len
    simp [pCells] at hx
    rcases hx with rfl | rfl | rfl | rfl <;> rfl
def RowP (w : World) (base : Nat) (ty : TypeId) (v : Value) (ps : List TmP) : Prop := w.ownsRow base ty 4 v ps.length (ps.flatMap pCells)
/-- What the call owns reads as these terms. -/
theorem RowP.terms {w : World} {base : Nat} {ty : TypeId} {v : Value} {ps : List TmP} (h : RowP w base ty v ps) (hp : ∀ p ∈ ps, TmV w p.1 (pVal p)) (hl : ps.length * 56 ≤ BIG) : Tms w v (ps.map (·.1)) := by
  obtain ⟨a, c, rfl, h1, h2, h3⟩ := Elems.owned pCells_len h
  refine ⟨a, c, by rw [List.length_map], by rw [List.length_map]; exact h1, h2, by rw [List.length_map]; exact hl, ?_⟩
  rcases h3 with rfl | ⟨b, off, rfl, hb, hc⟩
  · left; rfl
  · refine Or.inr ⟨b, off, rfl, hb, TmRow.mk fun i x hx => ?_⟩
    rw [List.getElem?_map] at hx
    obtain ⟨p, hpi, rfl⟩ := Option.map_eq_some_iff.1 hx
    have hv := hp p (List.mem_of_getElem? hpi)
    exact ⟨_, _, _, _, hc i p hpi 0 _ rfl, by rw [Nat.add_assoc]; exact hc i p hpi 1 _ rfl, by rw [Nat.add_assoc]; exact hc i p hpi 2 _ rfl, by rw [Nat.add_assoc]; exact hc i p hpi 3 _ rfl, hv⟩
end Go.Proofs.YtaojalicnnnkmaaGreatDoor
/- Package term: the makers, Comp, Size. -/
namespace Go.Proofs.YtaojalicnnnkmaaGreatDoor
open Go.RowKit
set_option linter.unusedVariables false

theorem results_cell1 {fn : Func} {p : Tmp} {ty : TypeId} (h : fn.results = #[.cell p ty]) (tmps : Array Value) (P : Program) (w : World) :
    (results fn tmps).run P w = ((asAddr (tmps.getD p undef)).run P w).andThen fun a w₁ => (loadVar ty a).run P w₁ := by
  simp only [results, h]
  simp [Sem.run_bind, Result.andThen]
/-- The row that is read, beside the values of the Args. -/
theorem TmRow.pairs {w : World} : ∀ {l : List Tm} {b off : Nat}, TmRow w l b off → ∃ ps : List TmP, ps.map (·.1) = l ∧ (∀ p ∈ ps, TmV w p.1 (pVal p)) ∧ ∀ j u, (ps.flatMap pCells)[j]? = some u → w.cell? ⟨b, off + j, none⟩ = some u
  | [], b, off, _ => ⟨[], rfl, fun p h => by simp at h, fun j u h => by simp at h⟩
  | x :: r, b, off, h => by
    rw [TmRow] at h
    obtain ⟨⟨c0, c1, c2, c3, h0, h1, h2, h3, h4⟩, h5⟩ := h
    obtain ⟨ps, e1, e2, e3⟩ := TmRow.pairs h5
    obtain ⟨u, hu⟩ := h4.pair
    rw [hu] at h4
    simp only [pVal, Value.agg.injEq] at hu
    have h2' := congrArg Array.toList hu
    simp only [List.cons.injEq, and_true] at h2'
    obtain ⟨rfl, rfl, rfl, rfl⟩ := h2'
    refine ⟨(x, c3) :: ps, by simp [e1], fun p hp => ?_, fun j u hj => ?_⟩
    · rcases List.mem_cons.1 hp with rfl | hp
      · exact h4
      · exact e2 p hp
    · rw [List.flatMap_cons] at hj
      by_cases hlt : j < 4
      · rw [List.getElem?_append_left (by rw [pCells_len]; exact hlt)] at hj
        match j, hlt with
        | 0, _ => cases hj; exact h0
        | 1, _ => cases hj; exact h1
        | 2, _ => cases hj; exact h2
        | 3, _ => cases hj; exact h3
      · rw [List.getElem?_append_right (by rw [pCells_len]; omega), pCells_len] at hj
        have := e3 _ _ hj
        rw [show off + 4 + (j - 4) = off + j by omega] at this
        exact this
theorem Tms.pairs {w : World} {v : Value} {l : List Tm} (h : Tms w v l) : ∃ (ps : List TmP) (a : Option Addr) (c : Nat), v = .slice a l.length c ∧ ps.length = l.length ∧ ps.map (·.1) = l ∧ (∀ p ∈ ps, TmV w p.1 (pVal p)) ∧ l.length * 56 ≤ BIG ∧ (l.length = 0 ∨ ∃ ad, a = some ad ∧ ∀ j u, (ps.flatMap pCells)[j]? = some u → w.cell? (ad.add j) = some u) := by
  obtain ⟨a, c, h1, h2, h3, h4, h5⟩ := h
  rcases h5 with rfl | ⟨b, off, rfl, hb, hr⟩
  · exact ⟨[], a, c, h1, rfl, rfl, fun p h => by simp at h, h4, Or.inl rfl⟩
  · obtain ⟨ps, e1, e2, e3⟩ := hr.pairs
    exact ⟨ps, _, c, h1, by rw [← e1, List.length_map], e1, e2, h4, Or.inr ⟨_, rfl, fun j u hj => by rw [add_plain]; exact e3 j u hj⟩⟩
theorem infoTerm : (Tryz.prog.info? 31).map (fun i => (i.zero, i.size, i.bytes)) = some (some (.agg #[.int .i64 0, .int .i64 0, .string ⟨#[]⟩, .slice none 0 0]), 4, 56) := by kernel_rfl
theorem leaf_tm (w : World) {k n : Int} {s : ByteArray} (hk : I64 k) (hn : I64 n) (hs : s.size ≤ BIG) : TmV w (.mk k n s []) (.agg #[.int .i64 k, .int .i64 n, .string s, .slice none 0 0]) :=
  tmV_iff.2 ⟨_, rfl, hs, hk, hn, Tms.nil w⟩
theorem i64_0 : I64 0 := by unfold I64; omega
theorem i64_1 : I64 1 := by unfold I64; omega
theorem i64_2 : I64 2 := by unfold I64; omega
theorem var_at (w : World) (n : Int) : Calls Tryz.prog 122 #[.int .i64 n] w fun e w' => e = .returned (.agg #[.int .i64 0, .int .i64 n, .string ⟨#[]⟩, .slice none 0 0]) ∧ Below w.heap.size w w' := by
  go_enter Tryz.func122, Tryz.ntmps122
  go_wp2
  refine bodyPost_ret (v := .agg #[.int .i64 0, .int .i64 n, .string ⟨#[]⟩, .slice none 0 0]) (by rw [results_cell1 rfl]; go_simp) rfl ⟨rfl, ?_⟩
  exact bel1' _ _
theorem int_at (w : World) (n : Int) : Calls Tryz.prog 98 #[.int .i64 n] w fun e w' => e = .returned (.agg #[.int .i64 1, .int .i64 n, .string ⟨#[]⟩, .slice none 0 0]) ∧ Below w.heap.size w w' := by
  go_enter Tryz.func98, Tryz.ntmps98
  go_wp2
  refine bodyPost_ret (v := .agg #[.int .i64 1, .int .i64 n, .string ⟨#[]⟩, .slice none 0 0]) (by rw [results_cell1 rfl]; go_simp) rfl ⟨rfl, ?_⟩
  exact bel1' _ _
theorem atom_at (w : World) (s : ByteArray) : Calls Tryz.prog 13 #[.string s] w fun e w' => e = .returned (.agg #[.int .i64 2, .int .i64 0, .string s, .slice none 0 0]) ∧ Below w.heap.size w w' := by
  go_enter Tryz.func13, Tryz.ntmps13
  go_wp2
  refine bodyPost_ret (v := .agg #[.int .i64 2, .int .i64 0, .string s, .slice none 0 0]) (by rw [results_cell1 rfl]; go_simp) rfl ⟨rfl, ?_⟩
  exact bel1' _ _
theorem cso {w : World} {a b : Addr} {v : Value} (h : a ≠ b) : (w.setCell a v).cell? b = w.cell? b := by apply World.cell?_setCell_other; exact h
theorem css {w : World} {a : Addr} {u v : Value} (h : w.cell? a = some u) : (w.setCell a v).cell? a = some v := by apply World.cell?_setCell_same; exact h
/-- Four cells of a box set one behind the other. -/
def setFour (w : World) (B : Nat) (v0 v1 v2 v3 : Value) : World := (((w.setCell ⟨B, 0, none⟩ v0).setCell ⟨B, 1, none⟩ v1).setCell ⟨B, 2, none⟩ v2).setCell ⟨B, 3, none⟩ v3
theorem four_cells {w : World} {B : Nat} {a0 a1 a2 a3 : Value} (v0 v1 v2 v3 : Value) (c0 : w.cell? ⟨B, 0, none⟩ = some a0) (c1 : w.cell? ⟨B, 1, none⟩ = some a1) (c2 : w.cell? ⟨B, 2, none⟩ = some a2) (c3 : w.cell? ⟨B, 3, none⟩ = some a3) :
    (setFour w B v0 v1 v2 v3).cell? ⟨B, 0, none⟩ = some v0 ∧ (setFour w B v0 v1 v2 v3).cell? ⟨B, 1, none⟩ = some v1 ∧ (setFour w B v0 v1 v2 v3).cell? ⟨B, 2, none⟩ = some v2 ∧ (setFour w B v0 v1 v2 v3).cell? ⟨B, 3, none⟩ = some v3 := by
  have ne : ∀ i j : Nat, i ≠ j → (⟨B, i, none⟩ : Addr) ≠ ⟨B, j, none⟩ := fun i j h e => by
    simp only [Addr.mk.injEq] at e
    exact h e.2.1
  unfold setFour
  refine ⟨?_, ?_, ?_, ?_⟩
  · rw [cso (ne 3 0 (by omega)), cso (ne 2 0 (by omega)), cso (ne 1 0 (by omega)), css c0]
  · rw [cso (ne 3 1 (by omega)), cso (ne 2 1 (by omega)), css (u := a1) (by rw [cso (ne 0 1 (by omega))]; exact c1)]
  · rw [cso (ne 3 2 (by omega)), css (u := a2) (by rw [cso (ne 1 2 (by omega)), cso (ne 0 2 (by omega))]; exact c2)]
  · rw [css (u := a3) (by rw [cso (ne 2 3 (by omega)), cso (ne 1 3 (by omega)), cso (ne 0 3 (by omega))]; exact c3)]
theorem four_far (w : World) (B : Nat) (v0 v1 v2 v3 : Value) (b j : Nat) (h : b ≠ B) : (setFour w B v0 v1 v2 v3).cell? ⟨b, j, none⟩ = w.cell? ⟨b, j, none⟩ := by
  have ne : ∀ i, (⟨B, i, none⟩ : Addr) ≠ ⟨b, j, none⟩ := fun i e => by
    simp only [Addr.mk.injEq] at e
    exact h e.1.symm
  unfold setFour
  rw [cso (ne 3), cso (ne 2), cso (ne 1), cso (ne 0)]
theorem four_below {w0 w : World} {D B : Nat} (v0 v1 v2 v3 : Value) (h : Below D w0 w) (hB : D ≤ B) : Below D w0 (setFour w B v0 v1 v2 v3) :=
  (((h.setCell (p := ⟨B, 0, none⟩) hB v0).setCell (p := ⟨B, 1, none⟩) hB v1).setCell (p := ⟨B, 2, none⟩) hB v2).setCell (p := ⟨B, 3, none⟩) hB v3
theorem four_row {w : World} {base B n k : Nat} {e : TypeId} {v : Value} {xs : List Value} (v0 v1 v2 v3 : Value) (h : w.ownsRow base e k v n xs) (hB : B < base) : (setFour w B v0 v1 v2 v3).ownsRow base e k v n xs :=
  ownsRow_setCell_below (ownsRow_setCell_below (ownsRow_setCell_below (ownsRow_setCell_below h (a := ⟨B, 0, none⟩) hB v0) (a := ⟨B, 1, none⟩) hB v1) (a := ⟨B, 2, none⟩) hB v2) (a := ⟨B, 3, none⟩) hB v3
theorem four_kept {w w4 : World} {c0 c1 c2 c3 : Value} {ty : TypeId} (h : w4.heap[w.heap.size]? = (w.alloc (.cells #[c0, c1, c2, c3] ty)).heap[w.heap.size]?) :
    w4.cell? ⟨w.heap.size, 0, none⟩ = some c0 ∧ w4.cell? ⟨w.heap.size, 1, none⟩ = some c1 ∧ w4.cell? ⟨w.heap.size, 2, none⟩ = some c2 ∧ w4.cell? ⟨w.heap.size, 3, none⟩ = some c3 ∧ ∀ j, w4.frozen? ⟨w.heap.size, j, none⟩ = false := by
  refine ⟨?_, ?_, ?_, ?_, fun j => ?_⟩
  · rw [World.cell?_of_block (w := w.alloc (.cells #[c0, c1, c2, c3] ty)) h]; simp
  · rw [World.cell?_of_block (w := w.alloc (.cells #[c0, c1, c2, c3] ty)) h]; simp
  · rw [World.cell?_of_block (w := w.alloc (.cells #[c0, c1, c2, c3] ty)) h]; simp
  · rw [World.cell?_of_block (w := w.alloc (.cells #[c0, c1, c2, c3] ty)) h]; simp
  · rw [World.frozen?_of_block (w := w.alloc (.cells #[c0, c1, c2, c3] ty)) h]; simp
set_option maxHeartbeats 2000000 in
theorem comp_ps {w : World} {ao : Option Addr} {m c : Nat} (ps : List TmP) (s : ByteArray) (hpl : ps.length = m) (hbig : m * 56 ≤ BIG) (hone : ∀ u ∈ ps.flatMap pCells, u.oneCell' = true)
    (hsrc : m = 0 ∨ ∃ ad, ao = some ad ∧ ∀ j u, (ps.flatMap pCells)[j]? = some u → w.cell? (ad.add j) = some u) :
    Calls Tryz.prog 26 #[.string s, .slice ao m c] w fun e w' => ∃ a c', e = .returned (.agg #[.int .i64 2, .int .i64 0, .string s, .slice a m c']) ∧ RowP w' (w.heap.size + 1) 31 (.slice a m c') ps ∧ Below w.heap.size w w' := by
  obtain ⟨i0, hi0, hz0, hs0, hb0⟩ := info_parts infoTerm
  have hfl : (ps.flatMap pCells).length = m * 4 := by rw [flat_len pCells_len, hpl]
  have HPL := Lib.hid hpl
  unfold BIG at hbig
  obtain ⟨news, hnews⟩ : ∃ news, ps.flatMap pCells = news := ⟨_, rfl⟩
  rw [hnews] at hfl hone hsrc
  have HN := Lib.hid hnews
  have hsrc' : m = 0 ∨ ∃ ad, ao = some ad ∧ ∀ j u, news[j]? = some u → (w.alloc (.cells #[.int .i64 0, .int .i64 0, .string ⟨#[]⟩, .slice none 0 0] 31)).cell? (ad.add j) = some u := by
    rcases hsrc with h | ⟨ad, e, h⟩
    · exact Or.inl h
    · exact Or.inr ⟨ad, e, fun j u hj => Lib.cell?_alloc_some _ (h j u hj)⟩
  clear hpl hnews hsrc
  go_enter Tryz.func26, Tryz.ntmps26
  go_wp2_with (at_builtin; refine wpList_append_k rfl _ _ 29 rfl (w.heap.size + 1) 31 i0 (.agg #[.int .i64 0, .int .i64 0, .string ⟨#[]⟩, .slice none 0 0]) 4 56 Tryz.underlying29 hi0 hz0 hs0 (by decide) hb0 rfl (.slice none 0 0) 0 [] rfl (World.ownsRow_nil _ _ _ _) ao m c news rfl hfl hsrc' hone (by unfold maxLen; omega) (by omega) (by simp) m news (by omega) rfl ?_; intro a4 c4 w4 hown4 hgrow4 hat4; obtain ⟨e0, e1, e2, e3, g0⟩ := four_kept (hgrow4.block w.heap.size (by simp) (by simp [Value.ownBlock])))
  have hB : Below w.heap.size w w4 := (bel1' w _).grown hgrow4 (by simp) (fun q hq => by simp [Value.ownBlock] at hq)
  refine bodyPost_ret (v := .agg #[.int .i64 2, .int .i64 0, .string s, .slice a4 m c4]) (by rw [results_cell1 rfl]; go_simp) rfl ⟨a4, c4, rfl, ?_⟩
  have hF : Below w.heap.size w (setFour w4 w.heap.size (.int .i64 2) (.int .i64 0) (.string s) (.slice a4 m c4)) := four_below _ _ _ _ hB (Nat.le_refl _)
  refine ⟨?_, hF⟩
  unfold RowP
  rw [HPL.out, HN.out]
  exact four_row _ _ _ _ hown4 (by omega)
end Go.Proofs.YtaojalicnnnkmaaGreatDoor
/- Package term: Size. -/
namespace Go.Proofs.YtaojalicnnnkmaaGreatDoor
open Go.RowKit
set_option linter.unusedVariables false

theorem sizes_drop' : ∀ {ts : List Tm} {i : Nat} {y : Tm}, ts[i]? = some y → sizesN (ts.take (i + 1)) = sizesN (ts.take i) + sizeN y
  | x :: r, 0, y, h => by
    simp at h; subst h
    simp [sizesN]
  | x :: r, i + 1, y, h => by
    have := sizes_drop' (ts := r) (i := i) (y := y) (by simpa using h)
    simp only [List.take_succ_cons, sizesN, this]
    omega
  | [], i, y, h => by simp at h
theorem sizes_take' (ts : List Tm) (i : Nat) : sizesN (ts.take i) ≤ sizesN ts := by
  induction ts generalizing i with
  | nil => simp
  | cons x r ih =>
    cases i with
    | zero => simp [sizesN]
    | succ i =>
      simp only [List.take_succ_cons, sizesN]
      have := ih i
      omega
theorem TmV.four {w : World} {x : Tm} {v : Value} (h : TmV w x v) : ∃ k n s u, v = .agg #[.int .i64 k, .int .i64 n, .string s, u] := by
  obtain ⟨u, rfl⟩ := h.pair
  exact ⟨_, _, _, _, rfl⟩
set_option maxHeartbeats 2000000 in
set_option maxRecDepth 100000 in
theorem count_at : ∀ (N : Nat) (x : Tm), sizeN x ≤ N → ∀ (q : Nat), 1 ≤ q → q ≤ 1000000 → ∀ (w : World) (v : Value), TmV w x v →
    Calls Tryz.prog 61 #[v, .int .i64 q] w fun e w' => e = .returned (.int .i64 (min (sizeN x) q : Nat)) ∧ Below w.heap.size w w'
  | 0, x, h, q, hq1, hq, w, v, hv => by have := size_pos x; omega
  | N + 1, .mk k n s ts, h, q, hq1, hq, w, v, hv => by
    obtain ⟨u, rfl, hs, hk, hn, hu⟩ := tmV_iff.1 hv
    obtain ⟨a, c, rfl, h1, h2, h3⟩ := hu.len
    unfold BIG at h3
    obtain ⟨m, hm⟩ : ∃ m, ts.length = m := ⟨_, rfl⟩
    have IH := Lib.hid (fun (y : Tm) (hy : y ∈ ts) => count_at N y (mem_size h hy))
    have HU := Lib.hid hu
    have HM := Lib.hid hm
    rw [hm] at h1 h3 hu HU ⊢
    obtain ⟨r, hr⟩ : ∃ r, min (sizeN (.mk k n s ts)) q = r := ⟨_, rfl⟩
    rw [hr]
    have HR := Lib.hid (show min (sizesN ts + 1) q = r by rw [← hr, sizeN])
    clear hv hu hm hr h
    go_enter Tryz.func61, Tryz.ntmps61
    go_wp2_with fail
    go_loopw [5, 11] (fun z v wr => ∃ i t : Nat, i ≤ m ∧ v = .int .i64 i ∧ z = .int .i64 t ∧ Hid (t = min (sizesN (ts.take i) + 1) q) ∧ t ≤ q ∧ Hid (Below (w.alloc (.cells #[.int .i64 k, .int .i64 n, .string s, .slice a m c] 31)).heap.size (w.alloc (.cells #[.int .i64 k, .int .i64 n, .string s, .slice a m c] 31)) wr)) (fun _ v _ => m - (intOf v).toNat)
    case atStart => exact ⟨0, 1, Nat.zero_le _, rfl, rfl, Lib.hid (by simp [sizesN]; omega), by omega, Lib.hid (Below.refl _ _)⟩
    case round =>
      obtain ⟨i, t, hi, rfl, rfl, HT, ht, HB⟩ := hrel
      have HBW := Lib.hid (Ext.trans' (bel1' w _) HB.out)
      by_cases hil : i < m
      · obtain ⟨y, hy⟩ : ∃ y, ts[i]? = some y := ⟨_, List.getElem?_eq_getElem (by rw [HM.out]; exact hil)⟩
        have hst := sizes_take' ts (i + 1)
        have hds := sizes_drop' hy
        obtain ⟨b, off, k', n', s', u', rfl, hbb, _, _, _, c0, c1, c2, c3, htu, hty⟩ := (HU.out.ext HBW.out).get hy
        obtain ⟨au, cu, rfl, _⟩ := htu.len
        clear htu
        by_cases htq : t < q
        · obtain ⟨d, hd⟩ : ∃ d, q - t = d := ⟨_, rfl⟩
          have hqt : (q : Int) - t = d := by omega
          have htq' : ((t : Int) == q) = false := by apply beq_false_of_ne; omega
          have HNE := Lib.hid (show ¬ t = q by omega)
          have ih := IH.out y (List.mem_of_getElem? hy) d (by omega) (by omega) _ _ (TmV.ext (bel1' wr (box4 k' n' s' (.slice au y.args.length cu) 31)) _ _ hty)
          obtain ⟨z, hz⟩ : ∃ z, min (sizeN y) d = z := ⟨_, rfl⟩
          rw [hz] at ih
          have HN : Hid (t + z = min (sizesN (ts.take (i + 1)) + 1) q) := Lib.hid (by
            have := HT.out
            rw [hds]
            omega)
          have hzd : z ≤ d := by omega
          have hzq : t + z ≤ q := by omega
          clear hst hds hz hy hty hd HT
          (go_wp2_with fail; go_fit (ih); rintro e w2 ⟨rfl, b2⟩)
          have B2 := Lib.hid (Ext.trans' HB.out (Ext.trans' (bel1' _ _) b2))
          clear b2
          go_wp2
          go_roundw
          case rel => exact ⟨i + 1, t + z, by omega, by go_num, by go_num, HN, hzq, B2⟩
          case measure => simp [intOf]; omega
        · have hrt : q = r := by
            have a1 := HT.out
            have a2 := HR.out
            have a3 := sizes_take' ts i
            omega
          have htq2 : t = q := by omega
          subst hrt htq2
          clear hst hds hy hty
          go_wp2
          go_ret
          exact ⟨rfl, Ext.trans' HBW.out (bel1' _ _)⟩
      · have hrt : t = r := by
          have a1 := HT.out
          have a2 := HR.out
          rw [List.take_of_length_le (by rw [HM.out]; omega)] at a1
          omega
        subst hrt
        go_wp2
        go_ret
        exact ⟨rfl, HBW.out⟩
theorem size_at (x : Tm) (w : World) (v : Value) (hv : TmV w x v) : Calls Tryz.prog 41 #[v] w fun e w' => e = .returned (.int .i64 (min (sizeN x) 2001 : Nat)) ∧ Below w.heap.size w w' := by
  have C := fun w (h : TmV w x v) => count_at _ x (Nat.le_refl _) 2001 (by omega) (by omega) w v h
  obtain ⟨z, hz⟩ : ∃ z, min (sizeN x) 2001 = z := ⟨_, rfl⟩
  rw [hz] at C ⊢
  obtain ⟨k, n, s, u, rfl⟩ := hv.four
  have hv0 := TmV.ext (bel1' w (box4 k n s u 31)) _ _ hv
  clear hz hv
  go_enter Tryz.func41, Tryz.ntmps41
  (go_wp2_with fail; go_fit (C _ hv0); rintro e w1 ⟨rfl, b1⟩)
  have B1 := Lib.hid (Ext.trans' (bel1' w _) b1)
  clear b1
  go_wp2
  go_ret
  exact ⟨rfl, B1.out⟩
end Go.Proofs.YtaojalicnnnkmaaGreatDoor
/- Package term: what fits. -/
namespace Go.Proofs.YtaojalicnnnkmaaGreatDoor
open Go.RowKit
set_option linter.unusedVariables false

theorem isEmpty_size' (s : ByteArray) : s.data.toList.isEmpty = decide (s.size = 0) := by
  have h : s.data.toList.length = s.size := rfl
  cases hq : s.data.toList with
  | nil => rw [hq] at h; simp at h; simp [← h]
  | cons a r =>
    rw [hq, List.length_cons] at h
    rw [decide_eq_false (by omega)]
    rfl
theorem toList_empty' {s : ByteArray} (h : s.size = 0) : s.toList.isEmpty = true := by rw [Lib.toList_data, isEmpty_size']; simpa using h
theorem toList_some' {s : ByteArray} (h : ¬ s.size = 0) : s.toList.isEmpty = false := by rw [Lib.toList_data, isEmpty_size']; simpa using h
theorem letter_eq' : ∀ c : UInt8, letterB c = (((c.toNat : Int) == 9) || ((c.toNat : Int) == 10) || (!decide ((c.toNat : Int) < 32) && !decide (126 < (c.toNat : Int)))) := by
  intro c
  have h : ((List.range 256).all fun n => letterB (UInt8.ofNat n) == ((((UInt8.ofNat n).toNat : Int) == 9) || (((UInt8.ofNat n).toNat : Int) == 10) || (!decide (((UInt8.ofNat n).toNat : Int) < 32) && !decide (126 < ((UInt8.ofNat n).toNat : Int))))) = true := by decide +kernel
  have hc := List.all_eq_true.1 h c.toNat (List.mem_range.2 (UInt8.toNat_lt c))
  rw [UInt8.ofNat_toNat] at hc
  exact eq_of_beq hc
def fitB (s : ByteArray) : Bool := decide (s.size ≤ 64) && s.data.toList.all letterB
set_option maxHeartbeats 2000000 in
theorem fitsName_at (s : ByteArray) (hs : s.size ≤ 140737488351232) (w : World) : Calls Tryz.prog 73 #[.string s] w fun e w' => e = .returned (.bool (fitB s)) ∧ w = w' := by
  by_cases hbig : 64 < s.size
  · have hr : fitB s = false := by unfold fitB; rw [decide_eq_false (by omega)]; rfl
    rw [hr]
    clear hr
    go_enter Tryz.func73, Tryz.ntmps73
    go_wp2
    go_ret
    exact ⟨rfl, rfl⟩
  obtain ⟨r, hr⟩ : ∃ r, fitB s = r := ⟨_, rfl⟩
  rw [hr]
  have HR : Hid (s.data.toList.all letterB = r) := Lib.hid (by rw [← hr]; unfold fitB; rw [decide_eq_true (by omega)]; rfl)
  clear hr
  go_enter Tryz.func73, Tryz.ntmps73
  go_wp2_with fail
  go_loop [10] (fun z => ∃ i : Nat, i ≤ s.size ∧ z = .int .i64 i ∧ Hid (∀ j (hj : j < s.size), j < i → letterB s[j] = true)) (fun z => s.size - (intOf z).toNat)
  case atStart => exact ⟨0, Nat.zero_le _, rfl, Lib.hid (fun j _ h => by omega)⟩
  case round =>
    obtain ⟨i, hi, rfl, HL⟩ := hrel
    by_cases hil : i < s.size
    · cases hq : letterB s[i]
      · have hlq := letter_eq' s[i]
        rw [hq] at hlq
        have hall : s.data.toList.all letterB = false := by
          rw [List.all_eq_false]
          exact ⟨s.data.toList[i]'hil, List.getElem_mem _, by show ¬ letterB s[i] = true; rw [hq]; simp⟩
        have hrf : r = false := by rw [← HR.out, hall]
        subst hrf
        obtain ⟨z, hz⟩ : ∃ z : Int, (s[i].toNat : Int) = z := ⟨_, rfl⟩
        rw [hz] at hlq
        have e9 : (z == 9) = false := by
          cases h : (z == 9)
          · rfl
          · rw [h] at hlq; cases hlq
        have e10 : (z == 10) = false := by
          cases h : (z == 10)
          · rfl
          · rw [h, Bool.or_true] at hlq; cases hlq
        rw [e9, e10, Bool.false_or, Bool.false_or] at hlq
        have n9 : (z != 9) = true := by unfold bne; rw [e9]; rfl
        have n10 : (z != 10) = true := by unfold bne; rw [e10]; rfl
        clear e9 e10
        clear hall hq HR HL
        by_cases h32 : z < 32
        · clear hlq
          go_wp2
          go_ret
          exact ⟨rfl, rfl⟩
        · have h126 : 126 < z := by
            simp [h32] at hlq
            omega
          clear hlq
          go_wp2
          go_ret
          exact ⟨rfl, rfl⟩
      · have hlq := letter_eq' s[i]
        rw [hq] at hlq
        have HN : Hid (∀ j (hj : j < s.size), j < i + 1 → letterB s[j] = true) := Lib.hid (fun j hj h => by
          by_cases e : j = i
          · subst e; exact hq
          · exact HL.out j hj (by omega))
        obtain ⟨z, hz⟩ : ∃ z : Int, (s[i].toNat : Int) = z := ⟨_, rfl⟩
        rw [hz] at hlq
        clear hq HL
        by_cases e9 : z = 9
        · subst e9
          clear hlq
          go_wp2
          go_round
          case rel => exact ⟨i + 1, by omega, by go_num, HN⟩
          case measure => simp [intOf]; omega
        have e9' : (z == 9) = false := beq_false_of_ne e9
        by_cases e10 : z = 10
        · subst e10
          clear hlq
          go_wp2
          go_round
          case rel => exact ⟨i + 1, by omega, by go_num, HN⟩
          case measure => simp [intOf]; omega
        have e10' : (z == 10) = false := beq_false_of_ne e10
        rw [e9', e10'] at hlq
        have h32 : ¬ z < 32 := fun hh => by simp [hh] at hlq
        have h126 : ¬ 126 < z := fun hh => by simp [hh] at hlq
        have n9 : (z != 9) = true := by unfold bne; rw [e9']; rfl
        have n10 : (z != 10) = true := by unfold bne; rw [e10']; rfl
        clear hlq e9 e10 e9' e10'
        go_wp2
        go_round
        case rel => exact ⟨i + 1, by omega, by go_num, HN⟩
        case measure => simp [intOf]; omega
    · have hall : s.data.toList.all letterB = true := by
        rw [List.all_eq_true]
        intro x hx
        obtain ⟨j, hj, rfl⟩ := List.getElem_of_mem hx
        exact HL.out j hj (by have : j < s.size := hj; omega)
      have hrt : r = true := by rw [← HR.out, hall]
      subst hrt
      clear hall HR HL
      go_wp2
      go_ret
      exact ⟨rfl, rfl⟩
set_option maxHeartbeats 4000000 in
set_option maxRecDepth 100000 in
theorem fits_at {k n : Int} {s : ByteArray} {a : Option Addr} {m c : Nat} (hs : s.size ≤ 140737488351232) (hn : I64 n) (h1 : m ≤ c) (h2 : c ≤ maxLen) (h3 : m * 56 ≤ 140737488351232) (w : World) :
    Calls Tryz.prog 62 #[.agg #[.int .i64 k, .int .i64 n, .string s, .slice a m c]] w fun e w' => e = .returned (.bool (plainT k n s.data.toList m)) ∧ Below w.heap.size w w' := by
  have F := fun w => fitsName_at s hs w
  by_cases k0 : k = 0
  · subst k0
    have hp : plainT 0 n s.data.toList m = (decide (0 ≤ n) && decide (n < 2147483648) && decide (s.size = 0) && decide (m = 0)) := by
      unfold plainT; rw [if_pos rfl, isEmpty_size']
    by_cases g1 : 0 ≤ n
    · by_cases g2 : n < 2147483648
      · have g2' : n ≤ 2147483647 := by omega
        by_cases g3 : s.size = 0
        · have g3' := toList_empty' g3
          by_cases g4 : m = 0
          · have hr : plainT 0 n s.data.toList m = true := by rw [hp]; simp [g1, g2, g3, g4]
            rw [hr]
            subst g4
            clear hp g3 hr F
            go_enter Tryz.func62, Tryz.ntmps62
            go_wp2
            go_ret
            exact ⟨rfl, bel1' _ _⟩
          · have hr : plainT 0 n s.data.toList m = false := by rw [hp]; simp [g4]
            rw [hr]
            have g4' : ((m : Int) == 0) = false := by apply beq_false_of_ne; omega
            clear hp g3 hr F
            go_enter Tryz.func62, Tryz.ntmps62
            go_wp2
            go_ret
            exact ⟨rfl, bel1' _ _⟩
        · have hr : plainT 0 n s.data.toList m = false := by rw [hp]; simp [g3]
          rw [hr]
          have g3' := toList_some' g3
          clear hp hr F
          go_enter Tryz.func62, Tryz.ntmps62
          go_wp2
          go_ret
          exact ⟨rfl, bel1' _ _⟩
      · have hr : plainT 0 n s.data.toList m = false := by rw [hp]; simp [g2]
        rw [hr]
        have g2' : ¬ n ≤ 2147483647 := by omega
        clear hp hr F
        go_enter Tryz.func62, Tryz.ntmps62
        go_wp2
        go_ret
        exact ⟨rfl, bel1' _ _⟩
    · have hr : plainT 0 n s.data.toList m = false := by rw [hp]; simp [g1]
      rw [hr]
      clear hp hr F
      go_enter Tryz.func62, Tryz.ntmps62
      go_wp2
      go_ret
      exact ⟨rfl, bel1' _ _⟩
  by_cases k1 : k = 1
  · subst k1
    have hp : plainT 1 n s.data.toList m = (decide (s.size = 0) && decide (m = 0)) := by
      unfold plainT; rw [if_neg (by decide), if_pos rfl, isEmpty_size']
    by_cases g3 : s.size = 0
    · have g3' := toList_empty' g3
      by_cases g4 : m = 0
      · have hr : plainT 1 n s.data.toList m = true := by rw [hp]; simp [g3, g4]
        rw [hr]
        subst g4
        clear hp g3 hr F
        go_enter Tryz.func62, Tryz.ntmps62
        go_wp2
        go_ret
        exact ⟨rfl, bel1' _ _⟩
      · have hr : plainT 1 n s.data.toList m = false := by rw [hp]; simp [g4]
        rw [hr]
        have g4' : ((m : Int) == 0) = false := by apply beq_false_of_ne; omega
        clear hp g3 hr F
        go_enter Tryz.func62, Tryz.ntmps62
        go_wp2
        go_ret
        exact ⟨rfl, bel1' _ _⟩
    · have hr : plainT 1 n s.data.toList m = false := by rw [hp]; simp [g3]
      rw [hr]
      have g3' := toList_some' g3
      clear hp hr F
      go_enter Tryz.func62, Tryz.ntmps62
      go_wp2
      go_ret
      exact ⟨rfl, bel1' _ _⟩
  have k0' : (k == 0) = false := beq_false_of_ne k0
  have k1' : (k == 1) = false := beq_false_of_ne k1
  by_cases k2 : k = 2
  · subst k2
    have hp : plainT 2 n s.data.toList m = (decide (n = 0) && decide (m ≤ 8) && fitB s) := by
      unfold plainT fitB; rw [if_neg (by decide), if_neg (by decide), if_pos rfl]
      have e : s.data.toList.length = s.size := rfl
      rw [e]
      cases decide (n = 0) <;> cases decide (s.size ≤ 64) <;> cases decide (m ≤ 8) <;> simp
    by_cases g1 : n = 0
    · subst g1
      by_cases g3 : m ≤ 8
      · have hr : plainT 2 0 s.data.toList m = fitB s := by rw [hp, decide_eq_true g3]; simp
        rw [hr]
        have g3i : (m : Int) ≤ 8 := by omega
        clear hr hp k0 k1 k0' k1'
        generalize fitB s = r at F ⊢
        cases r
        · go_enter Tryz.func62, Tryz.ntmps62
          (go_wp2_with fail; go_fit (F _); rintro e w1 ⟨rfl, rfl⟩)
          go_wp2
          go_ret
          exact ⟨rfl, bel1' _ _⟩
        · go_enter Tryz.func62, Tryz.ntmps62
          (go_wp2_with fail; go_fit (F _); rintro e w1 ⟨rfl, rfl⟩)
          go_wp2
          go_ret
          exact ⟨rfl, bel1' _ _⟩
      · have hr : plainT 2 0 s.data.toList m = false := by rw [hp, decide_eq_false g3]; simp
        rw [hr]
        have g3i : (8 : Int) < m := by omega
        clear hr hp k0 k1 k0' k1'
        generalize fitB s = r at F
        cases r
        · go_enter Tryz.func62, Tryz.ntmps62
          (go_wp2_with fail; go_fit (F _); rintro e w1 ⟨rfl, rfl⟩)
          go_wp2
          go_ret
          exact ⟨rfl, bel1' _ _⟩
        · go_enter Tryz.func62, Tryz.ntmps62
          (go_wp2_with fail; go_fit (F _); rintro e w1 ⟨rfl, rfl⟩)
          go_wp2
          go_ret
          exact ⟨ret_bool (decide_eq_false (by omega)), bel1' _ _⟩
    · have hr : plainT 2 n s.data.toList m = false := by rw [hp]; simp [g1]
      rw [hr]
      have g1' : (n == 0) = false := beq_false_of_ne g1
      clear hp hr k0 k1 k0' k1' F
      go_enter Tryz.func62, Tryz.ntmps62
      go_wp2
      go_ret
      exact ⟨rfl, bel1' _ _⟩
  · have hr : plainT k n s.data.toList m = false := by unfold plainT; rw [if_neg k0, if_neg k1, if_neg k2]
    rw [hr]
    have k2' : (k == 2) = false := beq_false_of_ne k2
    clear hr k0 k1 k2 F
    go_enter Tryz.func62, Tryz.ntmps62
    go_wp2
    go_ret
    exact ⟨rfl, bel1' _ _⟩
end Go.Proofs.YtaojalicnnnkmaaGreatDoor
/- Package term: what is good. -/
namespace Go.Proofs.YtaojalicnnnkmaaGreatDoor
open Go.RowKit
set_option linter.unusedVariables false

/-- Of that depth at most, and formed. -/
def okT (t : Tm) (q : Nat) : Bool := decide (depthN t ≤ q) && formedT t
def okL : List Tm → Nat → Bool
  | [], _ => true
  | x :: r, q => okT x q && okL r q
theorem okL_eq : ∀ (l : List Tm) (q : Nat), okL l q = (decide (depthsN l ≤ q) && formedL l)
  | [], q => by simp [okL, depthsN, formedL]
  | x :: r, q => by
    rw [okL, okL_eq r q, depthsN, formedL]
    unfold okT
    by_cases h1 : depthN x ≤ q
    · by_cases h2 : depthsN r ≤ q
      · rw [decide_eq_true h1, decide_eq_true h2, decide_eq_true (by omega)]
        cases formedT x <;> cases formedL r <;> rfl
      · rw [decide_eq_true h1, decide_eq_false h2, decide_eq_false (by omega)]
        cases formedT x <;> rfl
    · have e : decide (max (depthN x) (depthsN r) ≤ q) = false := decide_eq_false (by omega)
      rw [decide_eq_false h1, e]
      rfl
theorem okT_zero (t : Tm) : okT t 0 = false := by
  unfold okT
  have := depth_pos t
  rw [decide_eq_false (by omega)]
  rfl
theorem okT_succ (k n : Int) (s : ByteArray) (ts : List Tm) (q : Nat) : okT (.mk k n s ts) (q + 1) = (plainT k n s.data.toList ts.length && okL ts q) := by
  unfold okT
  rw [okL_eq, formedT, depthN]
  by_cases h : depthsN ts ≤ q
  · rw [decide_eq_true h, decide_eq_true (by omega)]
    cases plainT k n s.data.toList ts.length <;> rfl
  · rw [decide_eq_false h, decide_eq_false (by omega)]
    cases plainT k n s.data.toList ts.length <;> rfl
set_option maxHeartbeats 4000000 in
set_option maxRecDepth 100000 in
theorem good_at : ∀ (q : Nat) (x : Tm), q ≤ 1000000 → ∀ (w : World) (v : Value), TmV w x v →
    Calls Tryz.prog 42 #[v, .int .i64 q] w fun e w' => e = .returned (.bool (okT x q)) ∧ Below w.heap.size w w'
  | 0, x, hq, w, v, hv => by
    obtain ⟨k, n, s, u, rfl⟩ := hv.four
    rw [okT_zero]
    clear hv
    go_enter Tryz.func42, Tryz.ntmps42
    go_wp2
    go_ret
    exact ⟨rfl, bel1' _ _⟩
  | q + 1, .mk k n s ts, hq, w, v, hv => by
    obtain ⟨u, rfl, hs, hk, hn, hu⟩ := tmV_iff.1 hv
    obtain ⟨a, c, rfl, h1, h2, h3⟩ := hu.len
    unfold BIG at h3 hs
    rw [okT_succ]
    obtain ⟨m, hm⟩ : ∃ m, ts.length = m := ⟨_, rfl⟩
    have IH := Lib.hid (fun (y : Tm) => good_at q y (by omega))
    have HU := Lib.hid hu
    have HM := Lib.hid hm
    rw [hm] at h1 h3 hu HU ⊢
    have F := fun w => fits_at (k := k) (n := n) (s := s) (a := a) (m := m) (c := c) hs hn h1 h2 h3 w
    obtain ⟨p, hp⟩ : ∃ p, plainT k n s.data.toList m = p := ⟨_, rfl⟩
    rw [hp] at F ⊢
    obtain ⟨Q, hQ⟩ : ∃ Q : Int, ((q + 1 : Nat) : Int) = Q := ⟨_, rfl⟩
    rw [hQ]
    have hq1 : Q - 1 = q := by omega
    have hQ0 : (Q == 0) = false := by apply beq_false_of_ne; omega
    have hQb : Q ≤ 1000001 := by omega
    have hQ1 : 0 < Q := by omega
    clear hv hu hm hp hQ
    cases p
    · rw [Bool.false_and]
      go_enter Tryz.func42, Tryz.ntmps42
      (go_wp2_with fail; go_fit (F _); rintro e w1 ⟨rfl, b1⟩)
      have B1 := Lib.hid (Ext.trans' (bel1' w _) b1)
      clear b1
      go_wp2
      go_ret
      exact ⟨rfl, B1.out⟩
    · rw [Bool.true_and]
      obtain ⟨r, hr⟩ : ∃ r, okL ts q = r := ⟨_, rfl⟩
      rw [hr]
      have HR := Lib.hid hr
      clear hr
      go_enter Tryz.func42, Tryz.ntmps42
      (go_wp2_with fail; go_fit (F _); rintro e w1 ⟨rfl, b1⟩)
      obtain ⟨e0, e1, e2, e3⟩ := box_cells w 31 _ _ _ _ b1
      have B1 := Lib.hid (Ext.trans' (bel1' w _) b1)
      clear b1 F
      go_wp2_with fail
      go_loopw [17] (fun v wr => ∃ i : Nat, i ≤ m ∧ v = .int .i64 i ∧ Hid (okL (ts.drop i) q = r) ∧ Hid (Below w.heap.size w wr)) (fun v _ => m - (intOf v).toNat)
      case atStart => exact ⟨0, Nat.zero_le _, rfl, Lib.hid (by rw [List.drop_zero]; exact HR.out), B1⟩
      case round =>
        obtain ⟨i, hi, rfl, HD, HB⟩ := hrel
        by_cases hil : i < m
        · obtain ⟨y, hy⟩ : ∃ y, ts[i]? = some y := ⟨_, List.getElem?_eq_getElem (by rw [HM.out]; exact hil)⟩
          have hdr : ts.drop i = y :: ts.drop (i + 1) := by
            obtain ⟨hlt', rfl⟩ := List.getElem?_eq_some_iff.1 hy
            exact List.drop_eq_getElem_cons hlt'
          have hd := HD.out
          rw [hdr, okL] at hd
          obtain ⟨b, off, k', n', s', u', rfl, hbb, _, _, _, c0, c1, c2, c3, htu, ht⟩ := (HU.out.ext HB.out).get hy
          obtain ⟨au, cu, rfl, _⟩ := htu.len
          clear htu
          have ih := IH.out y _ _ (TmV.ext (bel1' wr (box4 k' n' s' (.slice au y.args.length cu) 31)) _ _ ht)
          clear hdr HD ht
          cases hq : okT y q
          · rw [hq, Bool.false_and] at hd
            rw [hq] at ih
            subst hd
            clear hq hy HR
            (go_wp2_with fail; go_fit (ih); rintro e w2 ⟨rfl, b2⟩)
            have B2 := Lib.hid (Ext.trans' HB.out (Ext.trans' (bel1' _ _) b2))
            clear b2
            go_wp2
            go_ret
            exact ⟨rfl, B2.out⟩
          · rw [hq, Bool.true_and] at hd
            rw [hq] at ih
            have HD := Lib.hid hd
            clear hq hd hy
            (go_wp2_with fail; go_fit (ih); rintro e w2 ⟨rfl, b2⟩)
            have B2 := Lib.hid (Ext.trans' HB.out (Ext.trans' (bel1' _ _) b2))
            clear b2
            go_wp2
            go_roundw
            case rel => exact ⟨i + 1, by omega, by go_num, HD, B2⟩
            case measure => simp [intOf]; omega
        · have hd := HD.out
          rw [List.drop_eq_nil_of_le (by rw [HM.out]; omega), okL] at hd
          subst hd
          clear HR HD
          go_wp2
          go_ret
          exact ⟨rfl, HB.out⟩
theorem Good_at (x : Tm) (w : World) (v : Value) (hv : TmV w x v) : Calls Tryz.prog 25 #[v] w fun e w' => e = .returned (.bool (goodT x)) ∧ Below w.heap.size w w' := by
  have S := fun w (h : TmV w x v) => size_at x w v h
  have G := fun w (h : TmV w x v) => good_at 64 x (by omega) w v h
  have hg : goodT x = (decide (sizeN x ≤ 2000) && okT x 64) := by
    unfold goodT okT
    rw [Bool.and_assoc]
  obtain ⟨k, n, s, u, rfl⟩ := hv.four
  have hv0 := TmV.ext (bel1' w (box4 k n s u 31)) _ _ hv
  obtain ⟨p, hp⟩ : ∃ p, min (sizeN x) 2001 = p := ⟨_, rfl⟩
  rw [hp] at S
  rw [hg]
  generalize okT x 64 = f at G ⊢
  clear hg hv
  by_cases h1 : p ≤ 2000
  · rw [decide_eq_true (by omega), Bool.true_and]
    clear hp
    go_enter Tryz.func25, Tryz.ntmps25
    (go_wp2_with fail; go_fit (S _ hv0); rintro e w1 ⟨rfl, b1⟩)
    obtain ⟨e0, e1, e2, e3⟩ := box_cells w 31 _ _ _ _ b1
    have hv1 := TmV.ext b1 _ _ hv0
    (go_wp2_with fail; go_fit (G _ hv1); rintro e w2 ⟨rfl, b2⟩)
    have B2 := Lib.hid (Ext.trans' (bel1' w _) (Ext.trans' b1 b2))
    clear b1 b2
    go_wp2
    go_ret
    exact ⟨rfl, B2.out⟩
  · rw [decide_eq_false (by omega), Bool.false_and]
    clear hp
    go_enter Tryz.func25, Tryz.ntmps25
    (go_wp2_with fail; go_fit (S _ hv0); rintro e w1 ⟨rfl, b1⟩)
    obtain ⟨e0, e1, e2, e3⟩ := box_cells w 31 _ _ _ _ b1
    have B1 := Lib.hid (Ext.trans' (bel1' w _) b1)
    clear b1
    go_wp2
    go_ret
    exact ⟨rfl, B1.out⟩
end Go.Proofs.YtaojalicnnnkmaaGreatDoor
/- A region that draws its order, walked once in the text's order, in a class of worlds. Nothing here speaks of one program. -/
namespace Go
section
variable {P : Program} {ops : Array Oper} {C : World → Prop}
theorem quiet_of {o : Oper} {a : Act} {K : Act → Prop} (h : ∃ v, (∀ w, C w → o.quietAt P a C w v) ∧ K (a.put o.dst v)) : o.quiet P a C K := h
theorem wp_region_class (C : World → Prop) {id : Nat} {Q : Exit → Act → World → Prop} {a : Act} {w : World} {l : List Oper} (hm : P.follows .mixedOrders = true) (hB : Region.lexB .any l.toArray = true) (hC : C w.drew)
    (h : wpQuiet P l.toArray C (fun a' => ∀ w', C w' → Q .normal a' w') l a) : (Code.region id l.toArray true).wp P Q a w :=
  wp_region_quiet hm hB hC (by simpa using h)
end
end Go
