import Derived.RangeFuncNested
import Derived.RangeFuncBound
import Derived.RangeFuncCalls
import Derived.RangeFuncLeaves
import Derived.Shelf.Abstract
import Derived.Shelf.RegionOpen
import Derived.WalkKit
import Derived.OwnWalkIn
import Derived.TacticsInMore
import Derived.LoopNIn
import Derived.LoopIn
import Derived.Test.YtobdhcaoeholhaaGreatDoorHszab
import Derived.Test.YtobdhcaoeholhaaGreatDoorHszaa
import Derived.Shelf.Small.Strs
import Derived.Shelf.Strconv.Itoa0
import Derived.Shelf.Strconv.Itoa1
import Derived.Shelf.LaysM
import Derived.Shelf.Strconv.Itoa2
import Derived.Shelf.Strconv.Itoa3
import Derived.Shelf.Strconv.Itoa4
import Derived.Shelf.Strconv.ParseIntEmpty
import Derived.Shelf.Strconv.Clone
import Derived.Shelf.Strconv.SyntaxError
import Derived.Shelf.LaysC
import Derived.Shelf.Strconv.ToError
import Derived.Shelf.Strconv.Lower
import Derived.Shelf.Strconv.ParseUint10
import Derived.Shelf.Strconv.ParseUint10Empty
import Derived.Shelf.Strconv.ParseUint10Any
import Derived.Shelf.Strconv.ParseInt10
import Derived.Shelf.Strconv.RangeError
import Derived.Shelf.Strconv.ToErrorRange
import Derived.Shelf.Strconv.ParseUintEmpty
import Derived.Shelf.Strconv.ParseUint10b64
import Derived.Shelf.Strconv.ParseUint10b32
import Derived.Shelf.Strconv.ParseUint10b16
import Derived.Shelf.Strconv.ParseUint10b8
import Derived.Shelf.Strconv.ParseUint10At
import Derived.Shelf.Strconv.ParseInt10At64
import Derived.Shelf.Strconv.ParseInt10At32
import Derived.Shelf.Strconv.ParseInt10At16
import Derived.Shelf.Strconv.ParseInt10At8
import Derived.Shelf.Strconv.ParseInt10All
import Derived.Shelf.Strconv.ParseIntPublic10
import Derived.Shelf.Strconv.ErrVarParseInt
import Derived.Shelf.Strings.Search1
import Derived.Shelf.Strings.Prefix
import Derived.Test.YtobdhcaoeholhaaGreatDoorProg
set_option linter.unusedVariables false
set_option linter.unusedSimpArgs false
/- slices.Backward at terms: from the last item to the first. -/
namespace Go.Proofs.YtobdhcaoeholhaaGreatDoor
open Go.RowKit Go.Shelf
attribute [local go_sem] Oper.semAt_some
set_option linter.unusedVariables false

/-- What lies below n, and block b, are kept. -/
def Kq (n b : Nat) (A B : World) : Prop := A.heap.size ≤ B.heap.size ∧ ∀ k, (k < n ∨ k = b) → B.heap[k]? = A.heap[k]?
theorem Kq.refl (n b : Nat) (A : World) : Kq n b A A := ⟨Nat.le_refl _, fun _ _ => rfl⟩
theorem Kq.trans {n b : Nat} {A B C : World} (h : Kq n b A B) (k : Kq n b B C) : Kq n b A C := ⟨Nat.le_trans h.1 k.1, fun i hi => (k.2 i hi).trans (h.2 i hi)⟩
theorem Kq.cell {n b : Nat} {A B : World} (h : Kq n b A B) {p : Addr} (hp : p.block < n ∨ p.block = b) : B.cell? p = A.cell? p := World.cell?_of_block (h.2 p.block hp)
theorem Kq.put {n b : Nat} {w : World} (hn : n ≤ w.heap.size) (hb : b < w.heap.size) (W : World) (l : Nat) (o o' : Obj) (hl : w.heap.size ≤ l) (h : W.heap[l]? = some o) (_ : o.isCells = false) (_ : o.isWalk = false) : Kq n b W (W.putObj l o') := by
  have hlt := (Array.getElem?_eq_some_iff.1 h).1
  exact ⟨(grownBy_putObj' W l o').size, fun k hk => (grownBy_putObj' W l o').block k (by omega) (fun e => by cases e; omega)⟩
theorem Kq.below {n b : Nat} {A B : World} (h : Below A.heap.size A B) (hn : n ≤ A.heap.size) (hb : b < A.heap.size) : Kq n b A B := ⟨h.size, fun k hk => h.block k (by omega)⟩
/-- An item: a term, the value of its Args, in that world. -/
abbrev Item (D : Nat → Bool) (w : World) := { p : TmP // TmV (hide D w) p.1 (pVal p) }
/-- What a round is handed: the index, the item. -/
def back {D : Nat → Bool} {w : World} (xs : List (Item D w)) : List (Nat × Item D w) := xs.reverse.mapIdx fun j x => (xs.length - 1 - j, x)
theorem back_len {D : Nat → Bool} {w : World} (xs : List (Item D w)) : (back xs).length = xs.length := by simp [back]
theorem back_get {D : Nat → Bool} {w : World} {xs : List (Item D w)} {k : Nat} (hk : k < xs.length) : ∃ x : Item D w, xs[xs.length - 1 - k]? = some x ∧ (back xs)[k]? = some (xs.length - 1 - k, x) ∧ (back xs).take (k + 1) = (back xs).take k ++ [(xs.length - 1 - k, x)] := by
  have h1 : xs.length - 1 - k < xs.length := by omega
  have h2 : (back xs)[k]? = some (xs.length - 1 - k, xs[xs.length - 1 - k]) := by
    unfold back
    rw [List.getElem?_mapIdx, List.getElem?_reverse hk, List.getElem?_eq_getElem h1]
    rfl
  exact ⟨xs[xs.length - 1 - k], List.getElem?_eq_getElem h1, h2, by rw [List.take_add_one, h2]; rfl⟩
abbrev encB {D : Nat → Bool} {w : World} (x : Nat × Item D w) : Array Value := #[.int .i64 (x.1 : Int), .agg #[.int .i64 x.2.1.1.k, .int .i64 x.2.1.1.n, .string x.2.1.1.s, x.2.1.2]]
/-- The cells of these items lie there, from this address on. -/
def Rowed {D : Nat → Bool} {w : World} (W : World) (b off : Nat) (xs : List (Item D w)) : Prop := ∀ (i : Nat) (x : Item D w), xs[i]? = some x → ∀ j u, (pCells x.1)[j]? = some u → W.cell? ⟨b, off + i * 4 + j, none⟩ = some u
set_option maxRecDepth 100000 in
set_option maxHeartbeats 4000000 in
theorem back1_in {D : Nat → Bool} {w : World} (F : Fence) (n : Nat) (hf : F.fn 93) (hro : F.round = none) (hn : 1 ≤ n) (l Bs n₀ b off c m : Nat) (xs : List (Item D w)) (hm : xs.length = m) (hreach : m * 56 ≤ 140737488351232) (hb : b < n₀) (J Jx : List (Nat × Item D w) → World → Prop)
    (hY : ∀ pre x W, J pre W → pre.length < m → YieldAt F (n - 1) Tryz.prog l (encB x) W fun e W' =>
      (e = .returned (.bool true) ∧ J (pre ++ [x]) W' ∧ Kq n₀ Bs W W') ∨ (e = .returned (.bool false) ∧ Jx (pre ++ [x]) W'))
    (W : World) (hBs : W.cell? ⟨Bs, 0, none⟩ = some (.slice (some ⟨b, off, none⟩) m c)) (hmc : m ≤ c) (hcm : c ≤ maxLen) (hc : Rowed W b off xs) (h0 : J [] W) :
    CallsIn F n Tryz.prog 93 #[.func (.yield l) #[] #[], .pointer (some ⟨Bs, 0, none⟩)] W fun e W' => (∃ v, e = .returned v) ∧
      ((∃ ys, ys = back xs ∧ J ys W') ∨ (∃ pre, (∃ k, k ≤ m ∧ pre = (back xs).take k) ∧ Jx pre W')) := by
  refine callsIn_of_wp Tryz.func93 rfl hf ?_ hro
  simp only [Tryz.ntmps93, List.size_toArray, List.length_cons, List.length_nil, Nat.reduceAdd, Nat.reduceSub, Array.replicate_succ, Array.replicate_zero, List.push_toArray, List.append_toArray, List.nil_append, List.cons_append]
  have HM := Lib.hid hm
  have HC := Lib.hid hc
  clear hm hc
  gi_wp2
  gi_loopw [3] (fun i wr => ∃ (k : Nat) (z : Int), k ≤ m ∧ i = .int .i64 z ∧ z = (m : Int) - 1 - k ∧ J ((back xs).take k) wr ∧ Kq n₀ Bs W wr)
    (fun i _ => (intOf i + 1).toNat)
  case atStart => exact ⟨0, (m : Int) - 1, Nat.zero_le _, by go_num, by omega, by simpa using h0, Kq.refl _ _ _⟩
  case round =>
    obtain ⟨k, z, hk, rfl, hz, hJs, hnx⟩ := hrel
    have hbw : wr.cell? ⟨Bs, 0, none⟩ = some (.slice (some ⟨b, off, none⟩) m c) := (hnx.cell (p := ⟨Bs, 0, none⟩) (Or.inr rfl)).trans hBs
    by_cases hlt : k < m
    · obtain ⟨⟨⟨t, u⟩, htv⟩, hx1, hx2, hx3⟩ := back_get (xs := xs) (k := k) (by rw [HM.out]; exact hlt)
      rw [HM.out] at hx1 hx2 hx3
      obtain ⟨fn, tmps, assign, body, hy, hR⟩ := hY _ (m - 1 - k, ⟨(t, u), htv⟩) wr hJs (by rw [List.length_take, back_len, HM.out]; omega)
      (try dsimp only at hy)
      obtain ⟨i, hi⟩ : ∃ i, m - 1 - k = i := ⟨_, rfl⟩
      have hzi : z = i := by omega
      have him : i < m := by omega
      rw [hi] at hx1 hx2 hx3 hy hR
      have cc := fun j u' hu => (hnx.cell (p := ⟨b, off + i * 4 + j, none⟩) (Or.inl hb)).trans (HC.out i _ hx1 j u' hu)
      have c0 := cc 0 _ rfl
      have c1 := cc 1 _ rfl
      have c2 := cc 2 _ rfl
      have c3 := cc 3 _ rfl
      rw [Nat.add_zero] at c0
      clear cc
      subst hzi
      have HI := Lib.hid hi
      clear hz hi hx1 hx2
      have HX := Lib.hid hx3
      clear hx3
      gi_wp2
      refine hR.mono ?_
      rintro e W3 (⟨rfl, hJ3, hk3⟩ | ⟨rfl, hJx3⟩)
      · gi_wp2
        go_roundw
        case rel => exact ⟨k + 1, (i : Int) - 1, by omega, by go_num, by have := HI.out; omega, by rw [HX.out]; exact hJ3, hnx.trans hk3⟩
        case measure => simp [intOf] <;> omega
      · gi_wp2
        refine bodyPost_ret (results_none rfl _ _ _) rfl ?_
        exact ⟨⟨_, rfl⟩, .inr ⟨_, ⟨k + 1, by omega, HX.out.symm⟩, hJx3⟩⟩
    · have hzn : z < 0 := by omega
      have hkm : k = m := by omega
      have HJ := Lib.hid hJs
      subst hkm
      clear hz hJs hY
      gi_wp2
      go_end0
      have h := HJ.out
      rw [List.take_of_length_le (by rw [back_len, HM.out]; exact Nat.le_refl _)] at h
      exact ⟨⟨_, rfl⟩, .inl ⟨_, rfl, h⟩⟩
set_option maxRecDepth 100000 in
set_option maxHeartbeats 1000000 in
theorem back1_nil_in {D : Nat → Bool} {w : World} (F : Fence) (n : Nat) (hf : F.fn 93) (hro : F.round = none) (l Bs c : Nat) (ao : Option Addr) (J : List (Nat × Item D w) → World → Prop)
    (W : World) (hBs : W.cell? ⟨Bs, 0, none⟩ = some (.slice ao 0 c)) (h0 : J [] W) :
    CallsIn F n Tryz.prog 93 #[.func (.yield l) #[] #[], .pointer (some ⟨Bs, 0, none⟩)] W fun e W' => (∃ v, e = .returned v) ∧ J [] W' := by
  refine callsIn_of_wp Tryz.func93 rfl hf ?_ hro
  simp only [Tryz.ntmps93, List.size_toArray, List.length_cons, List.length_nil, Nat.reduceAdd, Nat.reduceSub, Array.replicate_succ, Array.replicate_zero, List.push_toArray, List.append_toArray, List.nil_append, List.cons_append]
  gi_wp2
  gi_loopw [3] (fun i wr => ∃ z : Int, i = .int .i64 z ∧ z = -1 ∧ J [] wr) (fun _ _ => 0)
  case atStart => exact ⟨-1, rfl, rfl, h0⟩
  case round =>
    obtain ⟨z, rfl, hz, hJs⟩ := hrel
    have hzn : z < 0 := by omega
    clear hz
    gi_wp2
    go_end0
    exact ⟨⟨_, rfl⟩, hJs⟩
set_option maxHeartbeats 1000000 in
theorem back_in (F : Fence) (n : Nat) (hf : F.fn 58) (hro : F.round = none) (a : Option Addr) (len cap : Nat) (w : World) :
    CallsIn F n Tryz.prog 58 #[.slice a len cap] w fun e w' => e = .returned (.func (.func 93) #[] #[.pointer (some ⟨w.heap.size, 0, none⟩)]) ∧ w' = w.alloc (.cells #[.slice a len cap] 25) := by
  refine callsIn_of_wp Tryz.func58 rfl hf ?_ hro
  simp only [Tryz.ntmps58, List.size_toArray, List.length_cons, List.length_nil, Nat.reduceAdd, Nat.reduceSub, Array.replicate_succ, Array.replicate_zero, List.push_toArray, List.append_toArray, List.nil_append, List.cons_append]
  gi_wp2
  go_ret
  exact ⟨rfl, rfl⟩
/-- These items are what the slice holds. -/
def HasItems {D : Nat → Bool} {w : World} (W : World) (ao : Option Addr) (m c : Nat) (xs : List (Item D w)) : Prop :=
  xs.length = m ∧ m ≤ c ∧ c ≤ maxLen ∧ m * 56 ≤ 140737488351232 ∧ (m = 0 ∨ ∃ b off, ao = some ⟨b, off, none⟩ ∧ b < w.heap.size ∧ Rowed W b off xs)
theorem items_of {D : Nat → Bool} {w : World} {v : Value} {l : List Tm} (h : Tms (hide D w) v l) : ∃ (ao : Option Addr) (c : Nat) (xs : List (Item D w)), v = .slice ao l.length c ∧ xs.map (fun x => x.1.1) = l ∧ HasItems w ao l.length c xs := by
  obtain ⟨a, c, h1, h2, h3, h4, h5⟩ := h
  unfold BIG at h4
  rcases h5 with rfl | ⟨b, off, rfl, hb, hr⟩
  · exact ⟨a, c, [], h1, rfl, rfl, h2, h3, h4, Or.inl rfl⟩
  · obtain ⟨ps, e1, e2, e3⟩ := hr.pairs
    have hlen : ps.length = l.length := by rw [← e1, List.length_map]
    refine ⟨_, c, ps.pmap (fun p hp => (⟨p, hp⟩ : Item D w)) e2, h1, ?_, ?_, h2, h3, h4, Or.inr ⟨b, off, rfl, by rwa [hide_size] at hb, fun i x hx j u hu => ?_⟩⟩
    · rw [List.map_pmap]
      simpa using e1
    · simp [hlen]
    · rw [List.getElem?_pmap] at hx
      simp only [Option.pmap_eq_some_iff] at hx
      obtain ⟨p, hp, hpi, rfl⟩ := hx
      have hj : j < 4 := (List.getElem?_eq_some_iff.1 hu).1
      have := e3 (i * 4 + j) u (by rw [flat_get pCells_len ps i p hpi j hj]; exact hu)
      rw [Nat.add_assoc]
      exact (Stays.unhide D w).2 _ _ this
theorem back_stops {D : Nat → Bool} {w : World} (F : Fence) (n : Nat) (hf : F.fn 93) (hro : F.round = none) (hn : 1 ≤ n) (Bs n₀ : Nat) (ao : Option Addr) (m c : Nat) (xs : List (Item D w)) (W0 : World) (hW0 : Below w.heap.size w W0) (hn₀ : w.heap.size ≤ n₀) (hBs : Bs < W0.heap.size)
    (hc : W0.cell? ⟨Bs, 0, none⟩ = some (.slice ao m c)) (hI : HasItems w ao m c xs) :
    SeqStopsK F n Tryz.prog 93 #[.pointer (some ⟨Bs, 0, none⟩)] (encB (D := D) (w := w)) (Kq n₀ Bs) (fun ys => ys = back xs)
      (fun pre => ∃ k, k ≤ m ∧ pre = (back xs).take k) m W0 := fun l J Jx W hW _ _ hY h0 => by
  have hc' := (hW.cell (p := ⟨Bs, 0, none⟩) (by show Bs < _; exact hBs)).trans hc
  obtain ⟨h1, h2, h3, h4, h5⟩ := hI
  by_cases hm0 : m = 0
  · subst hm0
    obtain rfl : xs = [] := List.length_eq_zero_iff.1 h1
    exact (back1_nil_in F n hf hro l Bs c ao J W hc' h0).mono fun e W' ⟨he, hj⟩ => ⟨he, .inl ⟨_, rfl, hj⟩⟩
  · obtain ⟨b, off, rfl, hb, hr⟩ := h5.resolve_left hm0
    refine back1_in F n hf hro hn l Bs n₀ b off c m xs h1 h4 (by omega) J Jx hY W hc' h2 h3 (fun i x hx j u hu => ?_) h0
    have hbw : Below w.heap.size w W := hW0.trans (hW.mono hW0.size)
    exact cell_later hbw (hr i x hx j u hu)
end Go.Proofs.YtobdhcaoeholhaaGreatDoor
/- Package term: List. -/
namespace Go.Proofs.YtobdhcaoeholhaaGreatDoor
open Go.RowKit Go.Shelf
attribute [local go_sem] Oper.semAt_some
set_option linter.unusedVariables false

theorem val_slice {w : World} {t : Tm} {u : Value} (h : TmV w t (pVal (t, u))) : ∃ a c, u = .slice a t.args.length c := by
  cases t with
  | mk k n s ts =>
    obtain ⟨u', hu', _, _, _, hq⟩ := tmV_iff.1 h
    simp only [pVal, Value.agg.injEq] at hu'
    have h2 := congrArg Array.toList hu'
    simp only [List.cons.injEq, and_true] at h2
    obtain ⟨a, c, e, _⟩ := hq.len
    exact ⟨a, c, by rw [h2.2.2.2, e]; rfl⟩
/-- The two boxes are hidden, too. -/
def hid2 (D : Nat → Bool) (B : Nat) : Nat → Bool := fun k => D k || k == B || k == B + 1
theorem plus_low {D : Nat → Bool} {B k : Nat} (hk : k < B) (h : D k = false) : hid2 D B k = false := by
  unfold hid2
  rw [h, beq_false_of_ne (by omega), beq_false_of_ne (by omega)]
  rfl
theorem plus_high {D : Nat → Bool} {B k : Nat} (h : D k = false) (hk : B + 2 ≤ k) : hid2 D B k = false := by
  unfold hid2
  rw [h, beq_false_of_ne (by omega), beq_false_of_ne (by omega)]
  rfl
theorem plus_ne {D : Nat → Bool} {B k : Nat} (h : hid2 D B k = false) : D k = false ∧ k ≠ B ∧ k ≠ B + 1 := by
  unfold hid2 at h
  simp only [Bool.or_eq_false_iff, beq_eq_false_iff_ne] at h
  exact ⟨h.1.1, h.1.2, h.2⟩
/-- Between two rounds: the list so far in its box. -/
structure ListAt (D : Nat → Bool) (w W : World) (T : Tm) (u : Value) : Prop where
  tm : TmV (hide (hid2 D w.heap.size) W) T (pVal (T, u))
  b0 : W.cell? ⟨w.heap.size, 0, none⟩ = some (.int .i64 T.k)
  b1 : W.cell? ⟨w.heap.size, 1, none⟩ = some (.int .i64 T.n)
  b2 : W.cell? ⟨w.heap.size, 2, none⟩ = some (.string T.s)
  b3 : W.cell? ⟨w.heap.size, 3, none⟩ = some u
  fz : ∀ j, W.frozen? ⟨w.heap.size, j, none⟩ = false
  fz1 : ∀ j, W.frozen? ⟨w.heap.size + 1, j, none⟩ = false
  r0 : W.cell? ⟨w.heap.size + 1, 0, none⟩ = some (.int .i64 0)
  r1 : W.cell? ⟨w.heap.size + 1, 1, none⟩ = some (.int .i64 0)
  r2 : W.cell? ⟨w.heap.size + 1, 2, none⟩ = some (.string ⟨#[]⟩)
  r3 : W.cell? ⟨w.heap.size + 1, 3, none⟩ = some (.slice none 0 0)
  bel : Below w.heap.size w W
  big : w.heap.size + 3 ≤ W.heap.size
theorem stays_kept {D : Nat → Bool} {A B : World} {row : Option Nat} (hg : A.grownBy B row) (hr : ∀ r, row = some r → ∃ o : Obj, A.heap[r]? = some o ∧ o.isCells = false) : Stays (hide D A) (hide D B) := by
  refine ⟨by rw [hide_size, hide_size]; exact hg.size, fun a v hv => ?_⟩
  cases hd : D a.block with
  | true => rw [hide_gone D A a hd] at hv; cases hv
  | false =>
    rw [hide_cell D A a hd] at hv
    rw [hide_cell D B a hd]
    exact cell_kept hv hg hr
theorem ListAt.kept {D : Nat → Bool} {w A B : World} {T : Tm} {u : Value} {row : Option Nat} {C : Nat} (h : ListAt D w A T u) (hC : w.heap.size ≤ C) (hg : A.grownBy B row) (hr : ∀ r, row = some r → C ≤ r ∧ ∃ o : Obj, A.heap[r]? = some o ∧ o.isCells = false) : ListAt D w B T u := by
  have hr' := fun r e => (hr r e).2
  have zf : ∀ {b j v}, A.cell? ⟨b, 0, none⟩ = some v → B.frozen? ⟨b, j, none⟩ = A.frozen? ⟨b, j, none⟩ := fun {b j v} hv => by
    obtain ⟨o, ho, hc⟩ := cells_of_cell hv
    exact World.frozen?_of_block (grownBy_keeps_cells hg hr' ho hc)
  exact { tm := TmV.stay (stays_kept hg hr') _ _ h.tm, b0 := cell_kept h.b0 hg hr', b1 := cell_kept h.b1 hg hr', b2 := cell_kept h.b2 hg hr', b3 := cell_kept h.b3 hg hr', fz := fun j => (zf h.b0).trans (h.fz j), fz1 := fun j => (zf h.r0).trans (h.fz1 j), r0 := cell_kept h.r0 hg hr', r1 := cell_kept h.r1 hg hr', r2 := cell_kept h.r2 hg hr', r3 := cell_kept h.r3 hg hr', bel := h.bel.grown hg (by have := h.bel.size; omega) (fun k e => by have := (hr k e).1; omega), big := Nat.le_trans h.big hg.size }
theorem ListAt.box {D : Nat → Bool} {w W w4 : World} {T : Tm} {u : Value} {o : Obj} (h : ListAt D w W T u) (hb : Below (W.alloc o).heap.size (W.alloc o) w4) :
    w4.cell? ⟨w.heap.size, 0, none⟩ = some (.int .i64 T.k) ∧ w4.cell? ⟨w.heap.size, 1, none⟩ = some (.int .i64 T.n) ∧ w4.cell? ⟨w.heap.size, 2, none⟩ = some (.string T.s) ∧ w4.cell? ⟨w.heap.size, 3, none⟩ = some u ∧ ∀ j, w4.frozen? ⟨w.heap.size, j, none⟩ = false := by
  have hbig := h.big
  have k0 := (Ext.trans' (bel1' W o) hb).block w.heap.size (by omega)
  exact ⟨(World.cell?_of_block (a := ⟨w.heap.size, 0, none⟩) k0).trans h.b0, (World.cell?_of_block (a := ⟨w.heap.size, 1, none⟩) k0).trans h.b1, (World.cell?_of_block (a := ⟨w.heap.size, 2, none⟩) k0).trans h.b2, (World.cell?_of_block (a := ⟨w.heap.size, 3, none⟩) k0).trans h.b3,
    fun j => by rw [World.frozen?_of_block k0]; exact h.fz j⟩
theorem set_kept {w4 : World} {B : Nat} (v0 v1 v2 v3 : Value) (k : Nat) (hk : k ≠ B) : (setFour w4 B v0 v1 v2 v3).heap[k]? = w4.heap[k]? := by
  unfold setFour
  rw [Below.heap_setCell _ _ _ _ hk, Below.heap_setCell _ _ _ _ hk, Below.heap_setCell _ _ _ _ hk, Below.heap_setCell _ _ _ _ hk]
theorem set_size (w4 : World) (B : Nat) (v0 v1 v2 v3 : Value) : (setFour w4 B v0 v1 v2 v3).heap.size = w4.heap.size := by
  unfold setFour
  simp [World.setCell]
/-- A round's making. -/
theorem ListAt.next {D : Nat → Bool} {w W w4 : World} {T t : Tm} {u ut : Value} {a : Option Addr} {c' : Nat} {o : Obj} (ho : Old D w) (h : ListAt D w W T u) (ht : TmV (hide D w) t (pVal (t, ut)))
    (hR : RowP w4 ((W.alloc o).heap.size + 1) 27 (.slice a 2 c') [(t, ut), (T, u)]) (hb : Below (W.alloc o).heap.size (W.alloc o) w4) :
    ListAt D w (setFour w4 w.heap.size (.int .i64 2) (.int .i64 0) (.string ⟨#[46]⟩) (.slice a 2 c')) (consT t T) (.slice a 2 c') ∧ KeepsOthers W (setFour w4 w.heap.size (.int .i64 2) (.int .i64 0) (.string ⟨#[46]⟩) (.slice a 2 c')) := by
  have hbig := h.big
  have hwW := h.bel
  have hW4 : Below W.heap.size W w4 := Ext.trans' (bel1' W o) hb
  have hw4 : Below w.heap.size w w4 := hwW.trans (hW4.mono hwW.size)
  have hF := four_below (.int .i64 2) (.int .i64 0) (.string ⟨#[46]⟩) (.slice a 2 c') hw4 (Nat.le_refl w.heap.size)
  have kb : ∀ k, k < W.heap.size → w4.heap[k]? = W.heap[k]? := fun k hk => hW4.block k hk
  have c0 := (World.cell?_of_block (a := ⟨w.heap.size, 0, none⟩) (kb w.heap.size (by omega))).trans h.b0
  have c1 := (World.cell?_of_block (a := ⟨w.heap.size, 1, none⟩) (kb w.heap.size (by omega))).trans h.b1
  have c2 := (World.cell?_of_block (a := ⟨w.heap.size, 2, none⟩) (kb w.heap.size (by omega))).trans h.b2
  have c3 := (World.cell?_of_block (a := ⟨w.heap.size, 3, none⟩) (kb w.heap.size (by omega))).trans h.b3
  obtain ⟨d0, d1, d2, d3⟩ := four_cells (.int .i64 2) (.int .i64 0) (.string ⟨#[46]⟩) (.slice a 2 c') c0 c1 c2 c3
  have far := fun j => four_far w4 w.heap.size (.int .i64 2) (.int .i64 0) (.string ⟨#[46]⟩) (.slice a 2 c') (w.heap.size + 1) j (by omega)
  have fr : ∀ b j, (setFour w4 w.heap.size (.int .i64 2) (.int .i64 0) (.string ⟨#[46]⟩) (.slice a 2 c')).frozen? ⟨b, j, none⟩ = w4.frozen? ⟨b, j, none⟩ := fun b j => by
    unfold setFour
    rw [World.frozen?_setCell, World.frozen?_setCell, World.frozen?_setCell, World.frozen?_setCell]
  have k1 := kb (w.heap.size + 1) (by omega)
  have fh : ∀ k, k ≠ w.heap.size → (setFour w4 w.heap.size (.int .i64 2) (.int .i64 0) (.string ⟨#[46]⟩) (.slice a 2 c')).heap[k]? = w4.heap[k]? := fun k hk => by
    unfold setFour
    rw [Below.heap_setCell _ _ _ _ hk, Below.heap_setCell _ _ _ _ hk, Below.heap_setCell _ _ _ _ hk, Below.heap_setCell _ _ _ _ hk]
  have hsz : (setFour w4 w.heap.size (.int .i64 2) (.int .i64 0) (.string ⟨#[46]⟩) (.slice a 2 c')).heap.size = w4.heap.size := by
    unfold setFour
    simp [World.setCell]
  refine ⟨{ tm := ?_, b0 := d0, b1 := d1, b2 := d2, b3 := d3, fz := fun j => by rw [fr, World.frozen?_of_block (kb w.heap.size (by omega))]; exact h.fz j, fz1 := fun j => by rw [fr, World.frozen?_of_block k1]; exact h.fz1 j, r0 := by rw [far, World.cell?_of_block k1]; exact h.r0, r1 := by rw [far, World.cell?_of_block k1]; exact h.r1, r2 := by rw [far, World.cell?_of_block k1]; exact h.r2, r3 := by rw [far, World.cell?_of_block k1]; exact h.r3, bel := hF, big := by rw [hsz]; have := hW4.size; omega }, ?_⟩
  · have hR2 : RowP (setFour w4 w.heap.size (.int .i64 2) (.int .i64 0) (.string ⟨#[46]⟩) (.slice a 2 c')) ((W.alloc o).heap.size + 1) 27 (.slice a 2 c') [(t, ut), (T, u)] := four_row _ _ _ _ hR (by simp; omega)
    have hT := (hR2.hide (D := hid2 D w.heap.size) (fun k hk _ => plus_high (ho k (by simp at hk; omega)) (by simp at hk; omega))).terms (fun p hp => by
      simp at hp
      rcases hp with rfl | rfl
      · exact TmV.stay (Stays.below hF fun k hk hd => plus_low hk hd) _ _ ht
      · refine TmV.stay (Stays.hide (by rw [hsz]; exact hW4.size) fun k hk hd => ⟨hd, ?_⟩) _ _ h.tm
        rw [fh k (plus_ne hd).2.1]
        exact kb k hk) (by unfold BIG; simp)
    exact tmV_iff.2 ⟨_, rfl, by unfold BIG; decide, i64_2, i64_0, hT⟩
  · refine ⟨by rw [hsz]; exact hW4.size, fun k o' hk ho' => ?_⟩
    have hne : k ≠ w.heap.size := fun e => by
      obtain ⟨o2, ho2, hc2⟩ := cells_of_cell h.b0
      rw [e] at hk
      have : o2 = o' := Option.some.inj (ho2.symm.trans hk)
      rw [this, ho'] at hc2
      cases hc2
    rw [fh k hne, kb k (Array.getElem?_eq_some_iff.1 hk).1]
    exact hk
end Go.Proofs.YtobdhcaoeholhaaGreatDoor
/- Package term: List, walked. -/
namespace Go.Proofs.YtobdhcaoeholhaaGreatDoor
open Go.RowKit Go.Shelf
attribute [local go_sem] Oper.semAt_some
set_option linter.unusedVariables false

theorem back_terms {D : Nat → Bool} {w : World} (xs : List (Item D w)) : (back xs).map (fun x => x.2.1.1) = (xs.map (fun x => x.1.1)).reverse := by
  unfold back
  rw [← List.map_reverse]
  apply List.ext_getElem?
  intro i
  rw [List.getElem?_map, List.getElem?_mapIdx, List.getElem?_map]
  cases xs.reverse[i]? <;> rfl
theorem list_rev {D : Nat → Bool} {w : World} (xs : List (Item D w)) : ((back xs).map (fun x => x.2.1.1)).reverse = xs.map (fun x => x.1.1) := by rw [back_terms, List.reverse_reverse]
set_option maxRecDepth 100000 in
set_option maxHeartbeats 8000000 in
theorem list_in {D : Nat → Bool} {w : World} {v : Value} {l : List Tm} {x : Tm} {vt : Value} (ho : Old D w) (hl : Tms (hide D w) v l) (hx : TmV (hide D w) x vt) :
    Calls Tryz.prog 29 #[v, vt] w fun e w' => ∃ r, e = .returned r ∧ TmV (hide D w') (listT l x) r ∧ Below w.heap.size w w' := by
  obtain ⟨ao, c, xs, rfl, hxs, hI⟩ := items_of hl
  obtain ⟨u, rfl⟩ := hx.pair
  obtain ⟨au, cu, rfl⟩ := val_slice hx.bare
  obtain ⟨m, hm⟩ : ∃ m, l.length = m := ⟨_, rfl⟩
  rw [hm] at hI ⊢
  have HXS := Lib.hid hxs
  clear hl hm hxs
  obtain ⟨kx, hkx⟩ : ∃ k, x.k = k := ⟨_, rfl⟩
  obtain ⟨nx, hnx⟩ : ∃ k, x.n = k := ⟨_, rfl⟩
  obtain ⟨sx, hsx⟩ : ∃ k, x.s = k := ⟨_, rfl⟩
  obtain ⟨mx, hmx⟩ : ∃ k, x.args.length = k := ⟨_, rfl⟩
  have hS : ∀ W, Below ((w.alloc (box4 kx nx sx (.slice au mx cu) 27)).alloc (box4 0 0 ⟨#[]⟩ (.slice none 0 0) 27)).heap.size ((w.alloc (box4 kx nx sx (.slice au mx cu) 27)).alloc (box4 0 0 ⟨#[]⟩ (.slice none 0 0) 27)) W → w.heap.size + 3 ≤ W.heap.size → ListAt D w W x (.slice au mx cu) := fun W hb hbig => by
    have hw : Below w.heap.size w W := Ext.trans' ((bel1' _ _).alloc (by simp) _) hb
    rw [hmx] at hx
    exact { tm := TmV.stay (Stays.below hw fun k hk hd => plus_low hk hd) _ _ hx, b0 := by rw [hkx]; exact cell_later hb (by simp), b1 := by rw [hnx]; exact cell_later hb (by simp), b2 := by rw [hsx]; exact cell_later hb (by simp), b3 := cell_later hb (by simp), fz := fun j => by rw [World.frozen?_of_block (hb.block w.heap.size (by simp <;> omega))]; simp, fz1 := fun j => by rw [World.frozen?_of_block (hb.block (w.heap.size + 1) (by simp <;> omega))]; simp, r0 := cell_later hb (by simp), r1 := cell_later hb (by simp), r2 := cell_later hb (by simp), r3 := cell_later hb (by simp), bel := hw, big := hbig }
  show Calls Tryz.prog 29 #[.slice ao m c, .agg #[.int .i64 x.k, .int .i64 x.n, .string x.s, .slice au x.args.length cu]] w _
  rw [hkx, hnx, hsx, hmx]
  have HS := Lib.hid hS
  have HO := Lib.hid ho
  have HI := Lib.hid hI
  clear hkx hnx hsx hmx hS ho hx hI
  refine (callsIn_wide (n := 6)).1 ?_
  refine callsIn_of_wp_marks Tryz.func29 rfl trivial ?_ rfl
  simp only [Tryz.ntmps29, List.size_toArray, List.length_cons, List.length_nil, Nat.reduceAdd, Nat.reduceSub, Array.replicate_succ, Array.replicate_zero, List.push_toArray, List.append_toArray, List.nil_append, List.cons_append]
  gi_wp2_with (refine ⟨trivial, ?_⟩; gi_at_call 58; refine (back_in Fence.wide (6 - 1) trivial rfl _ _ _ _).mono ?_; rintro e w' ⟨rfl, rfl⟩)
  have hsz : (((w.alloc (box4 kx nx sx (.slice au mx cu) 27)).alloc (box4 0 0 ⟨#[]⟩ (.slice none 0 0) 27)).alloc (.cells #[.slice ao m c] 25)).heap.size = w.heap.size + 3 := by simp
  have hbx : (((w.alloc (box4 kx nx sx (.slice au mx cu) 27)).alloc (box4 0 0 ⟨#[]⟩ (.slice none 0 0) 27)).alloc (.cells #[.slice ao m c] 25)).cell? ⟨w.heap.size + 2, 0, none⟩ = some (.slice ao m c) := by
    have h := cell_new ((w.alloc (box4 kx nx sx (.slice au mx cu) 27)).alloc (box4 0 0 ⟨#[]⟩ (.slice none 0 0) 27)) #[.slice ao m c] 25 0 (.slice ao m c) rfl
    rw [add_plain, show ((w.alloc (box4 kx nx sx (.slice au mx cu) 27)).alloc (box4 0 0 ⟨#[]⟩ (.slice none 0 0) 27)).heap.size = w.heap.size + 2 by simp] at h
    exact h
  have hst := HS.out _ (bel1' _ (.cells #[.slice ao m c] 25)) (by rw [hsz]; exact Nat.le_refl _)
  obtain ⟨W0, hW0⟩ : ∃ W0, ((w.alloc (box4 kx nx sx (.slice au mx cu) 27)).alloc (box4 0 0 ⟨#[]⟩ (.slice none 0 0) 27)).alloc (.cells #[.slice ao m c] 25) = W0 := ⟨_, rfl⟩
  unfold box4 at hW0
  unfold box4 at hsz hbx hst
  rw [hW0] at hsz hbx hst ⊢
  clear hW0 HS
  have HO2 := HO.out
  refine wpIn_rangeFunc_ownH rfl (by omega) (gf := 93) (lb := #[.pointer (some ⟨w.heap.size + 1 + 1, 0, none⟩)]) rfl trivial (enters_of Tryz.func93 (by kernel_rfl) rfl)
    (back_stops Fence.wide (6 - 1) trivial rfl (by omega) (w.heap.size + 1 + 1) w.heap.size ao m c xs W0 hst.bel (Nat.le_refl _) (by omega) hbx HI.out) Kq.trans (Kq.put (by omega) (by omega)) (Below.refl _ _) (fun _ => rfl)
    (fun pre W => ∃ T u, T = listT ((pre.map (fun x => x.2.1.1)).reverse) x ∧ ListAt D w W T u)
    (fun _ _ _ => False)
    (fun pre A B row ⟨T, u, h1, h2⟩ hg hr => ⟨T, u, h1, h2.kept (by omega) hg hr⟩)
    (fun _ _ _ _ _ hs _ _ => hs)
    ⟨x, _, rfl, hst⟩
    (fun y a' W => ∃ Bx, w.heap.size + 3 ≤ Bx ∧ (W.cell? ⟨Bx, 0, none⟩ = some (.int .i64 y.2.1.1.k) ∧ W.cell? ⟨Bx, 1, none⟩ = some (.int .i64 y.2.1.1.n) ∧ W.cell? ⟨Bx, 2, none⟩ = some (.string y.2.1.1.s) ∧ W.cell? ⟨Bx, 3, none⟩ = some y.2.1.2) ∧
      a' = { tmps := #[.slice ao m c, .agg #[.int .i64 kx, .int .i64 nx, .string sx, .slice au mx cu], undef, .pointer (some ⟨w.heap.size, 0, none⟩), .pointer (some ⟨w.heap.size + 1, 0, none⟩), undef, .pointer (some ⟨Bx, 0, none⟩), .slice ao m c, .func (.func 93) #[] #[.pointer (some ⟨w.heap.size + 1 + 1, 0, none⟩)], .int .i64 (y.1 : Int), .agg #[.int .i64 y.2.1.1.k, .int .i64 y.2.1.1.n, .string y.2.1.1.s, y.2.1.2], undef, undef, undef, undef, undef], defers := [] })
    (fun y a' _ A B row ⟨Bx, h0, h1, h2⟩ hg hr => ⟨Bx, h0, ⟨cell_kept h1.1 hg (fun r e => (hr r e).2), cell_kept h1.2.1 hg (fun r e => (hr r e).2), cell_kept h1.2.2.1 hg (fun r e => (hr r e).2), cell_kept h1.2.2.2 hg (fun r e => (hr r e).2)⟩, h2⟩)
    ?assign ?body ?done ?stop
  case assign =>
    rintro lp pre ⟨i, ⟨⟨t, ut⟩, htv⟩⟩ W K ⟨T, u, hT, hLA⟩ hK
    have htv2 : TmV w t (pVal (t, ut)) := htv.bare
    obtain ⟨at', ct', hut⟩ := val_slice htv2
    obtain ⟨mt, hmt⟩ : ∃ mt, t.args.length = mt := ⟨_, rfl⟩
    rw [hmt] at hut
    clear htv2 hmt
    subst hut
    have hb1 := hLA.bel
    have hb2 := hLA.big
    gi_wp2
    exact hK _ _ ((KeepsOthers.alloc _ _).from _) (Kq.below (bel1' W _) hb1.size (by omega)) ⟨T, u, hT, hLA.kept (C := w.heap.size) (Nat.le_refl _) (World.grownBy_alloc W _ none) (fun r e => by cases e)⟩ ⟨W.heap.size, hb2, ⟨by simp, by simp, by simp, by simp⟩, rfl⟩
  case body =>
    rintro lp pre ⟨i, ⟨⟨t, ut⟩, htv⟩⟩ a' W hlp ⟨r, hr⟩ ⟨T, u, hT, hLA⟩ ⟨Bx, hBx, ⟨f0, f1, f2, f3⟩, rfl⟩ hlt
    have htv2 : TmV W t (pVal (t, ut)) := TmV.ext hLA.bel _ _ htv.bare
    obtain ⟨at', ct', hut⟩ := val_slice htv2
    obtain ⟨aT, cT, huT⟩ := val_slice hLA.tm.bare
    have hone : ∀ v ∈ ([(t, ut), (T, u)] : List TmP).flatMap pCells, v.oneCell' = true := pCells_one _ (w := W) (fun p hp => by
      simp at hp
      rcases hp with rfl | rfl
      · exact htv2
      · exact hLA.tm.bare)
    obtain ⟨mt, hmt⟩ : ∃ mt, t.args.length = mt := ⟨_, rfl⟩
    obtain ⟨mT, hmT⟩ : ∃ mt, T.args.length = mt := ⟨_, rfl⟩
    rw [hmt] at hut
    rw [hmT] at huT
    have e0 := hLA.b0
    have e1 := hLA.b1
    have e2 := hLA.b2
    have e3 := hLA.b3
    have HTV : Hid (TmV (hide D w) t (pVal (t, ut))) := Lib.hid htv
    have HT := Lib.hid hT
    have HLA := Lib.hid hLA
    clear htv2 hmt hmT hT hLA
    subst hut huT
    have HC := fun (W1 : World) (ad : Addr) (hsrc : ∀ (j : Nat) (v : Value), (([(t, .slice at' mt ct'), (T, .slice aT mT cT)] : List TmP).flatMap pCells)[j]? = some v → W1.cell? (ad.add j) = some v) => comp_ps (w := W1) (ao := some ad) (m := 2) (c := 2) [(t, .slice at' mt ct'), (T, .slice aT mT cT)] ⟨#[46]⟩ rfl (by unfold BIG; omega) hone (Or.inr ⟨ad, rfl, hsrc⟩)
    gi_wp2_with (refine ⟨trivial, ?_⟩; gi_at_call 19; refine (CallsIn.inRound lp (callsIn_wide.2 (HC _ ⟨W.heap.size, 0, none⟩ (fun j v hv => cell_new _ _ _ j v hv)))).mono ?_; rintro e w4 ⟨a4, c4, rfl, hR, hB⟩; obtain ⟨g0, g1, g2, g3, gf⟩ := HLA.out.box hB)
    obtain ⟨hn1, hn2⟩ := HLA.out.next HO2 HTV.out hR hB
    have hbig := HLA.out.big
    refine ⟨hn2.from _, ?_, ⟨consT t T, .slice a4 2 c4, by rw [HT.out]; simp [listT], hn1⟩⟩
    show Kq w.heap.size (w.heap.size + 1 + 1) W (setFour w4 w.heap.size (.int .i64 2) (.int .i64 0) (.string ⟨#[46]⟩) (.slice a4 2 c4))
    have hWw := Ext.trans' (bel1' W _) hB
    exact ⟨by rw [set_size]; exact hWw.size, fun k hk => (set_kept _ _ _ _ k (by omega)).trans (hWw.block k (by omega))⟩
  case done =>
    rintro Dd ys W hD rfl ⟨T, u, hT, hLA⟩ hK
    obtain ⟨aT, cT, huT⟩ := val_slice hLA.tm.bare
    obtain ⟨mT, hmT⟩ : ∃ mT, T.args.length = mT := ⟨_, rfl⟩
    rw [hmT] at huT
    have e0 := hLA.b0
    have e1 := hLA.b1
    have e2 := hLA.b2
    have e3 := hLA.b3
    have q0 := hLA.r0
    have q1 := hLA.r1
    have q2 := hLA.r2
    have q3 := hLA.r3
    have qf := hLA.fz1
    have hT2 : T = listT l x := by rw [hT, list_rev, HXS.out]
    have HT := Lib.hid hT2
    have HLA := Lib.hid hLA
    clear hmT hT hT2 hLA
    subst huT
    gi_wp2
    have hK5 : (setFour W (w.heap.size + 1) (.int .i64 T.k) (.int .i64 T.n) (.string T.s) (.slice aT mT cT)).heap[Dd]? = some (.deferred (some [])) := (set_kept _ _ _ _ Dd (by omega)).trans hK
    obtain ⟨d0, d1, d2, d3⟩ := four_cells (.int .i64 T.k) (.int .i64 T.n) (.string T.s) (.slice aT mT cT) q0 q1 q2 q3
    have KP : ∀ {a v}, (setFour W (w.heap.size + 1) (.int .i64 T.k) (.int .i64 T.n) (.string T.s) (.slice aT mT cT)).cell? a = some v → ((setFour W (w.heap.size + 1) (.int .i64 T.k) (.int .i64 T.n) (.string T.s) (.slice aT mT cT)).putObj Dd (.deferred none)).cell? a = some v := fun h => cell_kept h (grownBy_putObj' _ Dd (.deferred none)) (fun r e => by cases e; exact ⟨_, hK5, rfl⟩)
    refine ⟨by simp, .inl ⟨_, _, rfl, run_takeDeferred hK5, ?_⟩⟩
    refine ⟨.agg #[.int .i64 T.k, .int .i64 T.n, .string T.s, .slice aT mT cT], ?_, _, rfl, ?_, ?_⟩
    · have p0 := KP d0
      have p1 := KP d1
      have p2 := KP d2
      have p3 := KP d3
      clear KP d0 d1 d2 d3 q0 q1 q2 q3 e0 e1 e2 e3 HXS HT
      obtain ⟨W6, hW6⟩ : ∃ W6, (setFour W (w.heap.size + 1) (.int .i64 T.k) (.int .i64 T.n) (.string T.s) (.slice aT mT cT)).putObj Dd (.deferred none) = W6 := ⟨_, rfl⟩
      rw [hW6] at p0 p1 p2 p3
      change (results Tryz.f29 _).run Tryz.prog ((setFour W (w.heap.size + 1) (.int .i64 T.k) (.int .i64 T.n) (.string T.s) (.slice aT mT cT)).putObj Dd (.deferred none)) = _
      rw [hW6, results_cell1 rfl]
      go_simp
      exact hW6.symm
    · rw [← HT.out]
      have hh := HLA.out.tm
      refine TmV.stay ⟨?_, fun a v hv => ?_⟩ _ _ hh
      · rw [hide_size, hide_size]
        have := (grownBy_putObj' (setFour W (w.heap.size + 1) (.int .i64 T.k) (.int .i64 T.n) (.string T.s) (.slice aT mT cT)) Dd (.deferred none)).size
        rw [set_size] at this
        exact this
      · cases hd : hid2 D w.heap.size a.block with
        | true => rw [hide_gone _ W a hd] at hv; cases hv
        | false =>
          rw [hide_cell _ W a hd] at hv
          rw [hide_cell _ _ a (plus_ne hd).1]
          exact KP ((World.cell?_of_block (set_kept _ _ _ _ a.block (plus_ne hd).2.2)).trans hv)
    · exact (four_below _ _ _ _ HLA.out.bel (by omega)).grown (grownBy_putObj' _ Dd (.deferred none)) (by rw [set_size]; have := HLA.out.big; omega) (fun k e => by cases e; omega)
  case stop =>
    rintro Dd cc pre W _ _ h _
    exact h.elim
end Go.Proofs.YtobdhcaoeholhaaGreatDoor
/- Letter by letter: a whole text; two texts with a line's end between; a quoted name. Nothing here is walked. -/
namespace Go.Proofs.YtobdhcaoeholhaaGreatDoor

def NextB.len : NextB → Nat
  | .skip k => k
  | .tok t => t.len
  | .bad _ => 0
theorem tok_len (kind : Nat) (text : List UInt8) (n k : Nat) (s : List UInt8) : (tokB kind text n k s).len = k := rfl
theorem name_len (k : Nat) (s : List UInt8) : (nameB k s).len ≤ k := by
  unfold nameB
  split
  · exact Nat.le_refl _
  · exact Nat.zero_le _
theorem quo_len : ∀ (n : Nat) (r : List UInt8), r.length ≤ n → ∀ p, quoB r = some p → p.2 ≤ r.length := fun n r hn p h => (quo_nl [] n r hn p h).2
theorem next_len (c : UInt8) (r : List UInt8) : (nextC c r).len ≤ r.length + 1 := by
  have hw := tw_le wordB r
  have hg := tw_le digitB r
  have hn := tw_le (fun x => x != 10) r
  have hsy : symRun (c :: r) ≤ r.length + 1 := sym_le (c :: r)
  unfold nextC
  by_cases h1 : blankB c = true
  · rw [if_pos h1]; exact Nat.le_add_left _ _
  rw [if_neg h1]
  by_cases h2 : (c == 37) = true
  · rw [if_pos h2]; exact Nat.succ_le_succ hn
  rw [if_neg h2]
  by_cases h3 : smallB c = true
  · rw [if_pos h3]; exact Nat.le_trans (name_len _ _) (by omega)
  rw [if_neg h3]
  by_cases h4 : greatB c = true
  · rw [if_pos h4, tok_len]; omega
  rw [if_neg h4]
  by_cases h5 : digitB c = true
  · rw [if_pos h5]
    split
    · rw [tok_len]; omega
    · exact Nat.zero_le _
  rw [if_neg h5]
  by_cases h6 : (c == 39) = true
  · rw [if_pos h6]
    cases hq : quoB r with
    | none => exact Nat.zero_le _
    | some p =>
      have := quo_len r.length r (Nat.le_refl _) p hq
      simp only
      split
      · rw [tok_len]; omega
      · exact Nat.zero_le _
  rw [if_neg h6]
  by_cases h7 : (c == 46 && endB r) = true
  · rw [if_pos h7, tok_len]; omega
  rw [if_neg h7]
  by_cases h8 : symB c = true
  · rw [if_pos h8]; exact Nat.le_trans (name_len _ _) hsy
  rw [if_neg h8]
  by_cases h9 : (c == 59 || c == 33) = true
  · rw [if_pos h9]; exact Nat.le_trans (name_len _ _) (by omega)
  rw [if_neg h9]
  by_cases h10 : ((c == 91 && r.head? == some 93) || (c == 123 && r.head? == some 125)) = true
  · rw [if_pos h10]
    refine Nat.le_trans (name_len _ _) ?_
    cases r with
    | nil => simp at h10
    | cons d r => simp
  rw [if_neg h10]
  by_cases h11 : [40, 41, 91, 93, 123, 125, 44, 124].contains c = true
  · rw [if_pos h11, tok_len]; omega
  rw [if_neg h11]
  exact Nat.zero_le _

/-- The tokens of a text, each with its first byte's place (the text begins at place p); nothing where one is refused. n: more than enough. -/
def lexL : Nat → Nat → List UInt8 → Option (List (TokB × Nat))
  | _, _, [] => some []
  | 0, _, _ :: _ => none
  | n + 1, p, c :: r =>
    match nextC c r with
    | .skip k => lexL n (p + k) ((c :: r).drop k)
    | .tok t => (lexL n (p + t.len) ((c :: r).drop t.len)).map fun l => (t, p) :: l
    | .bad _ => none
theorem lex_nil (n p : Nat) : lexL n p [] = some [] := by cases n <;> rfl
end Go.Proofs.YtobdhcaoeholhaaGreatDoor
/- Letter by letter: a whole text, its tokens or where it is refused; what is passed over ahead of a token. Nothing here is walked. -/
namespace Go.Proofs.YtobdhcaoeholhaaGreatDoor

inductive CutR where
  | ok (l : List (TokB × Nat))
  | bad (pl : Nat) (over : Bool)

def cutW : Nat → List (TokB × Nat) → Nat → List UInt8 → CutR
  | _, acc, _, [] => .ok acc
  | 0, _, p, _ :: _ => .bad p true
  | n + 1, acc, p, c :: r =>
    match nextC c r with
    | .skip k => cutW n acc (p + k) ((c :: r).drop k)
    | .tok t => if acc.length = 1024 then .bad p true else cutW n (acc ++ [(t, p)]) (p + t.len) ((c :: r).drop t.len)
    | .bad o => .bad p o
def cutF (acc : List (TokB × Nat)) (p : Nat) (s : List UInt8) : CutR := cutW s.length acc p s
def cutB (s : List UInt8) : CutR := if 4096 < s.length then .bad 4096 true else cutF [] 0 s

def passL : Nat → List UInt8 → Nat
  | _, [] => 0
  | 0, _ :: _ => 0
  | n + 1, c :: r => match nextC c r with
    | .skip k => k + passL n ((c :: r).drop k)
    | _ => 0
def passF (s : List UInt8) : Nat := passL s.length s

theorem sym_pos {c : UInt8} {r : List UInt8} (h : symB c = true) (he : ¬ (c == 46 && endB r) = true) : 1 ≤ symRun (c :: r) := by
  rw [symRun, h]
  simp only [Bool.not_eq_true] at he
  rw [he]
  simp
theorem name_pos {k : Nat} {s : List UInt8} (hk : 1 ≤ k) : (∃ t, nameB k s = .tok t ∧ 1 ≤ t.len) ∨ nameB k s = .bad true := by
  unfold nameB
  split
  · exact Or.inl ⟨_, rfl, hk⟩
  · exact Or.inr rfl
/-- What stands next takes at least one byte. -/
theorem next_pos (c : UInt8) (r : List UInt8) : (∃ k, nextC c r = .skip k ∧ 1 ≤ k) ∨ (∃ t, nextC c r = .tok t ∧ 1 ≤ t.len) ∨ ∃ o, nextC c r = .bad o := by
  have nm : ∀ (k : Nat), 1 ≤ k → (∃ j, nameB k (c :: r) = .skip j ∧ 1 ≤ j) ∨ (∃ t, nameB k (c :: r) = .tok t ∧ 1 ≤ t.len) ∨ ∃ o, nameB k (c :: r) = .bad o := fun k hk => by
    rcases name_pos (s := c :: r) hk with h | h
    · exact Or.inr (Or.inl h)
    · exact Or.inr (Or.inr ⟨_, h⟩)
  unfold nextC
  by_cases h1 : blankB c = true
  · rw [if_pos h1]; exact Or.inl ⟨_, rfl, Nat.le_refl _⟩
  rw [if_neg h1]
  by_cases h2 : (c == 37) = true
  · rw [if_pos h2]; exact Or.inl ⟨_, rfl, Nat.le_add_left _ _⟩
  rw [if_neg h2]
  by_cases h3 : smallB c = true
  · rw [if_pos h3]; exact nm _ (Nat.le_add_left _ _)
  rw [if_neg h3]
  by_cases h4 : greatB c = true
  · rw [if_pos h4]; exact Or.inr (Or.inl ⟨_, rfl, Nat.le_add_left _ _⟩)
  rw [if_neg h4]
  by_cases h5 : digitB c = true
  · rw [if_pos h5]
    split
    · exact Or.inr (Or.inl ⟨_, rfl, Nat.le_add_left _ _⟩)
    · exact Or.inr (Or.inr ⟨_, rfl⟩)
  rw [if_neg h5]
  by_cases h6 : (c == 39) = true
  · rw [if_pos h6]
    cases hq : quoB r with
    | none => exact Or.inr (Or.inr ⟨_, rfl⟩)
    | some p =>
      simp only
      split
      · exact Or.inr (Or.inl ⟨_, rfl, Nat.le_add_left _ _⟩)
      · exact Or.inr (Or.inr ⟨_, rfl⟩)
  rw [if_neg h6]
  by_cases h7 : (c == 46 && endB r) = true
  · rw [if_pos h7]; exact Or.inr (Or.inl ⟨_, rfl, Nat.le_refl _⟩)
  rw [if_neg h7]
  by_cases h8 : symB c = true
  · rw [if_pos h8]; exact nm _ (sym_pos h8 h7)
  rw [if_neg h8]
  by_cases h9 : (c == 59 || c == 33) = true
  · rw [if_pos h9]; exact nm _ (Nat.le_refl _)
  rw [if_neg h9]
  by_cases h10 : ((c == 91 && r.head? == some 93) || (c == 123 && r.head? == some 125)) = true
  · rw [if_pos h10]; exact nm _ (by omega)
  rw [if_neg h10]
  by_cases h11 : [40, 41, 91, 93, 123, 125, 44, 124].contains c = true
  · rw [if_pos h11]; exact Or.inr (Or.inl ⟨_, rfl, Nat.le_refl _⟩)
  rw [if_neg h11]
  exact Or.inr (Or.inr ⟨_, rfl⟩)
theorem drop_lt {c : UInt8} {r : List UInt8} {k n : Nat} (hk : 1 ≤ k) (hn : (c :: r).length ≤ n + 1) : ((c :: r).drop k).length ≤ n := by
  rw [List.length_drop]; omega
theorem cut_fuel : ∀ (n m : Nat) (acc : List (TokB × Nat)) (p : Nat) (s : List UInt8), s.length ≤ n → s.length ≤ m → cutW n acc p s = cutW m acc p s
  | n, m, acc, p, [], _, _ => by cases n <;> cases m <;> rfl
  | 0, m, acc, p, c :: r, hn, _ => by simp at hn
  | n + 1, 0, acc, p, c :: r, _, hm => by simp at hm
  | n + 1, m + 1, acc, p, c :: r, hn, hm => by
    rw [cutW, cutW]
    rcases next_pos c r with ⟨k, h, hk⟩ | ⟨t, h, hk⟩ | ⟨o, h⟩
    · rw [h]; exact cut_fuel n m _ _ _ (drop_lt hk hn) (drop_lt hk hm)
    · rw [h]; simp only; rw [cut_fuel n m _ _ _ (drop_lt hk hn) (drop_lt hk hm)]
    · rw [h]
theorem pass_fuel : ∀ (n m : Nat) (s : List UInt8), s.length ≤ n → s.length ≤ m → passL n s = passL m s
  | n, m, [], _, _ => by cases n <;> cases m <;> rfl
  | 0, m, c :: r, hn, _ => by simp at hn
  | n + 1, 0, c :: r, _, hm => by simp at hm
  | n + 1, m + 1, c :: r, hn, hm => by
    rw [passL, passL]
    rcases next_pos c r with ⟨k, h, hk⟩ | ⟨t, h, hk⟩ | ⟨o, h⟩
    · rw [h]; simp only; rw [pass_fuel n m _ (drop_lt hk hn) (drop_lt hk hm)]
    · rw [h]
    · rw [h]
theorem cutF_nil (acc : List (TokB × Nat)) (p : Nat) : cutF acc p [] = .ok acc := rfl
theorem cutF_skip {acc : List (TokB × Nat)} {p k : Nat} {c : UInt8} {r : List UInt8} (h : nextC c r = .skip k) (hk : 1 ≤ k) : cutF acc p (c :: r) = cutF acc (p + k) ((c :: r).drop k) := by
  unfold cutF
  rw [List.length_cons, cutW, h]
  exact cut_fuel _ _ _ _ _ (drop_lt hk (Nat.le_refl _)) (Nat.le_refl _)
theorem cutF_tok {acc : List (TokB × Nat)} {p : Nat} {c : UInt8} {r : List UInt8} {t : TokB} (h : nextC c r = .tok t) (hk : 1 ≤ t.len) (ha : acc.length ≠ 1024) : cutF acc p (c :: r) = cutF (acc ++ [(t, p)]) (p + t.len) ((c :: r).drop t.len) := by
  unfold cutF
  rw [List.length_cons, cutW, h]
  simp only
  rw [if_neg ha]
  exact cut_fuel _ _ _ _ _ (drop_lt hk (Nat.le_refl _)) (Nat.le_refl _)
theorem cutF_full {acc : List (TokB × Nat)} {p : Nat} {c : UInt8} {r : List UInt8} {t : TokB} (h : nextC c r = .tok t) (ha : acc.length = 1024) : cutF acc p (c :: r) = .bad p true := by
  unfold cutF
  rw [List.length_cons, cutW, h]
  simp only
  rw [if_pos ha]
theorem cutF_bad {acc : List (TokB × Nat)} {p : Nat} {c : UInt8} {r : List UInt8} {o : Bool} (h : nextC c r = .bad o) : cutF acc p (c :: r) = .bad p o := by
  unfold cutF
  rw [List.length_cons, cutW, h]
theorem passF_skip {k : Nat} {c : UInt8} {r : List UInt8} (h : nextC c r = .skip k) (hk : 1 ≤ k) : passF (c :: r) = k + passF ((c :: r).drop k) := by
  unfold passF
  rw [List.length_cons, passL, h]
  simp only
  rw [pass_fuel _ _ _ (drop_lt hk (Nat.le_refl _)) (Nat.le_refl _)]
theorem passF_stop {c : UInt8} {r : List UInt8} (h : ∀ k, nextC c r ≠ .skip k) : passF (c :: r) = 0 := by
  unfold passF
  rw [List.length_cons, passL]
  split
  · rename_i k hk; exact absurd hk (h k)
  · rfl
/-- What is passed over, no text is behind or a token: and nothing of the answer changes. -/
theorem pass_cut : ∀ (n : Nat) (s : List UInt8), s.length ≤ n → passF s ≤ s.length ∧ (∀ acc p, cutF acc p s = cutF acc (p + passF s) (s.drop (passF s))) ∧ ∀ c r, s.drop (passF s) = c :: r → ∀ k, nextC c r ≠ .skip k
  | _, [], _ => ⟨Nat.le_refl _, fun _ _ => rfl, fun c r h => by simp at h⟩
  | 0, c :: r, h => by simp at h
  | n + 1, c :: r, hn => by
    have hlen := next_len c r
    rcases next_pos c r with ⟨k, h, hk⟩ | ⟨t, h, hk⟩ | ⟨o, h⟩
    · rw [h] at hlen
      have hk2 : k ≤ (c :: r).length := hlen
      obtain ⟨i1, i2, i3⟩ := pass_cut n ((c :: r).drop k) (drop_lt hk hn)
      rw [passF_skip h hk]
      refine ⟨?_, fun acc p => ?_, fun c' r' h' => ?_⟩
      · rw [List.length_drop] at i1; omega
      · rw [cutF_skip h hk, i2, List.drop_drop, Nat.add_assoc]
      · rw [← List.drop_drop] at h'; exact i3 c' r' h'
    · have e : passF (c :: r) = 0 := passF_stop (fun k' => by rw [h]; intro e; cases e)
      rw [e]
      refine ⟨Nat.zero_le _, fun _ _ => rfl, fun c' r' h' => ?_⟩
      rw [List.drop_zero] at h'; cases h'
      rw [h]; intro k e; cases e
    · have e : passF (c :: r) = 0 := passF_stop (fun k' => by rw [h]; intro e; cases e)
      rw [e]
      refine ⟨Nat.zero_le _, fun _ _ => rfl, fun c' r' h' => ?_⟩
      rw [List.drop_zero] at h'; cases h'
      rw [h]; intro k e; cases e
/-- All is well just where there are tokens, and not too many. -/
theorem cut_lex : ∀ (n : Nat) (acc : List (TokB × Nat)) (p : Nat) (s : List UInt8) (l : List (TokB × Nat)), acc.length ≤ 1024 →
    (cutW n acc p s = .ok l ↔ ∃ x, lexL n p s = some x ∧ l = acc ++ x ∧ acc.length + x.length ≤ 1024)
  | n, acc, p, [], l, ha => by
    rw [lex_nil]
    have e : cutW n acc p [] = .ok acc := by cases n <;> rfl
    rw [e]
    constructor
    · intro h; cases h; exact ⟨[], rfl, by simp, by simpa using ha⟩
    · rintro ⟨x, hx, rfl, _⟩; cases hx; simp
  | 0, acc, p, c :: r, l, ha => by
    constructor
    · intro h; cases h
    · rintro ⟨x, hx, _⟩; cases hx
  | n + 1, acc, p, c :: r, l, ha => by
    rw [cutW, lexL]
    cases h : nextC c r with
    | skip k => exact cut_lex n acc _ _ l ha
    | bad o => simp
    | tok t =>
      simp only
      by_cases hf : acc.length = 1024
      · rw [if_pos hf]
        constructor
        · intro h; cases h
        · rintro ⟨x, hx, rfl, hl⟩
          obtain ⟨y, _, rfl⟩ := Option.map_eq_some_iff.1 hx
          simp at hl
          omega
      · rw [if_neg hf, cut_lex n (acc ++ [(t, p)]) _ _ l (by simp; omega)]
        constructor
        · rintro ⟨x, hx, rfl, hl⟩
          exact ⟨(t, p) :: x, by rw [hx]; rfl, by simp, by simp at hl ⊢; omega⟩
        · rintro ⟨x, hx, rfl, hl⟩
          obtain ⟨y, hy, rfl⟩ := Option.map_eq_some_iff.1 hx
          exact ⟨y, hy, by simp, by simp at hl ⊢; omega⟩
theorem cutB_ok {s : List UInt8} {l : List (TokB × Nat)} : cutB s = .ok l ↔ s.length ≤ 4096 ∧ lexL s.length 0 s = some l ∧ l.length ≤ 1024 := by
  unfold cutB
  by_cases h : 4096 < s.length
  · rw [if_pos h]
    constructor
    · intro h; cases h
    · rintro ⟨h1, _⟩; omega
  · rw [if_neg h]
    unfold cutF
    rw [cut_lex _ _ _ _ _ (Nat.zero_le _)]
    constructor
    · rintro ⟨x, hx, rfl, hl⟩
      exact ⟨by omega, by simpa using hx, by simpa using hl⟩
    · rintro ⟨_, hx, hl⟩
      exact ⟨l, hx, by simp, by simpa using hl⟩
end Go.Proofs.YtobdhcaoeholhaaGreatDoor
/- The shelf's contracts at this program, laid by the kit's tool. -/
namespace Go.Proofs
open Go.Shelf
def Tryz.lays137_ren : Go.Shelf.Ren := ⟨fun | 137 => 120 | 217 => 164 | 266 => 181 | n => n, fun | 9 => 9 | 5 => 5 | 3 => 3 | n => n, fun | n => n⟩
theorem Tryz.lays137 : Go.Proofs.Lays.n137 Tryz.prog Tryz.lays137_ren := {
  mixed := by kernel_rfl
  f137 := Tryz.func120.trans (congrArg some (by kernel_rfl))
  f217 := Tryz.func164.trans (congrArg some (by kernel_rfl))
  f266 := Tryz.func181.trans (congrArg some (by kernel_rfl))
  t3 := Tryz.underlying3
  a3 := Tryz.isAgg3
  z3 := Tryz.sizeOf3
  v3 := Tryz.zeroValue3
  t5 := Tryz.underlying5
  a5 := Tryz.isAgg5
  z5 := Tryz.sizeOf5
  v5 := Tryz.zeroValue5
  t9 := Tryz.underlying9
  a9 := Tryz.isAgg9
  z9 := Tryz.sizeOf9
  v9 := Tryz.zeroValue9 }
open Go.RowKit in
/-- strings.IndexByte: "IndexByte returns the index of the first instance of c in s, or -1 if c is not present in s.": IT RETURNS 'Lib.indexByte s c'; the world is as it was. (LAID: no walk: one application.) -/
theorem Tryz.strings_IndexByte (s : ByteArray) (c : Int) (w : World) :
    Calls Tryz.prog 120 #[.string s, .int .u8 c] w fun e w' => e = .returned (.int .i64 (Lib.indexByte s.data.toList c.toNat.toUInt8)) ∧ w' = w := Any.strings_IndexByte Tryz.lays137 s c w
def Tryz.laysC174_ren : Go.Shelf.Ren := ⟨fun | 174 => 129 | 247 => 166 | 245 => 167 | 287 => 182 | 279 => 183 | 280 => 184 | 281 => 185 | 282 => 186 | 321 => 195 | 322 => 196 | 316 => 197 | 171 => 137 | 205 => 198 | 243 => 169 | 246 => 170 | 283 => 187 | 284 => 188 | 285 => 189 | 286 => 190 | 129 => 200 | 317 => 199 | 318 => 201 | 319 => 202 | 320 => 203 | 337 => 204 | 338 => 205 | n => n, fun | 9 => 9 | 3 => 3 | 2 => 2 | 75 => 178 | 85 => 179 | 4 => 4 | 167 => 206 | 5 => 5 | 53 => 207 | 175 => 208 | 46 => 210 | 168 => 211 | 37 => 97 | 0 => 0 | 210 => 223 | 21 => 21 | 127 => 232 | 145 => 235 | 143 => 233 | 171 => 214 | 173 => 217 | 212 => 227 | 51 => 228 | 20 => 20 | 213 => 229 | 232 => 237 | 233 => 238 | 80 => 239 | n => n, fun | 15 => 1 | 16 => 2 | 17 => 3 | 18 => 4 | 19 => 5 | n => n⟩
theorem Tryz.laysC174 : Go.Proofs.LaysC.n174 Tryz.prog Tryz.laysC174_ren := {
  mixed := by kernel_rfl
  f129 := Tryz.func200.trans (congrArg some (by kernel_rfl))
  f171 := Tryz.func137.trans (congrArg some (by kernel_rfl))
  f174 := Tryz.func129.trans (congrArg some (by kernel_rfl))
  f205 := Tryz.func198.trans (congrArg some (by kernel_rfl))
  f243 := Tryz.func169.trans (congrArg some (by kernel_rfl))
  f245 := Tryz.func167.trans (congrArg some (by kernel_rfl))
  f246 := Tryz.func170.trans (congrArg some (by kernel_rfl))
  f247 := Tryz.func166.trans (congrArg some (by kernel_rfl))
  f279 := Tryz.func183.trans (congrArg some (by kernel_rfl))
  f280 := Tryz.func184.trans (congrArg some (by kernel_rfl))
  f281 := Tryz.func185.trans (congrArg some (by kernel_rfl))
  f282 := Tryz.func186.trans (congrArg some (by kernel_rfl))
  f283 := Tryz.func187.trans (congrArg some (by kernel_rfl))
  f284 := Tryz.func188.trans (congrArg some (by kernel_rfl))
  f285 := Tryz.func189.trans (congrArg some (by kernel_rfl))
  f286 := Tryz.func190.trans (congrArg some (by kernel_rfl))
  f287 := Tryz.func182.trans (congrArg some (by kernel_rfl))
  f316 := Tryz.func197.trans (congrArg some (by kernel_rfl))
  f317 := Tryz.func199.trans (congrArg some (by kernel_rfl))
  f318 := Tryz.func201.trans (congrArg some (by kernel_rfl))
  f319 := Tryz.func202.trans (congrArg some (by kernel_rfl))
  f320 := Tryz.func203.trans (congrArg some (by kernel_rfl))
  f321 := Tryz.func195.trans (congrArg some (by kernel_rfl))
  f322 := Tryz.func196.trans (congrArg some (by kernel_rfl))
  f337 := Tryz.func204.trans (congrArg some (by kernel_rfl))
  f338 := Tryz.func205.trans (congrArg some (by kernel_rfl))
  t0 := Tryz.underlying0
  a0 := Tryz.isAgg0
  z0 := Tryz.sizeOf0
  v0 := Tryz.zeroValue0
  t2 := Tryz.underlying2
  a2 := Tryz.isAgg2
  z2 := Tryz.sizeOf2
  v2 := Tryz.zeroValue2
  t3 := Tryz.underlying3
  a3 := Tryz.isAgg3
  z3 := Tryz.sizeOf3
  v3 := Tryz.zeroValue3
  t4 := Tryz.underlying4
  a4 := Tryz.isAgg4
  z4 := Tryz.sizeOf4
  v4 := Tryz.zeroValue4
  t5 := Tryz.underlying5
  a5 := Tryz.isAgg5
  z5 := Tryz.sizeOf5
  v5 := Tryz.zeroValue5
  t9 := Tryz.underlying9
  a9 := Tryz.isAgg9
  z9 := Tryz.sizeOf9
  v9 := Tryz.zeroValue9
  t20 := Tryz.underlying20
  a20 := Tryz.isAgg20
  z20 := Tryz.sizeOf20
  v20 := Tryz.zeroValue20
  t21 := Tryz.underlying21
  a21 := Tryz.isAgg21
  z21 := Tryz.sizeOf21
  v21 := Tryz.zeroValue21
  t37 := Tryz.underlying97
  a37 := Tryz.isAgg97
  z37 := Tryz.sizeOf97
  v37 := Tryz.zeroValue97
  t46 := Tryz.underlying210
  a46 := Tryz.isAgg210
  z46 := Tryz.sizeOf210
  v46 := Tryz.zeroValue210
  t51 := Tryz.underlying228
  a51 := Tryz.isAgg228
  z51 := Tryz.sizeOf228
  v51 := Tryz.zeroValue228
  t53 := Tryz.underlying207
  a53 := Tryz.isAgg207
  z53 := Tryz.sizeOf207
  v53 := Tryz.zeroValue207
  t75 := Tryz.underlying178
  a75 := Tryz.isAgg178
  z75 := Tryz.sizeOf178
  v75 := Tryz.zeroValue178
  t85 := Tryz.underlying179
  a85 := Tryz.isAgg179
  z85 := Tryz.sizeOf179
  v85 := Tryz.zeroValue179
  t127 := Tryz.underlying232
  a127 := Tryz.isAgg232
  z127 := Tryz.sizeOf232
  v127 := Tryz.zeroValue232
  t143 := Tryz.underlying233
  a143 := Tryz.isAgg233
  z143 := Tryz.sizeOf233
  v143 := Tryz.zeroValue233
  t145 := Tryz.underlying235
  a145 := Tryz.isAgg235
  z145 := Tryz.sizeOf235
  v145 := Tryz.zeroValue235
  t167 := Tryz.underlying206
  a167 := Tryz.isAgg206
  z167 := Tryz.sizeOf206
  v167 := Tryz.zeroValue206
  t168 := Tryz.underlying211
  a168 := Tryz.isAgg211
  z168 := Tryz.sizeOf211
  v168 := Tryz.zeroValue211
  t171 := Tryz.underlying214
  a171 := Tryz.isAgg214
  z171 := Tryz.sizeOf214
  v171 := Tryz.zeroValue214
  t173 := Tryz.underlying217
  a173 := Tryz.isAgg217
  z173 := Tryz.sizeOf217
  v173 := Tryz.zeroValue217
  t175 := Tryz.underlying208
  a175 := Tryz.isAgg208
  z175 := Tryz.sizeOf208
  v175 := Tryz.zeroValue208
  t210 := Tryz.underlying223
  a210 := Tryz.isAgg223
  z210 := Tryz.sizeOf223
  v210 := Tryz.zeroValue223
  t212 := Tryz.underlying227
  a212 := Tryz.isAgg227
  z212 := Tryz.sizeOf227
  v212 := Tryz.zeroValue227
  t213 := Tryz.underlying229
  a213 := Tryz.isAgg229
  z213 := Tryz.sizeOf229
  t232 := Tryz.underlying237
  a232 := Tryz.isAgg237
  z232 := Tryz.sizeOf237
  v232 := Tryz.zeroValue237
  t233 := Tryz.underlying238
  a233 := Tryz.isAgg238
  z233 := Tryz.sizeOf238
  v233 := Tryz.zeroValue238
  g15 := by kernel_rfl
  g16 := by kernel_rfl
  g17 := by kernel_rfl
  g18 := by kernel_rfl
  g19 := by kernel_rfl
  t80 := Tryz.underlying239
  a80 := Tryz.isAgg239
  z80 := Tryz.sizeOf239
  v80 := Tryz.zeroValue239
  i0 := by kernel_rfl
  i2 := by kernel_rfl
  i3 := by kernel_rfl
  i4 := by kernel_rfl
  i5 := by kernel_rfl
  i9 := by kernel_rfl
  i20 := by kernel_rfl
  i21 := by kernel_rfl
  i37 := by kernel_rfl
  i46 := by kernel_rfl
  i51 := by kernel_rfl
  i53 := by kernel_rfl
  i75 := by kernel_rfl
  i80 := by kernel_rfl
  i85 := by kernel_rfl
  i127 := by kernel_rfl
  i143 := by kernel_rfl
  i145 := by kernel_rfl
  i167 := by kernel_rfl
  i168 := by kernel_rfl
  i171 := by kernel_rfl
  i173 := by kernel_rfl
  i175 := by kernel_rfl
  i210 := by kernel_rfl
  i212 := by kernel_rfl
  i232 := by kernel_rfl
  i233 := by kernel_rfl
  m15 := by kernel_rfl
  m16 := by kernel_rfl
  m17 := by kernel_rfl
  m18 := by kernel_rfl
  m19 := by kernel_rfl
  c0 := by kernel_rfl
  c2 := by kernel_rfl
  c3 := by kernel_rfl
  c4 := by kernel_rfl
  c5 := by kernel_rfl
  c9 := by kernel_rfl
  c20 := by kernel_rfl
  c21 := by kernel_rfl
  c37 := by kernel_rfl
  c46 := by kernel_rfl
  c51 := by kernel_rfl
  c53 := by kernel_rfl
  c75 := by kernel_rfl
  c80 := by kernel_rfl
  c85 := by kernel_rfl
  c127 := by kernel_rfl
  c143 := by kernel_rfl
  c145 := by kernel_rfl
  c167 := by kernel_rfl
  c168 := by kernel_rfl
  c171 := by kernel_rfl
  c173 := by kernel_rfl
  c175 := by kernel_rfl
  c210 := by kernel_rfl
  c212 := by kernel_rfl
  c213 := by kernel_rfl
  c232 := by kernel_rfl
  c233 := by kernel_rfl }
open Go.RowKit in
/-- strconv.ParseInt(s, 10, 64), AT EVERY STRING THAT SPELLS AN int64 ('Lib.parseIntB 64 s.data.toList = .ok v'): v, AND NO ERROR. (LAID: no walk: one application.) -/
theorem Tryz.strconv_ParseInt_10_at64_ok (s : ByteArray) (hmax : s.size ≤ 9223372036854775806) (v : Int) (h : Lib.parseIntB 64 s.data.toList = .ok v) (w : World) :
    Calls Tryz.prog 129 #[.string s, .int .i64 10, .int .i64 64] w fun e w' => e = .returned (.tuple #[.int .i64 v, .nilIface]) ∧ (w' = w ∨ ∃ t, w' = Lib.bytesWorld w 5 t) := Any.strconv_ParseInt_10_at64_ok Tryz.laysC174 s hmax v h w
open Go.RowKit in
open Go.RowKit in
theorem Tryz.strconv_ParseInt_10_at64_range_var (s : ByteArray) (hlim : s.size ≤ 281474976710656) (h : Lib.parseIntB 64 s.data.toList = .range) (tp : TypeId) (p : Value) (w : World) (hvar : w.var? Tryz.prog "strconv.ErrRange" = some #[.iface tp p]) :
    Calls Tryz.prog 129 #[.string s, .int .i64 10, .int .i64 64] w fun e w' => ∃ N, e = .returned (.tuple #[.int .i64 (Lib.intSat 64 s.data.toList), .iface 211 (.pointer (some ⟨N, 0, none⟩))]) ∧ w.heap.size ≤ N ∧ w'.heap[N]? = some (.cells #[.string ⟨#[80, 97, 114, 115, 101, 73, 110, 116]⟩, .string s, .iface tp p] 223 (0, 0)) ∧ Below w.heap.size w w' := Any.strconv_ParseInt_10_at64_range_var Tryz.laysC174 s hlim h tp p w hvar
def Tryz.lays99_ren : Go.Shelf.Ren := ⟨fun | 99 => 127 | 206 => 165 | n => n, fun | 9 => 9 | 4 => 4 | 3 => 3 | n => n, fun | n => n⟩
theorem Tryz.lays99 : Go.Proofs.Lays.n99 Tryz.prog Tryz.lays99_ren := {
  mixed := by kernel_rfl
  f99 := Tryz.func127.trans (congrArg some (by kernel_rfl))
  f206 := Tryz.func165.trans (congrArg some (by kernel_rfl))
  t3 := Tryz.underlying3
  a3 := Tryz.isAgg3
  z3 := Tryz.sizeOf3
  v3 := Tryz.zeroValue3
  t4 := Tryz.underlying4
  a4 := Tryz.isAgg4
  z4 := Tryz.sizeOf4
  v4 := Tryz.zeroValue4
  t9 := Tryz.underlying9
  a9 := Tryz.isAgg9
  z9 := Tryz.sizeOf9
  v9 := Tryz.zeroValue9 }
open Go.RowKit Go.Lib in
/-- strings.HasPrefix: "HasPrefix reports whether the string s begins with prefix.": IT RETURNS 'Lib.hasPrefix s prefix'; the world is as it was. (LAID: no walk: one application.) -/
theorem Tryz.strings_HasPrefix (s p : ByteArray) (w : World) :
    Calls Tryz.prog 127 #[.string s, .string p] w fun e w' => e = .returned (.bool (Lib.hasPrefix s.data.toList p.data.toList)) ∧ w' = w := Any.strings_HasPrefix Tryz.lays99 s p w
end Go.Proofs
