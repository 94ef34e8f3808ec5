/- slices.Backward at terms: from the last item to the first. -/
import Derived.RangeFuncNested
import Derived.RangeFuncBound
import Derived.RangeFuncCalls
import Derived.RangeFuncLeaves
import Derived.Shelf.Abstract
import Derived.Shelf.RegionOpen
import Derived.WalkKit
import Derived.OwnWalkIn
import Derived.TacticsInMore
import Derived.LoopNIn
import Derived.LoopIn
import Derived.Test.YthikbenfhaglkaaTnH
namespace Go.Proofs.Ythikbenfhaglkaa
open Go.RowKit Go.Shelf
attribute [local go_sem] Oper.semAt_some
set_option linter.unusedVariables false

/-- What lies below n, and block b, are kept. -/
def Kq (n b : Nat) (A B : World) : Prop := A.heap.size ≤ B.heap.size ∧ ∀ k, (k < n ∨ k = b) → B.heap[k]? = A.heap[k]?
theorem Kq.refl (n b : Nat) (A : World) : Kq n b A A := ⟨Nat.le_refl _, fun _ _ => rfl⟩
theorem Kq.trans {n b : Nat} {A B C : World} (h : Kq n b A B) (k : Kq n b B C) : Kq n b A C := ⟨Nat.le_trans h.1 k.1, fun i hi => (k.2 i hi).trans (h.2 i hi)⟩
theorem Kq.cell {n b : Nat} {A B : World} (h : Kq n b A B) {p : Addr} (hp : p.block < n ∨ p.block = b) : B.cell? p = A.cell? p := World.cell?_of_block (h.2 p.block hp)
theorem Kq.put {n b : Nat} {w : World} (hn : n ≤ w.heap.size) (hb : b < w.heap.size) (W : World) (l : Nat) (o o' : Obj) (hl : w.heap.size ≤ l) (h : W.heap[l]? = some o) (_ : o.isCells = false) (_ : o.isWalk = false) : Kq n b W (W.putObj l o') := by
  have hlt := (Array.getElem?_eq_some_iff.1 h).1
  exact ⟨(grownBy_putObj' W l o').size, fun k hk => (grownBy_putObj' W l o').block k (by omega) (fun e => by cases e; omega)⟩
theorem Kq.below {n b : Nat} {A B : World} (h : Below A.heap.size A B) (hn : n ≤ A.heap.size) (hb : b < A.heap.size) : Kq n b A B := ⟨h.size, fun k hk => h.block k (by omega)⟩
/-- An item: a term, the value of its Args, in that world. -/
abbrev Item (D : Nat → Bool) (w : World) := { p : TmP // TmV (hide D w) p.1 (pVal p) }
/-- What a round is handed: the index, the item. -/
def back {D : Nat → Bool} {w : World} (xs : List (Item D w)) : List (Nat × Item D w) := xs.reverse.mapIdx fun j x => (xs.length - 1 - j, x)
theorem back_len {D : Nat → Bool} {w : World} (xs : List (Item D w)) : (back xs).length = xs.length := by simp [back]
theorem back_get {D : Nat → Bool} {w : World} {xs : List (Item D w)} {k : Nat} (hk : k < xs.length) : ∃ x : Item D w, xs[xs.length - 1 - k]? = some x ∧ (back xs)[k]? = some (xs.length - 1 - k, x) ∧ (back xs).take (k + 1) = (back xs).take k ++ [(xs.length - 1 - k, x)] := by
  have h1 : xs.length - 1 - k < xs.length := by omega
  have h2 : (back xs)[k]? = some (xs.length - 1 - k, xs[xs.length - 1 - k]) := by
    unfold back
    rw [List.getElem?_mapIdx, List.getElem?_reverse hk, List.getElem?_eq_getElem h1]
    rfl
  exact ⟨xs[xs.length - 1 - k], List.getElem?_eq_getElem h1, h2, by rw [List.take_add_one, h2]; rfl⟩
abbrev encB {D : Nat → Bool} {w : World} (x : Nat × Item D w) : Array Value := #[.int .i64 (x.1 : Int), .agg #[.int .i64 x.2.1.1.k, .int .i64 x.2.1.1.n, .string x.2.1.1.s, x.2.1.2]]
/-- The cells of these items lie there, from this address on. -/
def Rowed {D : Nat → Bool} {w : World} (W : World) (b off : Nat) (xs : List (Item D w)) : Prop := ∀ (i : Nat) (x : Item D w), xs[i]? = some x → ∀ j u, (pCells x.1)[j]? = some u → W.cell? ⟨b, off + i * 4 + j, none⟩ = some u
set_option maxRecDepth 100000 in
set_option maxHeartbeats 4000000 in
theorem back1_in {D : Nat → Bool} {w : World} (F : Fence) (n : Nat) (hf : F.fn 39) (hro : F.round = none) (hn : 1 ≤ n) (l Bs n₀ b off c m : Nat) (xs : List (Item D w)) (hm : xs.length = m) (hreach : m * 56 ≤ 140737488351232) (hb : b < n₀) (J Jx : List (Nat × Item D w) → World → Prop)
    (hY : ∀ pre x W, J pre W → pre.length < m → YieldAt F (n - 1) Try.prog l (encB x) W fun e W' =>
      (e = .returned (.bool true) ∧ J (pre ++ [x]) W' ∧ Kq n₀ Bs W W') ∨ (e = .returned (.bool false) ∧ Jx (pre ++ [x]) W'))
    (W : World) (hBs : W.cell? ⟨Bs, 0, none⟩ = some (.slice (some ⟨b, off, none⟩) m c)) (hmc : m ≤ c) (hcm : c ≤ maxLen) (hc : Rowed W b off xs) (h0 : J [] W) :
    CallsIn F n Try.prog 39 #[.func (.yield l) #[] #[], .pointer (some ⟨Bs, 0, none⟩)] W fun e W' => (∃ v, e = .returned v) ∧
      ((∃ ys, ys = back xs ∧ J ys W') ∨ (∃ pre, (∃ k, k ≤ m ∧ pre = (back xs).take k) ∧ Jx pre W')) := by
  refine callsIn_of_wp Try.func39 rfl hf ?_ hro
  simp only [Try.ntmps39, List.size_toArray, List.length_cons, List.length_nil, Nat.reduceAdd, Nat.reduceSub, Array.replicate_succ, Array.replicate_zero, List.push_toArray, List.append_toArray, List.nil_append, List.cons_append]
  have HM := Lib.hid hm
  have HC := Lib.hid hc
  clear hm hc
  gi_wp2
  gi_loopw [3] (fun i wr => ∃ (k : Nat) (z : Int), k ≤ m ∧ i = .int .i64 z ∧ z = (m : Int) - 1 - k ∧ J ((back xs).take k) wr ∧ Kq n₀ Bs W wr)
    (fun i _ => (intOf i + 1).toNat)
  case atStart => exact ⟨0, (m : Int) - 1, Nat.zero_le _, by go_num, by omega, by simpa using h0, Kq.refl _ _ _⟩
  case round =>
    obtain ⟨k, z, hk, rfl, hz, hJs, hnx⟩ := hrel
    have hbw : wr.cell? ⟨Bs, 0, none⟩ = some (.slice (some ⟨b, off, none⟩) m c) := (hnx.cell (p := ⟨Bs, 0, none⟩) (Or.inr rfl)).trans hBs
    by_cases hlt : k < m
    · obtain ⟨⟨⟨t, u⟩, htv⟩, hx1, hx2, hx3⟩ := back_get (xs := xs) (k := k) (by rw [HM.out]; exact hlt)
      rw [HM.out] at hx1 hx2 hx3
      obtain ⟨fn, tmps, assign, body, hy, hR⟩ := hY _ (m - 1 - k, ⟨(t, u), htv⟩) wr hJs (by rw [List.length_take, back_len, HM.out]; omega)
      (try dsimp only at hy)
      obtain ⟨i, hi⟩ : ∃ i, m - 1 - k = i := ⟨_, rfl⟩
      have hzi : z = i := by omega
      have him : i < m := by omega
      rw [hi] at hx1 hx2 hx3 hy hR
      have cc := fun j u' hu => (hnx.cell (p := ⟨b, off + i * 4 + j, none⟩) (Or.inl hb)).trans (HC.out i _ hx1 j u' hu)
      have c0 := cc 0 _ rfl
      have c1 := cc 1 _ rfl
      have c2 := cc 2 _ rfl
      have c3 := cc 3 _ rfl
      rw [Nat.add_zero] at c0
      clear cc
      subst hzi
      have HI := Lib.hid hi
      clear hz hi hx1 hx2
      have HX := Lib.hid hx3
      clear hx3
      gi_wp2
      refine hR.mono ?_
      rintro e W3 (⟨rfl, hJ3, hk3⟩ | ⟨rfl, hJx3⟩)
      · gi_wp2
        go_roundw
        case rel => exact ⟨k + 1, (i : Int) - 1, by omega, by go_num, by have := HI.out; omega, by rw [HX.out]; exact hJ3, hnx.trans hk3⟩
        case measure => simp [intOf] <;> omega
      · gi_wp2
        refine bodyPost_ret (results_none rfl _ _ _) rfl ?_
        exact ⟨⟨_, rfl⟩, .inr ⟨_, ⟨k + 1, by omega, HX.out.symm⟩, hJx3⟩⟩
    · have hzn : z < 0 := by omega
      have hkm : k = m := by omega
      have HJ := Lib.hid hJs
      subst hkm
      clear hz hJs hY
      gi_wp2
      go_end0
      have h := HJ.out
      rw [List.take_of_length_le (by rw [back_len, HM.out]; exact Nat.le_refl _)] at h
      exact ⟨⟨_, rfl⟩, .inl ⟨_, rfl, h⟩⟩
set_option maxRecDepth 100000 in
set_option maxHeartbeats 1000000 in
theorem back1_nil_in {D : Nat → Bool} {w : World} (F : Fence) (n : Nat) (hf : F.fn 39) (hro : F.round = none) (l Bs c : Nat) (ao : Option Addr) (J : List (Nat × Item D w) → World → Prop)
    (W : World) (hBs : W.cell? ⟨Bs, 0, none⟩ = some (.slice ao 0 c)) (h0 : J [] W) :
    CallsIn F n Try.prog 39 #[.func (.yield l) #[] #[], .pointer (some ⟨Bs, 0, none⟩)] W fun e W' => (∃ v, e = .returned v) ∧ J [] W' := by
  refine callsIn_of_wp Try.func39 rfl hf ?_ hro
  simp only [Try.ntmps39, List.size_toArray, List.length_cons, List.length_nil, Nat.reduceAdd, Nat.reduceSub, Array.replicate_succ, Array.replicate_zero, List.push_toArray, List.append_toArray, List.nil_append, List.cons_append]
  gi_wp2
  gi_loopw [3] (fun i wr => ∃ z : Int, i = .int .i64 z ∧ z = -1 ∧ J [] wr) (fun _ _ => 0)
  case atStart => exact ⟨-1, rfl, rfl, h0⟩
  case round =>
    obtain ⟨z, rfl, hz, hJs⟩ := hrel
    have hzn : z < 0 := by omega
    clear hz
    gi_wp2
    go_end0
    exact ⟨⟨_, rfl⟩, hJs⟩
set_option maxHeartbeats 1000000 in
theorem back_in (F : Fence) (n : Nat) (hf : F.fn 31) (hro : F.round = none) (a : Option Addr) (len cap : Nat) (w : World) :
    CallsIn F n Try.prog 31 #[.slice a len cap] w fun e w' => e = .returned (.func (.func 39) #[] #[.pointer (some ⟨w.heap.size, 0, none⟩)]) ∧ w' = w.alloc (.cells #[.slice a len cap] 23) := by
  refine callsIn_of_wp Try.func31 rfl hf ?_ hro
  simp only [Try.ntmps31, List.size_toArray, List.length_cons, List.length_nil, Nat.reduceAdd, Nat.reduceSub, Array.replicate_succ, Array.replicate_zero, List.push_toArray, List.append_toArray, List.nil_append, List.cons_append]
  gi_wp2
  go_ret
  exact ⟨rfl, rfl⟩
/-- These items are what the slice holds. -/
def HasItems {D : Nat → Bool} {w : World} (W : World) (ao : Option Addr) (m c : Nat) (xs : List (Item D w)) : Prop :=
  xs.length = m ∧ m ≤ c ∧ c ≤ maxLen ∧ m * 56 ≤ 140737488351232 ∧ (m = 0 ∨ ∃ b off, ao = some ⟨b, off, none⟩ ∧ b < w.heap.size ∧ Rowed W b off xs)
theorem items_of {D : Nat → Bool} {w : World} {v : Value} {l : List Tm} (h : Tms (hide D w) v l) : ∃ (ao : Option Addr) (c : Nat) (xs : List (Item D w)), v = .slice ao l.length c ∧ xs.map (fun x => x.1.1) = l ∧ HasItems w ao l.length c xs := by
  obtain ⟨a, c, h1, h2, h3, h4, h5⟩ := h
  unfold BIG at h4
  rcases h5 with rfl | ⟨b, off, rfl, hb, hr⟩
  · exact ⟨a, c, [], h1, rfl, rfl, h2, h3, h4, Or.inl rfl⟩
  · obtain ⟨ps, e1, e2, e3⟩ := hr.pairs
    have hlen : ps.length = l.length := by rw [← e1, List.length_map]
    refine ⟨_, c, ps.pmap (fun p hp => (⟨p, hp⟩ : Item D w)) e2, h1, ?_, ?_, h2, h3, h4, Or.inr ⟨b, off, rfl, by rwa [hide_size] at hb, fun i x hx j u hu => ?_⟩⟩
    · rw [List.map_pmap]
      simpa using e1
    · simp [hlen]
    · rw [List.getElem?_pmap] at hx
      simp only [Option.pmap_eq_some_iff] at hx
      obtain ⟨p, hp, hpi, rfl⟩ := hx
      have hj : j < 4 := (List.getElem?_eq_some_iff.1 hu).1
      have := e3 (i * 4 + j) u (by rw [flat_get pCells_len ps i p hpi j hj]; exact hu)
      rw [Nat.add_assoc]
      exact (Stays.unhide D w).2 _ _ this
theorem back_stops {D : Nat → Bool} {w : World} (F : Fence) (n : Nat) (hf : F.fn 39) (hro : F.round = none) (hn : 1 ≤ n) (Bs n₀ : Nat) (ao : Option Addr) (m c : Nat) (xs : List (Item D w)) (W0 : World) (hW0 : Below w.heap.size w W0) (hn₀ : w.heap.size ≤ n₀) (hBs : Bs < W0.heap.size)
    (hc : W0.cell? ⟨Bs, 0, none⟩ = some (.slice ao m c)) (hI : HasItems w ao m c xs) :
    SeqStopsK F n Try.prog 39 #[.pointer (some ⟨Bs, 0, none⟩)] (encB (D := D) (w := w)) (Kq n₀ Bs) (fun ys => ys = back xs)
      (fun pre => ∃ k, k ≤ m ∧ pre = (back xs).take k) m W0 := fun l J Jx W hW _ _ hY h0 => by
  have hc' := (hW.cell (p := ⟨Bs, 0, none⟩) (by show Bs < _; exact hBs)).trans hc
  obtain ⟨h1, h2, h3, h4, h5⟩ := hI
  by_cases hm0 : m = 0
  · subst hm0
    obtain rfl : xs = [] := List.length_eq_zero_iff.1 h1
    exact (back1_nil_in F n hf hro l Bs c ao J W hc' h0).mono fun e W' ⟨he, hj⟩ => ⟨he, .inl ⟨_, rfl, hj⟩⟩
  · obtain ⟨b, off, rfl, hb, hr⟩ := h5.resolve_left hm0
    refine back1_in F n hf hro hn l Bs n₀ b off c m xs h1 h4 (by omega) J Jx hY W hc' h2 h3 (fun i x hx j u hu => ?_) h0
    have hbw : Below w.heap.size w W := hW0.trans (hW.mono hW0.size)
    exact cell_later hbw (hr i x hx j u hu)
end Go.Proofs.Ythikbenfhaglkaa
