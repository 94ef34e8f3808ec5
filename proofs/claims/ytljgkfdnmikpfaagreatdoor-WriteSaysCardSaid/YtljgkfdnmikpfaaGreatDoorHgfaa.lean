import Derived.WalkKit
import Derived.WalkSpells
import Derived.WalkLawsBesides
import Derived.Lib.Hide
import Derived.ProofKit
import Derived.Maps.AppendAt
import Derived.OpenShut
import Derived.SizedLaws
import Derived.SliceStrings
import Derived.Carry
import Derived.Stop.Joined
import Derived.Deep.Slices
import Derived.LoopTactic
import Derived.Lib.Strings
import Derived.Deep.QuietTactic
import Derived.BigQuiet
import Derived.Test.YtljgkfdnmikpfaaGreatDoorRows
import Derived.Shelf.SlGeneric
import Derived.Shelf.SlicesQ.IndexFunc
import Derived.Shelf.Spec.SlicesGrow
import Derived.Ground.SlgfProg
import Derived.Ground.Names7Prog
import Derived.Test.YtljgkfdnmikpfaaGreatDoorProg
import Derived.Lib.SliceRun
import Derived.Deep.Quiet
import Derived.Below
import Derived.Laws.ResultCell
import Derived.Deep.Upon
import Derived.Deep.AppendSrc
set_option linter.unusedVariables false
set_option linter.unusedSimpArgs false
/- Small facts of ours about endings, byte strings and slices of strings in memory; nothing here speaks of one program. -/
namespace Go.Proofs.YtljgkfdnmikpfaaGreatDoor
open Go.RowKit

theorem ret_bool {a b : Bool} (h : a = b) : Ending.returned (.bool a) = .returned (.bool b) := by rw [h]
theorem ret_int {k : IntKind} {a b : Int} (h : a = b) : Ending.returned (.int k a) = .returned (.int k b) := by rw [h]
abbrev Ret2 (x : Int × Int) : Ending := .returned (.tuple #[.int .i64 x.1, .int .i64 x.2])
theorem ret_str {a b : ByteArray} (h : a = b) : Ending.returned (.string a) = .returned (.string b) := by rw [h]
abbrev bl (s : ByteArray) : List UInt8 := s.data.toList
theorem bl_len (s : ByteArray) : (bl s).length = s.size := rfl
theorem bl_get (s : ByteArray) (k : Nat) (h : k < s.size) : (bl s)[k]'h = s[k] := rfl
theorem bl_inj {s t : ByteArray} (h : bl s = bl t) : s = t := by
  obtain ⟨⟨l⟩⟩ := s; obtain ⟨⟨m⟩⟩ := t; simp [bl] at h; rw [h]
theorem bl_nil {s : ByteArray} (h : s.size = 0) : bl s = [] := List.length_eq_zero_iff.1 h

/-- The value reads as this list of strings. -/
def Strs (w : World) (v : Value) (ss : List ByteArray) : Prop :=
  ∃ (a : Option Addr) (cap : Nat), v = .slice a ss.length cap ∧ ss.length ≤ cap ∧ cap ≤ maxLen ∧ ss.length * 16 ≤ 140737488351232 ∧ (∀ s ∈ ss, s.size ≤ 140737488351232) ∧
    (ss = [] ∨ ∃ b off, a = some ⟨b, off, none⟩ ∧ b < w.heap.size ∧ ∀ i x, ss[i]? = some x → w.cell? ⟨b, off + i, none⟩ = some (.string x))
/-- Whatever lay in W lies in w as it lay. -/
abbrev Ext (W w : World) : Prop := Below W.heap.size W w
theorem Ext.trans' {a b c : World} (h : Below a.heap.size a b) (k : Below b.heap.size b c) : Below a.heap.size a c := h.trans (k.mono h.size)
end Go.Proofs.YtljgkfdnmikpfaaGreatDoor
/- Small facts of ours on worlds: what is laid anew, what is drawn, a row that stays. Nothing here speaks of one program. -/
namespace Go.Proofs.YtljgkfdnmikpfaaGreatDoor
open Go.RowKit
theorem bel1' (w : World) (o : Obj) : Below w.heap.size w (w.alloc o) := (Below.refl _ _).alloc (Nat.le_refl _) o
theorem bel_drewN {B : Nat} {a w : World} (h : Below B a w) (n : Nat) : Below B a (w.drewN n) := ⟨h.os, h.tape, h.output, h.size, h.block⟩
theorem row_ext {w w' : World} {B k n : Nat} {e : TypeId} {v : Value} {xs : List Value} (h : w.ownsRow B e k v n xs) (hb : Below w.heap.size w w') : w'.ownsRow B e k v n xs := by
  obtain ⟨h0, h1⟩ := h
  refine ⟨h0, ?_⟩
  rcases h1 with h1 | ⟨g, cap, cur, rfl, hg, hh, h2⟩
  · exact Or.inl h1
  · exact Or.inr ⟨g, cap, cur, rfl, hg, by rw [hb.block g (Array.getElem?_eq_some_iff.1 hh).1]; exact hh, h2⟩
end Go.Proofs.YtljgkfdnmikpfaaGreatDoor
/- How the arguments of a law are opened: from the form's reading to our own predicates. Nothing here speaks of one program. -/
namespace Go.Proofs.YtljgkfdnmikpfaaGreatDoor
open Go.RowKit Go.ChangeShapes Go.WideShapes Go.ChangeAt

section
variable {H : Type} {enc : TypeId × Value → H} {P : Program} {W : World}

theorem weights_ok {ts : List TypeId} {ds : List (DataW H)} (h : (DataW.weightsEach P ts ds).all (· ≤ reachBytes) = true) {j : Nat} {t : TypeId} {d : DataW H} (ht : ts[j]? = some t) (hd : ds[j]? = some d) :
    ∀ n ∈ d.weights P t, n ≤ 140737488351232 := fun n hn => by
  have := List.all_eq_true.1 h n (DataW.weights_mem_each ht hd n hn)
  have e : reachBytes = 140737488351232 := by decide
  simpa [e] using this
theorem weights_all_mem {e : TypeId} : ∀ {l : List (DataW H)} {d : DataW H}, d ∈ l → ∀ n ∈ d.weights P e, n ∈ DataW.weightsAll P e l
  | a :: r, d, h, n, hn => by
    simp only [DataW.weightsAll, List.mem_append]
    rcases List.mem_cons.1 h with rfl | h
    · exact Or.inl hn
    · exact Or.inr (weights_all_mem h n hn)

theorem lt_of_trod {t : TypeId} {v : Value} {d : DataW H} {ps : List MemPlace} (h : DataW.Trod enc P W 0 (fun _ => true) true t v d ps) : ∀ x ∈ ps, x.block < W.heap.size := by
  obtain ⟨m, hm⟩ := h; exact DataW.trod_lt m _ _ _ hm

theorem add_plain (b o i : Nat) : (⟨b, o, none⟩ : Addr).add i = ⟨b, o + i, none⟩ := by
  unfold Addr.add; split
  · rename_i h; rw [h]; rfl
  · rfl
theorem spot_of_cell {w : World} {x : Addr} {v : Value} (h : w.cell? (x.add 0) = some v) : x.spot = none := by
  rcases x with ⟨xb, xo, xs⟩
  cases xs with
  | none => rfl
  | some q =>
    exfalso
    rw [show (⟨xb, xo, some q⟩ : Addr).add 0 = ⟨xb, xo, some q⟩ from rfl] at h
    unfold World.cell? at h
    split at h <;> simp at h
end
end Go.Proofs.YtljgkfdnmikpfaaGreatDoor
/- A slice of whatever elements that came in, opened element by element. Nothing here speaks of one program. -/
namespace Go.Proofs.YtljgkfdnmikpfaaGreatDoor
open Go.RowKit Go.ChangeShapes Go.WideShapes Go.ChangeAt Go.Deep

/-- The value reads as these elements, of S cells each. -/
def Elems {α : Type} (S : Nat) (cells : α → List Value) (w : World) (v : Value) (xs : List α) : Prop :=
  ∃ (a : Option Addr) (cap : Nat), v = .slice a xs.length cap ∧ xs.length ≤ cap ∧ cap ≤ maxLen ∧
    (xs = [] ∨ ∃ b off, a = some ⟨b, off, none⟩ ∧ b < w.heap.size ∧ ∀ (i : Nat) (x : α), xs[i]? = some x → ∀ (j : Nat) (u : Value), (cells x)[j]? = some u → w.cell? ⟨b, off + (i * S + j), none⟩ = some u)
theorem Elems.ext {α : Type} {S : Nat} {cells : α → List Value} {w w' : World} {v : Value} {xs : List α} (h : Elems S cells w v xs) (hb : Below w.heap.size w w') : Elems S cells w' v xs := by
  obtain ⟨a, cap, h1, h2, h3, h6⟩ := h
  refine ⟨a, cap, h1, h2, h3, ?_⟩
  rcases h6 with h6 | ⟨b, off, e1, e2, e3⟩
  · exact Or.inl h6
  · exact Or.inr ⟨b, off, e1, Nat.lt_of_lt_of_le e2 hb.size, fun i x hx j u hu => cell_later hb (e3 i x hx j u hu)⟩

theorem list_choose {α : Type} {Q : Nat → α → Prop} : ∀ n : Nat, (∀ i, i < n → ∃ x, Q i x) → ∃ xs : List α, xs.length = n ∧ ∀ i x, xs[i]? = some x → Q i x
  | 0, _ => ⟨[], rfl, by simp⟩
  | n + 1, h => by
    obtain ⟨xs, hl, hx⟩ := list_choose n (fun i hi => h i (by omega))
    obtain ⟨y, hy⟩ := h n (by omega)
    refine ⟨xs ++ [y], by simp [hl], fun i x hi => ?_⟩
    by_cases hlt : i < xs.length
    · rw [List.getElem?_append_left hlt] at hi; exact hx i x hi
    · rw [List.getElem?_append_right (by omega)] at hi
      have hm := (List.getElem?_eq_some_iff.1 hi).1
      simp at hm
      have e : i = n := by omega
      subst e
      rw [hl, Nat.sub_self] at hi
      simp at hi; subst hi; exact hy

section
variable {H : Type} {enc : TypeId × Value → H} {P : Program} {W : World}
theorem elems_of_trod {α : Type} {t e : TypeId} {v : Value} {d : DataW H} {ps : List MemPlace} (ht : P.underlying t = some (.slice e)) {S B : Nat} (hc : P.cellsOf e = S) (hS : 0 < S) (hb : P.bytesOf e = B) (cells : α → List Value) (ok : α → Prop)
    (hv : ∃ a n c, v = .slice a n c) (h : DataW.Trod enc P W 0 (fun _ => true) true t v d ps) (hw : ∀ n ∈ d.weights P t, n ≤ 140737488351232)
    (each : ∀ (n : Nat) (cs : List Value) (D : DataW H) (pl : List MemPlace), DataW.trod enc P W 0 (fun _ => true) true n e cs = some (D, pl) → (∀ m ∈ D.weights P e, m ≤ 140737488351232) → ∃ x : α, cs = cells x ∧ ok x) :
    ∃ xs : List α, Elems S cells W v xs ∧ (∀ x ∈ xs, ok x) ∧ xs.length * B ≤ 140737488351232 := by
  obtain ⟨a, n, c, rfl⟩ := hv
  obtain ⟨fuel, hf⟩ := h
  rcases open_slice ht hf with ⟨hcs, _⟩ | ⟨x, l, cc, m, n', D, Pl, hcs, _, hl, hm, hz, hd, hi⟩
  · simp [Value.cells] at hcs
    obtain ⟨rfl, rfl, rfl⟩ := hcs
    exact ⟨[], ⟨none, 0, rfl, Nat.le_refl _, Nat.zero_le _, Or.inl rfl⟩, by simp, by simp⟩
  · simp [Value.cells] at hcs
    obtain ⟨rfl, rfl, rfl⟩ := hcs
    simp at hz
    subst hz
    simp only [Prod.mk.injEq] at hd
    obtain ⟨rfl, rfl⟩ := hd
    have hbig := hw ((((List.range n).map D).length + ((List.range (m - n)).map fun j => D (n + j)).length) * P.bytesOf e) (by simp [DataW.weights, ht])
    rw [hb] at hbig
    simp at hbig
    obtain ⟨xs, hxl, hxs⟩ := list_choose (Q := fun i (y : α) => ok y ∧ ∃ cs', W.cells? 0 (x.add (i * S)) S = some cs' ∧ cs' = cells y) n (fun i hin => by
      obtain ⟨cs', h1, h2⟩ := hi i (by omega)
      rw [hc] at h1
      obtain ⟨y, hy1, hy2⟩ := each n' cs' (D i) (Pl i) h2 (fun k hk => hw k (by
        simp only [DataW.weights, ht, List.mem_cons, List.mem_append]
        exact Or.inr (Or.inl (weights_all_mem (List.mem_map_of_mem (f := D) (List.mem_range.2 hin)) k hk))))
      exact ⟨y, hy2, cs', h1, hy1⟩)
    have hn : n * B ≤ 140737488351232 := Nat.le_trans (Nat.mul_le_mul_right _ (by omega)) hbig
    refine ⟨xs, ⟨some x, m, by rw [hxl], by omega, hm, ?_⟩, fun y hy => ?_, by rw [hxl]; exact hn⟩
    · by_cases h0 : n = 0
      · left; exact List.length_eq_zero_iff.1 (by omega)
      right
      obtain ⟨y0, hy0⟩ : ∃ y0, xs[0]? = some y0 := ⟨_, List.getElem?_eq_getElem (by omega)⟩
      obtain ⟨_, cs0, hq, _⟩ := hxs 0 y0 hy0
      obtain ⟨_, hl0, hat0⟩ := World.cells?_some hq
      have hx0 := hat0 0 hS
      have hs0 : x.spot = none := by
        rw [List.getElem?_eq_getElem (by omega)] at hx0
        have e1 := spot_of_cell hx0
        rw [Nat.zero_mul] at e1
        have : x.add 0 = x := by
          rcases x with ⟨xb, xo, xs'⟩; unfold Addr.add; split <;> simp_all
        rw [this] at e1; exact e1
      rcases x with ⟨xb, xo, xs'⟩
      cases (show xs' = none from hs0)
      refine ⟨xb, xo, rfl, ?_, fun i y hy j u hu => ?_⟩
      · rw [List.getElem?_eq_getElem (by omega), add_plain, add_plain] at hx0; exact World.block_lt_of_cell? _ _ hx0
      · obtain ⟨_, cs', hq', rfl⟩ := hxs i y hy
        obtain ⟨_, hl', hat⟩ := World.cells?_some hq'
        have hj := (List.getElem?_eq_some_iff.1 hu).1
        have := hat j (by omega)
        rw [add_plain, add_plain, hu, Nat.add_assoc] at this
        exact this
    · obtain ⟨i, hi', rfl⟩ := List.getElem_of_mem hy
      exact (hxs i _ (List.getElem?_eq_getElem hi')).1
end
end Go.Proofs.YtljgkfdnmikpfaaGreatDoor
/- Operators: what they are, and the calls that only read one of them: side, may, mayAdd, Sides. -/
namespace Go.Proofs.YtljgkfdnmikpfaaGreatDoor
open Go.RowKit

structure O where
  n : ByteArray
  k : ByteArray
  l : Int
instance : Inhabited O := ⟨⟨⟨#[]⟩, ⟨#[]⟩, 0⟩⟩
def oCells (o : O) : List Value := [.string o.n, .string o.k, .int .i64 o.l]
abbrev oVal (o : O) : Value := .agg #[.string o.n, .string o.k, .int .i64 o.l]
def oOk (o : O) : Prop := o.n.size ≤ 140737488351232 ∧ o.k.size ≤ 140737488351232 ∧ (-9223372036854775808 ≤ o.l ∧ o.l ≤ 9223372036854775807)
theorem oCells_len (o : O) : (oCells o).length = 3 := rfl

/-- 2 between, 1 ahead, 0 none. -/
def sideB (k : List UInt8) : Int :=
  if k == [120, 102, 120] then 2 else if k == [120, 102, 121] then 2 else if k == [121, 102, 120] then 2 else if k == [102, 121] then 1 else if k == [102, 120] then 1 else 0
def mayB (n k : List UInt8) (l : Int) : Bool :=
  if n == [44] then k == [120, 102, 121] && l == 1000
  else if n == [] then false else if n == [124] then false else if n == [91, 93] then false else if n == [123, 125] then false
  else decide ((n.length : Int) ≤ 64) && (sideB k != 0) && decide (1 ≤ l) && decide (l ≤ 1200)
def sidesB (k : List UInt8) (l : Int) : Int × Int :=
  if k == [120, 102, 120] then (wrap64 (l - 1), wrap64 (l - 1)) else if k == [120, 102, 121] then (wrap64 (l - 1), l) else if k == [121, 102, 120] then (l, wrap64 (l - 1)) else if k == [102, 121] then (0, l) else if k == [102, 120] then (0, wrap64 (l - 1)) else (0, 0)

theorem side_walk (k : ByteArray) (w : World) : Calls Tryz.prog 88 #[.string k] w fun e w' => e = .returned (.int .i64 (sideB (bl k))) ∧ w = w' := by
  cases h1 : (k.toList == [120, 102, 120])
  · cases h2 : (k.toList == [120, 102, 121])
    · cases h3 : (k.toList == [121, 102, 120])
      · cases h4 : (k.toList == [102, 121])
        · cases h5 : (k.toList == [102, 120])
          · go_enter Tryz.func88, Tryz.ntmps88
            go_wp2
            go_ret
            refine ⟨ret_int ?_, rfl⟩
            rw [Lib.toList_data] at h1 h2 h3 h4 h5
            simp [sideB, bl, h1, h2, h3, h4, h5]
          · go_enter Tryz.func88, Tryz.ntmps88
            go_wp2
            go_ret
            refine ⟨ret_int ?_, rfl⟩
            rw [Lib.toList_data] at h1 h2 h3 h4 h5
            simp [sideB, bl, h1, h2, h3, h4, h5]
        · go_enter Tryz.func88, Tryz.ntmps88
          go_wp2
          go_ret
          refine ⟨ret_int ?_, rfl⟩
          rw [Lib.toList_data] at h1 h2 h3 h4
          simp [sideB, bl, h1, h2, h3, h4]
      · go_enter Tryz.func88, Tryz.ntmps88
        go_wp2
        go_ret
        refine ⟨ret_int ?_, rfl⟩
        rw [Lib.toList_data] at h1 h2 h3
        simp [sideB, bl, h1, h2, h3]
    · go_enter Tryz.func88, Tryz.ntmps88
      go_wp2
      go_ret
      refine ⟨ret_int ?_, rfl⟩
      rw [Lib.toList_data] at h1 h2
      simp [sideB, bl, h1, h2]
  · go_enter Tryz.func88, Tryz.ntmps88
    go_wp2
    go_ret
    refine ⟨ret_int ?_, rfl⟩
    rw [Lib.toList_data] at h1
    simp [sideB, bl, h1]

theorem tests_bl {n : ByteArray} {l : List UInt8} {b : Bool} (h : (n.toList == l) = b) : (bl n == l) = b := by rw [Lib.toList_data] at h; exact h
set_option maxRecDepth 100000
set_option maxHeartbeats 1000000 in
/-- May an operator be. -/
theorem may_walk (n k : ByteArray) (l : Int) (w : World) :
    Calls Tryz.prog 86 #[.agg #[.string n, .string k, .int .i64 l]] w fun e w' => e = .returned (.bool (mayB (bl n) (bl k) l)) ∧ Below w.heap.size w w' := by
  cases h0 : (n.toList == [44])
  · cases h1 : (n.toList == [])
    · cases h2 : (n.toList == [124])
      · cases h3 : (n.toList == [91, 93])
        · cases h4 : (n.toList == [123, 125])
          · have hE : mayB (bl n) (bl k) l = (decide ((n.size : Int) ≤ 64) && (sideB (bl k) != 0) && decide (1 ≤ l) && decide (l ≤ 1200)) := by
              unfold mayB; rw [tests_bl h0, tests_bl h1, tests_bl h2, tests_bl h3, tests_bl h4]; rfl
            rw [hE]; clear hE
            have hS := side_walk k
            obtain ⟨z, hz⟩ : ∃ z, sideB (bl k) = z := ⟨_, rfl⟩
            rw [hz]; rw [hz] at hS; clear hz
            have HS := Lib.hid hS; clear hS
            cases h5 : decide ((n.size : Int) ≤ 64)
            · go_enter Tryz.func86, Tryz.ntmps86
              go_wp2
              go_ret
              exact ⟨rfl, bel1' _ _⟩
            · cases h6 : (z != 0)
              · go_enter Tryz.func86, Tryz.ntmps86
                (go_wp2_with fail; go_fit (HS.out _); rintro e w' ⟨rfl, rfl⟩)
                go_wp2
                go_ret
                exact ⟨rfl, bel1' _ _⟩
              · cases h7 : decide (1 ≤ l)
                · go_enter Tryz.func86, Tryz.ntmps86
                  (go_wp2_with fail; go_fit (HS.out _); rintro e w' ⟨rfl, rfl⟩)
                  go_wp2
                  go_ret
                  exact ⟨rfl, bel1' _ _⟩
                · cases h8 : decide (l ≤ 1200)
                  · go_enter Tryz.func86, Tryz.ntmps86
                    (go_wp2_with fail; go_fit (HS.out _); rintro e w' ⟨rfl, rfl⟩)
                    go_wp2
                    go_ret
                    exact ⟨rfl, bel1' _ _⟩
                  · go_enter Tryz.func86, Tryz.ntmps86
                    (go_wp2_with fail; go_fit (HS.out _); rintro e w' ⟨rfl, rfl⟩)
                    go_wp2
                    go_ret
                    exact ⟨rfl, bel1' _ _⟩
          · have hE : mayB (bl n) (bl k) l = false := by unfold mayB; simp only [tests_bl h0, tests_bl h1, tests_bl h2, tests_bl h3, tests_bl h4, if_true]; rfl
            rw [hE]; clear hE
            go_enter Tryz.func86, Tryz.ntmps86
            go_wp2
            go_ret
            exact ⟨rfl, bel1' _ _⟩
        · have hE : mayB (bl n) (bl k) l = false := by unfold mayB; simp only [tests_bl h0, tests_bl h1, tests_bl h2, tests_bl h3, if_true]; rfl
          rw [hE]; clear hE
          go_enter Tryz.func86, Tryz.ntmps86
          go_wp2
          go_ret
          exact ⟨rfl, bel1' _ _⟩
      · have hE : mayB (bl n) (bl k) l = false := by unfold mayB; simp only [tests_bl h0, tests_bl h1, tests_bl h2, if_true]; rfl
        rw [hE]; clear hE
        go_enter Tryz.func86, Tryz.ntmps86
        go_wp2
        go_ret
        exact ⟨rfl, bel1' _ _⟩
    · have hE : mayB (bl n) (bl k) l = false := by unfold mayB; simp only [tests_bl h0, tests_bl h1, if_true]; rfl
      rw [hE]; clear hE
      go_enter Tryz.func86, Tryz.ntmps86
      go_wp2
      go_ret
      exact ⟨rfl, bel1' _ _⟩
  · have hE : mayB (bl n) (bl k) l = ((k.toList == [120, 102, 121]) && (l == 1000)) := by unfold mayB; rw [if_pos (tests_bl h0)]; rw [Lib.toList_data]
    rw [hE]; clear hE
    cases h1 : (k.toList == [120, 102, 121])
    · go_enter Tryz.func86, Tryz.ntmps86
      go_wp2
      go_ret
      exact ⟨rfl, bel1' _ _⟩
    · cases h2 : (l == 1000)
      · go_enter Tryz.func86, Tryz.ntmps86
        go_wp2
        go_ret
        exact ⟨rfl, bel1' _ _⟩
      · go_enter Tryz.func86, Tryz.ntmps86
        go_wp2
        go_ret
        exact ⟨rfl, bel1' _ _⟩

theorem sides_walk (n k : ByteArray) (l : Int) (w : World) :
    Calls Tryz.prog 110 #[.agg #[.string n, .string k, .int .i64 l]] w fun e w' => e = .returned (.tuple #[.int .i64 (sidesB (bl k) l).1, .int .i64 (sidesB (bl k) l).2]) ∧ Below w.heap.size w w' := by
  cases h1 : (k.toList == [120, 102, 120])
  · cases h2 : (k.toList == [120, 102, 121])
    · cases h3 : (k.toList == [121, 102, 120])
      · cases h4 : (k.toList == [102, 121])
        · cases h5 : (k.toList == [102, 120])
          · have hE : sidesB (bl k) l = (0, 0) := by unfold sidesB; simp only [tests_bl h1, tests_bl h2, tests_bl h3, tests_bl h4, tests_bl h5, if_true]; try rfl
            rw [hE]; clear hE
            go_enter Tryz.func110, Tryz.ntmps110
            go_wp2
            go_ret2
            exact ⟨rfl, by first | exact bel1' _ _ | exact bel_drewN (bel1' _ _) _⟩
          · have hE : sidesB (bl k) l = (0, wrap64 (l - 1)) := by unfold sidesB; simp only [tests_bl h1, tests_bl h2, tests_bl h3, tests_bl h4, tests_bl h5, if_true]; try rfl
            rw [hE]; clear hE
            go_enter Tryz.func110, Tryz.ntmps110
            go_wp2_with fail
            go_quiet (fail)
            go_wp2
            go_ret2
            exact ⟨rfl, by first | exact bel1' _ _ | exact bel_drewN (bel1' _ _) _⟩
        · have hE : sidesB (bl k) l = (0, l) := by unfold sidesB; simp only [tests_bl h1, tests_bl h2, tests_bl h3, tests_bl h4, if_true]; try rfl
          rw [hE]; clear hE
          go_enter Tryz.func110, Tryz.ntmps110
          go_wp2_with fail
          go_quiet (fail)
          go_wp2
          go_ret2
          exact ⟨rfl, by first | exact bel1' _ _ | exact bel_drewN (bel1' _ _) _⟩
      · have hE : sidesB (bl k) l = (l, wrap64 (l - 1)) := by unfold sidesB; simp only [tests_bl h1, tests_bl h2, tests_bl h3, if_true]; try rfl
        rw [hE]; clear hE
        go_enter Tryz.func110, Tryz.ntmps110
        go_wp2_with fail
        go_quiet (fail)
        go_wp2
        go_ret2
        exact ⟨rfl, by first | exact bel1' _ _ | exact bel_drewN (bel1' _ _) _⟩
    · have hE : sidesB (bl k) l = (wrap64 (l - 1), l) := by unfold sidesB; simp only [tests_bl h1, tests_bl h2, if_true]; try rfl
      rw [hE]; clear hE
      go_enter Tryz.func110, Tryz.ntmps110
      go_wp2_with fail
      go_quiet (fail)
      go_wp2
      go_ret2
      exact ⟨rfl, by first | exact bel1' _ _ | exact bel_drewN (bel1' _ _) _⟩
  · have hE : sidesB (bl k) l = (wrap64 (l - 1), wrap64 (l - 1)) := by unfold sidesB; simp only [tests_bl h1, if_true]; try rfl
    rw [hE]; clear hE
    go_enter Tryz.func110, Tryz.ntmps110
    go_wp2_with fail
    go_quiet (fail)
    go_wp2
    go_ret2
    exact ⟨rfl, by first | exact bel1' _ _ | exact bel_drewN (bel1' _ _) _⟩
end Go.Proofs.YtljgkfdnmikpfaaGreatDoor
/-
  DERIVED: THE SHELF's CONTRACTS AT THIS DUMP, IN PLAIN WORDS (tools/lay-plain.mjs out of 'TryzLayXt.lean', which tools/lay-shelf.mjs wrote): THE SAME DECLARATIONS UNDER THE SAME NAMES: 'import', 'namespace', 'open', 'def', 'theorem' AND NOTHING ELSE: no command of the shelf's: FOR A HAND-IN. Each laying: the table of numbers ('.._ren') and one theorem, a field a fact of the dump's own or the kernel's comparison; each contract: ONE APPLICATION.
-/
namespace Go.Proofs
open Go.Shelf
def Tryz.indexOp_ren : Go.Shelf.Ren := ⟨fun | 6 => 130 | n => n, fun | 22 => 34 | 23 => 33 | 25 => 148 | 3 => 3 | 0 => 0 | 4 => 4 | n => n, fun | n => n⟩
theorem Tryz.indexOp : Go.Proofs.SlLaysH0.n6 Tryz.prog Tryz.indexOp_ren := {
  mixed := by kernel_rfl
  f6 := ⟨Tryz.f130.name, by decide, Tryz.func130.trans (congrArg some (by kernel_rfl))⟩
  t0 := Tryz.underlying0
  a0 := Tryz.isAgg0
  z0 := Tryz.sizeOf0
  v0 := Tryz.zeroValue0
  t3 := Tryz.underlying3
  a3 := Tryz.isAgg3
  z3 := Tryz.sizeOf3
  v3 := Tryz.zeroValue3
  t4 := Tryz.underlying4
  a4 := Tryz.isAgg4
  z4 := Tryz.sizeOf4
  v4 := Tryz.zeroValue4
  t22 := Tryz.underlying34
  a22 := Tryz.isAgg34
  z22 := Tryz.sizeOf34
  v22 := Tryz.zeroValue34
  t25 := Tryz.underlying148
  a25 := Tryz.isAgg148
  z25 := Tryz.sizeOf148
  v25 := Tryz.zeroValue148 }
def Tryz.growOp_ren : Go.Shelf.Ren := ⟨fun | 4 => 74 | n => n, fun | 22 => 34 | 25 => 33 | 3 => 3 | 4 => 4 | 9 => 9 | 20 => 20 | 0 => 0 | n => n, fun | n => n⟩
theorem Tryz.growOp : Go.Proofs.Lays8.n4 Tryz.prog Tryz.growOp_ren := {
  mixed := by kernel_rfl
  f4 := ⟨Tryz.f74.name, by decide, Tryz.func74.trans (congrArg some (by kernel_rfl))⟩
  t0 := Tryz.underlying0
  a0 := Tryz.isAgg0
  z0 := Tryz.sizeOf0
  v0 := Tryz.zeroValue0
  t3 := Tryz.underlying3
  a3 := Tryz.isAgg3
  z3 := Tryz.sizeOf3
  v3 := Tryz.zeroValue3
  t4 := Tryz.underlying4
  a4 := Tryz.isAgg4
  z4 := Tryz.sizeOf4
  v4 := Tryz.zeroValue4
  t9 := Tryz.underlying9
  a9 := Tryz.isAgg9
  z9 := Tryz.sizeOf9
  v9 := Tryz.zeroValue9
  t20 := Tryz.underlying20
  a20 := Tryz.isAgg20
  z20 := Tryz.sizeOf20
  v20 := Tryz.zeroValue20
  t22 := Tryz.underlying34
  a22 := Tryz.isAgg34
  z22 := Tryz.sizeOf34
  v22 := Tryz.zeroValue34 }
end Go.Proofs
/- Operators: where the one of a name and side is. -/
namespace Go.Proofs.YtljgkfdnmikpfaaGreatDoor
open Go.Shelf Go.RowKit

def isAt (n : List UInt8) (s : Int) (y : O) : Bool := (bl y.n == n) && (sideB (bl y.k) == s)
/-- The first place of that name and side, or -1. -/
def placeB (xs : List O) (n : List UInt8) (s : Int) : Int := Lib.idxBy (fun _ y => isAt n s y) xs default
def Ops (w : World) (v : Value) (xs : List O) : Prop := Elems 3 oCells w v xs
theorem Ops.ext {w w' : World} {v : Value} {xs : List O} (h : Ops w v xs) (hb : Below w.heap.size w w') : Ops w' v xs := Elems.ext h hb

theorem pred_walk (n : ByteArray) (s : Int) (b1 b2 : Nat) (hne : b1 ≠ b2) (w : World) (h1 : w.cell? ⟨b1, 0, none⟩ = some (.string n)) (h2 : w.cell? ⟨b2, 0, none⟩ = some (.int .i64 s)) (l1 : b1 < w.heap.size) (l2 : b2 < w.heap.size) (y : O) :
    Calls Tryz.prog 131 #[.agg #[.string y.n, .string y.k, .int .i64 y.l], .pointer (some ⟨b1, 0, none⟩), .pointer (some ⟨b2, 0, none⟩)] w fun e w' => e = .returned (.bool (isAt (bl n) s y)) ∧ Below w.heap.size w w' := by
  rcases y with ⟨yn, yk, yl⟩
  have hS := side_walk yk
  show Calls _ _ _ _ fun e w' => e = .returned (.bool ((bl yn == bl n) && (sideB (bl yk) == s))) ∧ _
  obtain ⟨z, hz⟩ : ∃ z, sideB (bl yk) = z := ⟨_, rfl⟩
  rw [hz]; rw [hz] at hS; clear hz
  have HS := Lib.hid hS; clear hS
  have n1 : b1 ≠ w.heap.size := by omega
  have n2 : b2 ≠ w.heap.size := by omega
  rw [show (bl yn == bl n) = (yn.toList == n.toList) by rw [Lib.toList_data, Lib.toList_data]]
  cases h3 : (yn.toList == n.toList)
  · go_enter Tryz.func131, Tryz.ntmps131
    go_wp2_with fail
    go_quiet (fail)
    go_wp2
    go_ret
    exact ⟨rfl, bel_drewN (bel1' _ _) _⟩
  · cases h4 : (z == s)
    · go_enter Tryz.func131, Tryz.ntmps131
      go_wp2_with fail
      go_quiet ((go_at_call 88; exact Calls.quiet_of_same ((HS.out _).mono fun _ _ ⟨a, b⟩ => ⟨a, b.symm⟩)))
      go_wp2
      go_ret
      exact ⟨rfl, bel_drewN (bel1' _ _) _⟩
    · go_enter Tryz.func131, Tryz.ntmps131
      go_wp2_with fail
      go_quiet ((go_at_call 88; exact Calls.quiet_of_same ((HS.out _).mono fun _ _ ⟨a, b⟩ => ⟨a, b.symm⟩)))
      go_wp2
      go_ret
      exact ⟨rfl, bel_drewN (bel1' _ _) _⟩

theorem index_none (a : Option Addr) (c : Nat) (f : Value) (w : World) : Calls Tryz.prog 130 #[.slice a 0 c, f] w fun e w' => e = .returned (.int .i64 (-1)) ∧ w = w' := by
  go_enter Tryz.func130, Tryz.ntmps130
  go_wp2_with fail
  refine wp_loop_rounds 1 ?_
  rw [rounds_succ]
  go_wp2
  go_ret
  exact ⟨rfl, rfl⟩
end Go.Proofs.YtljgkfdnmikpfaaGreatDoor
/- Operators: place, Good, the one of a name and side, Pre, In. -/
namespace Go.Proofs.YtljgkfdnmikpfaaGreatDoor
open Go.Shelf Go.RowKit

theorem Ops.form {w : World} {v : Value} {xs : List O} (h : Ops w v xs) : ∃ a c, v = .slice a xs.length c ∧ xs.length ≤ c ∧ c ≤ maxLen := by
  obtain ⟨a, cap, e, h1, h2, _⟩ := h; exact ⟨a, cap, e, h1, h2⟩
theorem Ops.shape {w : World} {v : Value} {xs : List O} (h : Ops w v xs) (h0 : 0 < xs.length) :
    ∃ b off c, v = .slice (some ⟨b, off, none⟩) xs.length c ∧ xs.length ≤ c ∧ c ≤ maxLen ∧ b < w.heap.size ∧ ∀ (i : Nat) (x : O), xs[i]? = some x → ∀ (j : Nat) (u : Value), (oCells x)[j]? = some u → w.cell? ⟨b, off + (i * 3 + j), none⟩ = some u := by
  obtain ⟨a, cap, rfl, h1, h2, h3⟩ := h
  rcases h3 with rfl | ⟨b, off, rfl, h4, h5⟩
  · simp at h0
  · exact ⟨b, off, cap, rfl, h1, h2, h4, h5⟩

set_option maxHeartbeats 1000000 in
theorem place_walk {w : World} {v : Value} {xs : List O} (h : Ops w v xs) (n : ByteArray) (s : Int) :
    Calls Tryz.prog 87 #[v, .string n, .int .i64 s] w fun e w' => e = .returned (.int .i64 (placeB xs (bl n) s)) ∧ Below w.heap.size w w' := by
  by_cases h0 : 0 < xs.length
  · obtain ⟨b, off, c, rfl, h1, h2, h3, hc⟩ := h.shape h0
    clear h
    have eg : ∀ args w, (callFunc 131 args).run Tryz.prog w = .ok (.enter 131 args) w := enters_of Tryz.func131 (by kernel_rfl) rfl
    have hcon := AnyQ.slices_IndexFunc Tryz.indexOp 3 Tryz.isAgg33 Tryz.sizeOf33 oCells oCells_len (fun y => isAt (bl n) s y) 131 #[.pointer (some ⟨w.heap.size, 0, none⟩), .pointer (some ⟨w.heap.size + 1, 0, none⟩)] eg b off xs.length c xs
      ((w.alloc (.cells #[.string n] 9)).alloc (.cells #[.int .i64 s] 3))
      (fun W y hb => by
        have c1 : W.cell? ⟨w.heap.size, 0, none⟩ = some (.string n) := (hb.cell (p := ⟨w.heap.size, 0, none⟩) (by simp; omega)).trans (by simp)
        have c2 : W.cell? ⟨w.heap.size + 1, 0, none⟩ = some (.int .i64 s) := (hb.cell (p := ⟨w.heap.size + 1, 0, none⟩) (by simp)).trans (by simp)
        refine (pred_walk n s w.heap.size (w.heap.size + 1) (by omega) W c1 c2 (by have := hb.size; simp at this; omega) (by have := hb.size; simp at this; omega) y).mono ?_
        rintro e w' ⟨rfl, hb'⟩
        exact ⟨rfl, hb.trans (hb'.mono hb.size)⟩)
      (Nat.le_refl _) (by unfold maxLen at h2; omega) (by simp; omega)
      (fun j hj i u hi => by
        have hg : xs[j]? = some xs[j]! := by rw [List.getElem!_eq_getElem?_getD, List.getElem?_eq_getElem hj]; rfl
        have := hc j _ hg i u hi
        rw [← Nat.add_assoc] at this
        exact Lib.cell?_alloc_some _ (Lib.cell?_alloc_some _ this))
    rw [List.take_length] at hcon
    change Calls Tryz.prog 130 _ _ (fun e w' => e = .returned (.int .i64 (placeB xs (bl n) s)) ∧ _) at hcon
    clear hc
    generalize placeB xs (bl n) s = r at hcon ⊢
    have HC := Lib.hid hcon; clear hcon
    go_enter Tryz.func87, Tryz.ntmps87
    (go_wp2_with fail; go_fit (HC.out); rintro e w' ⟨rfl, hb'⟩)
    go_wp2
    go_ret
    exact ⟨rfl, Below.trans ((bel1' _ _).trans ((bel1' _ _).mono (by simp))) (hb'.mono (by simp; omega))⟩
  · obtain rfl : xs = [] := List.length_eq_zero_iff.1 (by omega)
    obtain ⟨a, c, rfl, _⟩ := h.form
    have hE : placeB [] (bl n) s = -1 := rfl
    rw [hE]
    have HC := Lib.hid (fun f w => index_none a c f w)
    clear h hE
    simp only [List.length_nil]
    go_enter Tryz.func87, Tryz.ntmps87
    (go_wp2_with fail; go_fit (HC.out _ _); rintro e w' ⟨rfl, rfl⟩)
    go_wp2
    go_ret
    exact ⟨rfl, Below.trans (bel1' _ _) ((bel1' _ _).mono (by simp))⟩
end Go.Proofs.YtljgkfdnmikpfaaGreatDoor
/- A region that draws its order, walked once in the text's order, in a class of worlds. Nothing here speaks of one program. -/
namespace Go
section
variable {P : Program} {ops : Array Oper} {C : World → Prop}
theorem quiet_of {o : Oper} {a : Act} {K : Act → Prop} (h : ∃ v, (∀ w, C w → o.quietAt P a C w v) ∧ K (a.put o.dst v)) : o.quiet P a C K := h
theorem wp_region_class (C : World → Prop) {id : Nat} {Q : Exit → Act → World → Prop} {a : Act} {w : World} {l : List Oper} (hm : P.follows .mixedOrders = true) (hB : Region.lexB .any l.toArray = true) (hC : C w.drew)
    (h : wpQuiet P l.toArray C (fun a' => ∀ w', C w' → Q .normal a' w') l a) : (Code.region id l.toArray true).wp P Q a w :=
  wp_region_quiet hm hB hC (by simpa using h)
end
end Go
/- Operators: Good. -/
namespace Go.Proofs.YtljgkfdnmikpfaaGreatDoor
open Go.Shelf Go.RowKit

def okB (pre : List O) (o : O) : Bool := mayB (bl o.n) (bl o.k) o.l && decide (placeB pre (bl o.n) (sideB (bl o.k)) < 0)
def goodB (xs : List O) : Bool := decide (xs.length ≤ 128) && (List.range xs.length).all fun k => okB (xs.take k) xs[k]!
theorem good_no {xs : List O} {k : Nat} {x : O} (hx : xs[k]? = some x) (h : okB (xs.take k) x = false) : goodB xs = false := by
  have hk := (List.getElem?_eq_some_iff.1 hx).1
  have e : xs[k]! = x := by rw [List.getElem!_eq_getElem?_getD, hx]; rfl
  unfold goodB
  rw [Bool.and_eq_false_iff]
  right
  rw [List.all_eq_false]
  exact ⟨k, List.mem_range.2 hk, by rw [e, h]; simp⟩
theorem good_yes {xs : List O} (hl : xs.length ≤ 128) (h : ∀ (k : Nat) (x : O), xs[k]? = some x → okB (xs.take k) x = true) : goodB xs = true := by
  unfold goodB
  rw [Bool.and_eq_true]
  refine ⟨by simpa using hl, List.all_eq_true.2 fun k hk => ?_⟩
  have hk := List.mem_range.1 hk
  have hg : xs[k]? = some xs[k]! := by rw [List.getElem!_eq_getElem?_getD, List.getElem?_eq_getElem hk]; rfl
  exact h k _ hg
theorem Ops.take {w : World} {a : Option Addr} {n c : Nat} {xs : List O} (h : Ops w (.slice a n c) xs) (k : Nat) (hk : k ≤ xs.length) : Ops w (.slice a k c) (xs.take k) := by
  obtain ⟨a', cap', e, h1, h2, h3⟩ := h
  cases e
  refine ⟨a, c, by rw [List.length_take, Nat.min_eq_left hk], by rw [List.length_take]; omega, h2, ?_⟩
  rcases h3 with rfl | ⟨b, off, rfl, hb, hc⟩
  · exact Or.inl (by simp)
  · refine Or.inr ⟨b, off, rfl, hb, fun i x hx j u hu => hc i x ?_ j u hu⟩
    rw [List.getElem?_take] at hx
    split at hx
    · exact hx
    · cases hx
theorem Ops.cells {w : World} {a : Option Addr} {n cap : Nat} {l : List O} (h : Ops w (.slice a n cap) l) {k : Nat} {x : O} (hx : l[k]? = some x) :
    ∃ b off, a = some ⟨b, off, none⟩ ∧ b < w.heap.size ∧ w.cell? ⟨b, off + k * 3, none⟩ = some (.string x.n) ∧ w.cell? ⟨b, off + k * 3 + 1, none⟩ = some (.string x.k) ∧ w.cell? ⟨b, off + k * 3 + 2, none⟩ = some (.int .i64 x.l) := by
  obtain ⟨a', cap', e, h1, h2, h3⟩ := h
  cases e
  rcases h3 with rfl | ⟨b, off, rfl, hb, hc⟩
  · simp at hx
  · exact ⟨b, off, rfl, hb, hc k x hx 0 _ rfl, by rw [Nat.add_assoc]; exact hc k x hx 1 _ rfl, by rw [Nat.add_assoc]; exact hc k x hx 2 _ rfl⟩

set_option maxHeartbeats 400000 in
theorem good_walk {w : World} {v : Value} {xs : List O} (h : Ops w v xs) :
    Calls Tryz.prog 54 #[.agg #[v]] w fun e w' => e = .returned (.bool (goodB xs)) ∧ Below w.heap.size w w' := by
  obtain ⟨a, c, rfl, hl1, hl2⟩ := h.form
  have H := Lib.hid h
  clear h
  unfold maxLen at hl2
  by_cases hbig : 128 < xs.length
  · have hE : goodB xs = false := by
      unfold goodB
      rw [Bool.and_eq_false_iff]
      left
      simpa using hbig
    rw [hE]; clear hE
    have ht : decide ((xs.length : Int) > 128) = true := by simp; omega
    go_enter Tryz.func54, Tryz.ntmps54
    go_wp2
    go_ret
    exact ⟨rfl, bel1' _ _⟩
  have hbig' : xs.length ≤ 128 := by omega
  obtain ⟨r, hr⟩ : ∃ r, goodB xs = r := ⟨_, rfl⟩
  have HR := Lib.hid hr
  rw [hr]
  clear hr
  go_enter Tryz.func54, Tryz.ntmps54
  go_wp2_with fail
  go_loopw [12] (fun i wr => ∃ k : Nat, k ≤ xs.length ∧ i = .int .i64 k ∧ Hid ((∀ (j : Nat) (x : O), j < k → xs[j]? = some x → okB (xs.take j) x = true) ∧ wr.cell? ⟨w.heap.size, 0, none⟩ = some (.slice a xs.length c) ∧ w.heap.size < wr.heap.size ∧ Below w.heap.size w wr)) (fun i _ => xs.length - (intOf i).toNat)
  case atStart => exact ⟨0, by omega, rfl, Lib.hid ⟨fun j x hj => by omega, by simp, by simp, bel1' _ _⟩⟩
  case round =>
    obtain ⟨k, hk, rfl, HB⟩ := hrel
    by_cases hlt : k < xs.length
    · obtain ⟨x, hx⟩ : ∃ x, xs[k]? = some x := ⟨_, List.getElem?_eq_getElem hlt⟩
      obtain ⟨b, off, rfl, hb, d0, d1, d2⟩ := (H.out.ext HB.out.2.2.2).cells hx
      have HT := Lib.hid ((H.out.ext HB.out.2.2.2).take k hk)
      have hkk : (k : Int) < xs.length := by omega
      have HX := Lib.hid hx
      have HO : Hid (okB (xs.take k) x = (mayB (bl x.n) (bl x.k) x.l && decide (placeB (xs.take k) (bl x.n) (sideB (bl x.k)) < 0))) := Lib.hid rfl
      have hpl := fun (wq : World) (hq : Below wr.heap.size wr wq) => place_walk (HT.out.ext hq) x.n (sideB (bl x.k))
      have hmay := may_walk x.n x.k x.l
      have hside := side_walk x.k
      obtain ⟨q, hq⟩ : ∃ q, mayB (bl x.n) (bl x.k) x.l = q := ⟨_, rfl⟩
      obtain ⟨s, hs⟩ : ∃ s, sideB (bl x.k) = s := ⟨_, rfl⟩
      rw [hq] at HO hmay
      rw [hs] at HO hside hpl
      obtain ⟨z, hz⟩ : ∃ z, placeB (xs.take k) (bl x.n) s = z := ⟨_, rfl⟩
      rw [hz] at HO hpl
      have HPL := Lib.hid hpl; have HM := Lib.hid hmay; have HS := Lib.hid hside
      clear hpl hmay hside hq hs hz hx
      rcases x with ⟨yn, yk, yl⟩
      have hc0 := HB.out.2.1
      have hlt0 := HB.out.2.2.1
      have hne : ¬ w.heap.size = wr.heap.size := by omega
      go_wp2_with fail
      obtain ⟨w5, hw5⟩ : ∃ w5, w5 = wr.alloc (.cells #[.string yn, .string yk, .int .i64 yl] 33) := ⟨_, rfl⟩
      rw [← hw5]
      have e0 : w5.cell? ⟨w.heap.size, 0, none⟩ = some (.slice (some ⟨b, off, none⟩) xs.length c) := by rw [hw5]; exact Lib.cell?_alloc_some _ hc0
      have e1 : w5.cell? ⟨wr.heap.size, 0, none⟩ = some (.string yn) := by rw [hw5]; simp
      have e2 : w5.cell? ⟨wr.heap.size, 1, none⟩ = some (.string yk) := by rw [hw5]; simp
      have e3 : w5.cell? ⟨wr.heap.size, 2, none⟩ = some (.int .i64 yl) := by rw [hw5]; simp
      have HB5 : Hid (Below wr.heap.size wr w5) := Lib.hid (by rw [hw5]; exact bel1' _ _)
      have hlt5 : wr.heap.size < w5.heap.size := by rw [hw5]; simp
      clear hc0 d0 d1 d2 hw5
      have hkc : k ≤ c := by omega
      cases q
      · (refine wp_region_class (fun w' => (w'.cell? ⟨w.heap.size, 0, none⟩ = some (.slice (some ⟨b, off, none⟩) xs.length c) ∧ w'.cell? ⟨wr.heap.size, 0, none⟩ = some (.string yn) ∧ w'.cell? ⟨wr.heap.size, 1, none⟩ = some (.string yk) ∧ w'.cell? ⟨wr.heap.size, 2, none⟩ = some (.int .i64 yl)) ∧ Below w5.heap.size w5 w') (by kernel_rfl) (by kernel_rfl) (⟨⟨e0, e1, e2, e3⟩, (Below.refl _ _).drew⟩) ?_; (repeat (first | go_big_quiet_skip | (go_big_quiet_want; refine quiet_of ?_; apply Exists.intro; refine ⟨fun wq hq => ?_, ?_⟩; (focus ((try dsimp only at hq); go_simp; (first | done | with_reducible rfl | ((go_at_call 86; refine (HM.out wq).mono ?_; rintro e w6 ⟨rfl, h6⟩; exact ⟨rfl, ⟨cell_later h6 hq.1.1, cell_later h6 hq.1.2.1, cell_later h6 hq.1.2.2.1, cell_later h6 hq.1.2.2.2⟩, Below.trans hq.2 (h6.mono hq.2.size)⟩)) | fail))); try simp only [Act.put, List.setIfInBounds_toArray, List.set_cons_zero, List.set_cons_succ]; go_big_quiet_on) | fail)); refine wpQuiet_nil ?_; intro wz hz)
        go_wp2
        go_ret
        exact ⟨ret_bool (by rw [← HR.out]; exact (good_no HX.out (by rw [HO.out]; rfl)).symm), Ext.trans' HB.out.2.2.2 (HB5.out.trans (hz.2.mono HB5.out.size))⟩
      · by_cases hz0 : z < 0
        · have hzf : decide (z ≥ 0) = false := by simp; omega
          (refine wp_region_class (fun w' => (w'.cell? ⟨w.heap.size, 0, none⟩ = some (.slice (some ⟨b, off, none⟩) xs.length c) ∧ w'.cell? ⟨wr.heap.size, 0, none⟩ = some (.string yn) ∧ w'.cell? ⟨wr.heap.size, 1, none⟩ = some (.string yk) ∧ w'.cell? ⟨wr.heap.size, 2, none⟩ = some (.int .i64 yl)) ∧ Below w5.heap.size w5 w') (by kernel_rfl) (by kernel_rfl) (⟨⟨e0, e1, e2, e3⟩, (Below.refl _ _).drew⟩) ?_; (repeat (first | go_big_quiet_skip | (go_big_quiet_want; refine quiet_of ?_; apply Exists.intro; refine ⟨fun wq hq => ?_, ?_⟩; (focus ((try dsimp only at hq); go_simp; (first | done | with_reducible rfl | ((first | (go_at_call 86; refine (HM.out wq).mono ?_; rintro e w6 ⟨rfl, h6⟩; exact ⟨rfl, ⟨cell_later h6 hq.1.1, cell_later h6 hq.1.2.1, cell_later h6 hq.1.2.2.1, cell_later h6 hq.1.2.2.2⟩, Below.trans hq.2 (h6.mono hq.2.size)⟩) | (go_at_call 88; refine (HS.out wq).mono ?_; rintro e w6 ⟨rfl, rfl⟩; exact ⟨rfl, hq⟩) | (go_at_call 87; refine (HPL.out wq (HB5.out.trans (hq.2.mono HB5.out.size))).mono ?_; rintro e w6 ⟨rfl, h6⟩; exact ⟨rfl, ⟨cell_later h6 hq.1.1, cell_later h6 hq.1.2.1, cell_later h6 hq.1.2.2.1, cell_later h6 hq.1.2.2.2⟩, Below.trans hq.2 (h6.mono hq.2.size)⟩) | fail)) | fail))); try simp only [Act.put, List.setIfInBounds_toArray, List.set_cons_zero, List.set_cons_succ]; go_big_quiet_on) | fail)); refine wpQuiet_nil ?_; intro wz hz)
          go_wp2
          go_roundw
          case rel => exact ⟨k + 1, by omega, by go_num, Lib.hid ⟨fun j y hj hy => by
            rcases Nat.lt_succ_iff_lt_or_eq.1 hj with h | rfl
            · exact HB.out.1 j y h hy
            · have := HX.out
              rw [hy] at this
              cases this
              rw [HO.out]
              simp [hz0], hz.1.1, Nat.lt_of_lt_of_le (by omega) hz.2.size, Ext.trans' HB.out.2.2.2 (HB5.out.trans (hz.2.mono HB5.out.size))⟩⟩
          case measure => simp [intOf]; omega
        · have hzt : decide (z ≥ 0) = true := by simp; omega
          (refine wp_region_class (fun w' => (w'.cell? ⟨w.heap.size, 0, none⟩ = some (.slice (some ⟨b, off, none⟩) xs.length c) ∧ w'.cell? ⟨wr.heap.size, 0, none⟩ = some (.string yn) ∧ w'.cell? ⟨wr.heap.size, 1, none⟩ = some (.string yk) ∧ w'.cell? ⟨wr.heap.size, 2, none⟩ = some (.int .i64 yl)) ∧ Below w5.heap.size w5 w') (by kernel_rfl) (by kernel_rfl) (⟨⟨e0, e1, e2, e3⟩, (Below.refl _ _).drew⟩) ?_; (repeat (first | go_big_quiet_skip | (go_big_quiet_want; refine quiet_of ?_; apply Exists.intro; refine ⟨fun wq hq => ?_, ?_⟩; (focus ((try dsimp only at hq); go_simp; (first | done | with_reducible rfl | ((first | (go_at_call 86; refine (HM.out wq).mono ?_; rintro e w6 ⟨rfl, h6⟩; exact ⟨rfl, ⟨cell_later h6 hq.1.1, cell_later h6 hq.1.2.1, cell_later h6 hq.1.2.2.1, cell_later h6 hq.1.2.2.2⟩, Below.trans hq.2 (h6.mono hq.2.size)⟩) | (go_at_call 88; refine (HS.out wq).mono ?_; rintro e w6 ⟨rfl, rfl⟩; exact ⟨rfl, hq⟩) | (go_at_call 87; refine (HPL.out wq (HB5.out.trans (hq.2.mono HB5.out.size))).mono ?_; rintro e w6 ⟨rfl, h6⟩; exact ⟨rfl, ⟨cell_later h6 hq.1.1, cell_later h6 hq.1.2.1, cell_later h6 hq.1.2.2.1, cell_later h6 hq.1.2.2.2⟩, Below.trans hq.2 (h6.mono hq.2.size)⟩) | fail)) | fail))); try simp only [Act.put, List.setIfInBounds_toArray, List.set_cons_zero, List.set_cons_succ]; go_big_quiet_on) | fail)); refine wpQuiet_nil ?_; intro wz hz)
          go_wp2
          go_ret
          exact ⟨ret_bool (by rw [← HR.out]; exact (good_no HX.out (by rw [HO.out]; simp [hz0])).symm), Ext.trans' HB.out.2.2.2 (HB5.out.trans (hz.2.mono HB5.out.size))⟩
    · have hkn : k = xs.length := by omega
      have hE : goodB xs = true := good_yes hbig' (fun j x hx => HB.out.1 j x (by rw [hkn]; exact (List.getElem?_eq_some_iff.1 hx).1) hx)
      obtain rfl : r = true := by rw [← HR.out, hE]
      clear hE
      have hkk : ¬ (k : Int) < xs.length := by omega
      go_wp2
      go_ret
      exact ⟨rfl, HB.out.2.2.2⟩
end Go.Proofs.YtljgkfdnmikpfaaGreatDoor
/- Operators: the one of a name and side: Pre, In. -/
namespace Go.Proofs.YtljgkfdnmikpfaaGreatDoor
open Go.Shelf Go.RowKit

theorem place_cases (xs : List O) (n : List UInt8) (s : Int) :
    (placeB xs n s = -1 ∧ ∀ (j : Nat) (y : O), xs[j]? = some y → isAt n s y = false) ∨
    (∃ (k : Nat) (x : O), placeB xs n s = k ∧ xs[k]? = some x ∧ isAt n s x = true ∧ ∀ (j : Nat) (y : O), j < k → xs[j]? = some y → isAt n s y = false) := by
  suffices h : ∀ (xs : List O) (i : Nat), (Lib.idxByFrom (fun _ y => isAt n s y) default xs i = -1 ∧ ∀ (j : Nat) (y : O), xs[j]? = some y → isAt n s y = false) ∨
      (∃ (k : Nat) (x : O), Lib.idxByFrom (fun _ y => isAt n s y) default xs i = ((i + k : Nat) : Int) ∧ xs[k]? = some x ∧ isAt n s x = true ∧ ∀ (j : Nat) (y : O), j < k → xs[j]? = some y → isAt n s y = false) by
    rcases h xs 0 with h | ⟨k, x, h1, h2⟩
    · exact Or.inl h
    · exact Or.inr ⟨k, x, by rw [Nat.zero_add] at h1; exact h1, h2⟩
  intro xs
  induction xs with
  | nil => intro i; exact Or.inl ⟨rfl, fun j y h => by simp at h⟩
  | cons a r ih =>
    intro i
    cases ha : isAt n s a
    · rcases ih (i + 1) with ⟨h1, h2⟩ | ⟨k, x, h1, h2, h3, h4⟩
      · refine Or.inl ⟨by simp only [Lib.idxByFrom, ha]; exact h1, fun j y hy => ?_⟩
        cases j with
        | zero => simp at hy; rw [← hy]; exact ha
        | succ j => exact h2 j y (by simpa using hy)
      · refine Or.inr ⟨k + 1, x, by simp only [Lib.idxByFrom, ha]; rw [show i + (k + 1) = i + 1 + k by omega]; exact h1, by simpa using h2, h3, fun j y hj hy => ?_⟩
        cases j with
        | zero => simp at hy; rw [← hy]; exact ha
        | succ j => exact h4 j y (by omega) (by simpa using hy)
    · exact Or.inr ⟨0, a, by simp [Lib.idxByFrom, ha], rfl, ha, fun j y hj => by omega⟩

/-- The one of that name and side, of a good table. -/
def oneB (xs : List O) (n : List UInt8) (s : Int) : O × Bool :=
  if decide (placeB xs n s < 0) || !goodB xs then (default, false) else (xs[(placeB xs n s).toNat]!, true)

set_option maxHeartbeats 1000000 in
theorem one_walk {w : World} {v : Value} {xs : List O} (h : Ops w v xs) (n : ByteArray) (s : Int) :
    Calls Tryz.prog 68 #[.agg #[v], .string n, .int .i64 s] w fun e w' => e = .returned (.tuple #[oVal (oneB xs (bl n) s).1, .bool (oneB xs (bl n) s).2]) ∧ Below w.heap.size w w' := by
  obtain ⟨a, c, rfl, hl1, hl2⟩ := h.form
  unfold maxLen at hl2
  have H := Lib.hid h
  have HP := Lib.hid (fun (wq : World) (hq : Below w.heap.size w wq) => place_walk (h.ext hq) n s)
  have HG := Lib.hid (fun (wq : World) (hq : Below w.heap.size w wq) => good_walk (h.ext hq))
  clear h
  rcases place_cases xs (bl n) s with ⟨hm, _⟩ | ⟨k, x, hm, hx, _, _⟩
  · have hE : oneB xs (bl n) s = (default, false) := by unfold oneB; rw [hm]; rfl
    rw [hE]; clear hE
    rw [hm] at HP
    clear hm
    go_enter Tryz.func68, Tryz.ntmps68
    (go_wp2_with fail; go_fit (HP.out _ ((bel1' _ _).trans ((bel1' _ _).mono (by simp)))); rintro e w1 ⟨rfl, hb⟩)
    have c0 : w1.cell? ⟨w.heap.size, 0, none⟩ = some (.slice a xs.length c) := cell_later hb (by simp)
    have c1 : w1.cell? ⟨w.heap.size + 1, 0, none⟩ = some (.string ⟨#[]⟩) := cell_later hb (by simp)
    have c2 : w1.cell? ⟨w.heap.size + 1, 1, none⟩ = some (.string ⟨#[]⟩) := cell_later hb (by simp)
    have c3 : w1.cell? ⟨w.heap.size + 1, 2, none⟩ = some (.int .i64 0) := cell_later hb (by simp)
    have f1 : ∀ j, w1.frozen? ⟨w.heap.size + 1, j, none⟩ = false := fun j => (hb.frozen (p := ⟨w.heap.size + 1, j, none⟩) (by simp)).trans (by simp)
    have hbw : Below w.heap.size w w1 := Below.trans ((bel1' _ _).trans ((bel1' _ _).mono (by simp))) (hb.mono (by simp; omega))
    have HB := Lib.hid hb; clear hb
    have HW := Lib.hid hbw; clear hbw
    go_wp2
    (try simp only [Exit.inBlock, Exit.then])
    refine bodyPost_ret (v := .tuple #[.agg #[.string ⟨#[]⟩, .string ⟨#[]⟩, .int .i64 0], .bool false]) (by rw [results_cell_tmp rfl]; go_simp) rfl ⟨rfl, ?_⟩
    repeat' (first | exact HW.out | refine Below.setCell ?_ (by simp) _)
  · have hk := (List.getElem?_eq_some_iff.1 hx).1
    obtain ⟨b, off, rfl, hbs, d0, d1, d2⟩ := Ops.cells H.out hx
    have hE : oneB xs (bl n) s = if goodB xs then (x, true) else (default, false) := by
      unfold oneB
      rw [hm]
      have h1 : ¬ ((k : Int) < 0) := by omega
      have h2 : xs[(k : Int).toNat]! = x := by rw [Int.toNat_natCast, List.getElem!_eq_getElem?_getD, hx]; rfl
      rw [h2]
      simp only [h1, decide_false, Bool.false_or]
      cases goodB xs <;> rfl
    rw [hE]; clear hE
    rw [hm] at HP
    rcases x with ⟨yn, yk, yl⟩
    simp only at d0 d1 d2
    obtain ⟨g, hg⟩ : ∃ g, goodB xs = g := ⟨_, rfl⟩
    rw [hg] at HG ⊢
    have HD := Lib.hid (And.intro d0 (And.intro d1 d2))
    clear hg hm hx d0 d1 d2
    have hkk : (k : Int) < xs.length := by omega
    have hk0 : ((k : Int) < 0) = False := by simp
    go_enter Tryz.func68, Tryz.ntmps68
    (go_wp2_with fail; go_fit (HP.out _ ((bel1' _ _).trans ((bel1' _ _).mono (by simp)))); rintro e w1 ⟨rfl, hb⟩)
    have c0 : w1.cell? ⟨w.heap.size, 0, none⟩ = some (.slice (some ⟨b, off, none⟩) xs.length c) := cell_later hb (by simp)
    have c1 : w1.cell? ⟨w.heap.size + 1, 0, none⟩ = some (.string ⟨#[]⟩) := cell_later hb (by simp)
    have c2 : w1.cell? ⟨w.heap.size + 1, 1, none⟩ = some (.string ⟨#[]⟩) := cell_later hb (by simp)
    have c3 : w1.cell? ⟨w.heap.size + 1, 2, none⟩ = some (.int .i64 0) := cell_later hb (by simp)
    have f1 : ∀ j, w1.frozen? ⟨w.heap.size + 1, j, none⟩ = false := fun j => (hb.frozen (p := ⟨w.heap.size + 1, j, none⟩) (by simp)).trans (by simp)
    have hbw : Below w.heap.size w w1 := Below.trans ((bel1' _ _).trans ((bel1' _ _).mono (by simp))) (hb.mono (by simp; omega))
    have HB := Lib.hid hb; clear hb
    have HW := Lib.hid hbw; clear hbw
    (go_wp2_with fail; go_fit (HG.out w1 HW.out); rintro e w2 ⟨rfl, hb2⟩)
    have e0 : w2.cell? ⟨w.heap.size, 0, none⟩ = some (.slice (some ⟨b, off, none⟩) xs.length c) := cell_later hb2 c0
    have e1 : w2.cell? ⟨w.heap.size + 1, 0, none⟩ = some (.string ⟨#[]⟩) := cell_later hb2 c1
    have e2 : w2.cell? ⟨w.heap.size + 1, 1, none⟩ = some (.string ⟨#[]⟩) := cell_later hb2 c2
    have e3 : w2.cell? ⟨w.heap.size + 1, 2, none⟩ = some (.int .i64 0) := cell_later hb2 c3
    have f2 : ∀ j, w2.frozen? ⟨w.heap.size + 1, j, none⟩ = false := fun j => (hb2.frozen (p := ⟨w.heap.size + 1, j, none⟩) (by have := HB.out.size; simp at this; simp; omega)).trans (f1 j)
    have HW2 := Lib.hid (Ext.trans' HW.out hb2)
    clear hb2 c0 c1 c2 c3 f1
    cases g
    · go_wp2
      (try simp only [Exit.inBlock, Exit.then])
      refine bodyPost_ret (v := .tuple #[.agg #[.string ⟨#[]⟩, .string ⟨#[]⟩, .int .i64 0], .bool false]) (by rw [results_cell_tmp rfl]; go_simp) rfl ⟨rfl, ?_⟩
      repeat' (first | exact HW2.out | refine Below.setCell ?_ (by simp) _)
    · have d0 : w2.cell? ⟨b, off + k * 3, none⟩ = some (.string yn) := cell_later HW2.out HD.out.1
      have d1 : w2.cell? ⟨b, off + k * 3 + 1, none⟩ = some (.string yk) := cell_later HW2.out HD.out.2.1
      have d2 : w2.cell? ⟨b, off + k * 3 + 2, none⟩ = some (.int .i64 yl) := cell_later HW2.out HD.out.2.2
      go_wp2
      (try simp only [Exit.inBlock, Exit.then])
      refine bodyPost_ret (v := .tuple #[.agg #[.string yn, .string yk, .int .i64 yl], .bool true]) (by rw [results_cell_tmp rfl]; go_simp) rfl ⟨rfl, ?_⟩
      repeat' (first | exact HW2.out | refine Below.setCell ?_ (by simp) _)

theorem pre_walk {w : World} {v : Value} {xs : List O} (h : Ops w v xs) (n : ByteArray) :
    Calls Tryz.prog 38 #[.agg #[v], .string n] w fun e w' => e = .returned (.tuple #[oVal (oneB xs (bl n) 1).1, .bool (oneB xs (bl n) 1).2]) ∧ Below w.heap.size w w' := by
  have HO := Lib.hid (fun (wq : World) (hq : Below w.heap.size w wq) => one_walk (h.ext hq) n 1)
  clear h
  generalize oneB xs (bl n) 1 = r at HO ⊢
  obtain ⟨⟨yn, yk, yl⟩, g⟩ := r
  go_enter Tryz.func38, Tryz.ntmps38
  (go_wp2_with fail; go_fit (HO.out _ ((bel1' _ _).trans ((bel1' _ _).mono (by simp)))); rintro e w1 ⟨rfl, hb⟩)
  have c1 : w1.cell? ⟨w.heap.size + 1, 0, none⟩ = some (.string ⟨#[]⟩) := cell_later hb (by simp)
  have c2 : w1.cell? ⟨w.heap.size + 1, 1, none⟩ = some (.string ⟨#[]⟩) := cell_later hb (by simp)
  have c3 : w1.cell? ⟨w.heap.size + 1, 2, none⟩ = some (.int .i64 0) := cell_later hb (by simp)
  have f1 : ∀ j, w1.frozen? ⟨w.heap.size + 1, j, none⟩ = false := fun j => (hb.frozen (p := ⟨w.heap.size + 1, j, none⟩) (by simp)).trans (by simp)
  have HW : Hid (Below w.heap.size w w1) := Lib.hid (Below.trans ((bel1' _ _).trans ((bel1' _ _).mono (by simp))) (hb.mono (by simp; omega)))
  clear hb
  go_wp2
  (try simp only [Exit.inBlock, Exit.then])
  refine bodyPost_ret (v := .tuple #[.agg #[.string yn, .string yk, .int .i64 yl], .bool g]) (by rw [results_cell_tmp rfl]; go_simp) rfl ⟨rfl, ?_⟩
  repeat' (first | exact HW.out | refine Below.setCell ?_ (by simp) _)
theorem in_walk {w : World} {v : Value} {xs : List O} (h : Ops w v xs) (n : ByteArray) :
    Calls Tryz.prog 37 #[.agg #[v], .string n] w fun e w' => e = .returned (.tuple #[oVal (oneB xs (bl n) 2).1, .bool (oneB xs (bl n) 2).2]) ∧ Below w.heap.size w w' := by
  have HO := Lib.hid (fun (wq : World) (hq : Below w.heap.size w wq) => one_walk (h.ext hq) n 2)
  clear h
  generalize oneB xs (bl n) 2 = r at HO ⊢
  obtain ⟨⟨yn, yk, yl⟩, g⟩ := r
  go_enter Tryz.func37, Tryz.ntmps37
  (go_wp2_with fail; go_fit (HO.out _ ((bel1' _ _).trans ((bel1' _ _).mono (by simp)))); rintro e w1 ⟨rfl, hb⟩)
  have c1 : w1.cell? ⟨w.heap.size + 1, 0, none⟩ = some (.string ⟨#[]⟩) := cell_later hb (by simp)
  have c2 : w1.cell? ⟨w.heap.size + 1, 1, none⟩ = some (.string ⟨#[]⟩) := cell_later hb (by simp)
  have c3 : w1.cell? ⟨w.heap.size + 1, 2, none⟩ = some (.int .i64 0) := cell_later hb (by simp)
  have f1 : ∀ j, w1.frozen? ⟨w.heap.size + 1, j, none⟩ = false := fun j => (hb.frozen (p := ⟨w.heap.size + 1, j, none⟩) (by simp)).trans (by simp)
  have HW : Hid (Below w.heap.size w w1) := Lib.hid (Below.trans ((bel1' _ _).trans ((bel1' _ _).mono (by simp))) (hb.mono (by simp; omega)))
  clear hb
  go_wp2
  (try simp only [Exit.inBlock, Exit.then])
  refine bodyPost_ret (v := .tuple #[.agg #[.string yn, .string yk, .int .i64 yl], .bool g]) (by rw [results_cell_tmp rfl]; go_simp) rfl ⟨rfl, ?_⟩
  repeat' (first | exact HW.out | refine Below.setCell ?_ (by simp) _)
end Go.Proofs.YtljgkfdnmikpfaaGreatDoor
/- append of whatever slice to a row of the call's own, of elements of however many cells: also of nothing. Nothing here speaks of one program. -/
namespace Go.Proofs.YtljgkfdnmikpfaaGreatDoor
open Go.RowKit

theorem row_formk {w : World} {b e sz n : Nat} {v : Value} {xs : List Value} (h : w.ownsRow b e sz v n xs) : ∃ a c, v = .slice a n c ∧ n ≤ c := by
  rcases h.2 with ⟨rfl, h0⟩ | ⟨g, cap, cur, rfl, _, _, h1, _⟩
  · exact ⟨none, 0, by rw [h0], by omega⟩
  · exact ⟨_, cap, rfl, h1⟩
section
variable {P : Program}
theorem run_append_k (w : World) (base : Nat) (t ty e : TypeId) (i : TypeInfo) (z : Value) (size bytes : Nat) (ht : P.underlying t = some (.slice e)) (hi : P.info? e = some i) (hz : i.zero = some z) (hsize : i.size = size) (hpos : 0 < size) (hby : i.bytes = bytes) (hzs : z.cells.size = size)
    (v : Value) (n : Nat) (xs : List Value) (hown : w.ownsRow base e size v n xs) (ao : Option Addr) (m c : Nat) (news : List Value) (hl : news.length = m * size)
    (hsrc : m = 0 ∨ ∃ ad, ao = some ad ∧ ∀ j u, news[j]? = some u → w.cell? (ad.add j) = some u) (h1 : ∀ u ∈ news, u.oneCell' = true)
    (h63 : n + m ≤ maxLen) (hbytes : (n + m) * bytes ≤ 140737488355328) (hbase : base ≤ w.heap.size) :
    ∃ v' w', (Builtin.append_ #[t, t] ty #[v, .slice ao m c]).run P w = .ok v' w' ∧ w'.ownsRow base e size v' (n + m) (xs ++ news) ∧ w.grownBy w' v.ownBlock ∧ (v'.ownBlock = v.ownBlock ∨ v'.ownBlock = some w.heap.size) := by
  by_cases hm : m = 0
  · subst hm
    obtain rfl : news = [] := List.length_eq_zero_iff.1 (by simpa using hl)
    obtain ⟨a, cc, rfl, hle⟩ := row_formk hown
    have hs : Src P i.size t (.slice ao 0 c) 0 [] w := by
      refine ⟨Or.inl ⟨e, ht⟩, fun w' => rfl, ?_, ?_, by simp, by simp⟩
      · cases ao with
        | none => rfl
        | some ad => exact run_firstCells_some w i.size 0 ad 0 c [] (by simp) (by simp)
      · cases ao with
        | none => rfl
        | some ad => exact run_firstCells_some w.drew i.size 0 ad 0 c [] (by simp) (by simp)
    exact ⟨_, w, run_append_nothing w t t ty e i ht hi a n cc hle _ hs, by simpa using hown, ⟨rfl, rfl, rfl, Nat.le_refl _, fun _ _ _ => rfl⟩, Or.inl rfl⟩
  · rcases hsrc with h0 | ⟨ad, rfl, hc⟩
    · exact absurd h0 hm
    obtain ⟨v', w', r1, r2, r3, _, r5⟩ := run_append_own_at (P := P) w base t ty e i z size bytes ht hi hz hsize hby hzs hpos v n xs hown ad m c news (by omega) hc h1 h63 hbytes hbase
    exact ⟨v', w', r1, r2, r3, r5⟩
theorem wp_append_k {w : World} {o : Oper} {a : Act} {K : Act → World → Prop} {Q : Exit → Act → World → Prop} (s x : Operand) (t : TypeId)
    (ho : o.op = .call { callee := .builtin .append, args := #[s, x], argTypes := #[t, t] })
    (base : Nat) (e : TypeId) (i : TypeInfo) (z : Value) (size bytes : Nat) (ht : P.underlying t = some (.slice e)) (hi : P.info? e = some i) (hz : i.zero = some z) (hsize : i.size = size) (hpos : 0 < size) (hby : i.bytes = bytes) (hzs : z.cells.size = size)
    (v : Value) (n : Nat) (xs : List Value) (hs : a.eval s = v) (hown : w.ownsRow base e size v n xs) (ao : Option Addr) (m c : Nat) (news : List Value) (hx : a.eval x = .slice ao m c) (hl : news.length = m * size)
    (hsrc : m = 0 ∨ ∃ ad, ao = some ad ∧ ∀ j u, news[j]? = some u → w.cell? (ad.add j) = some u) (h1 : ∀ u ∈ news, u.oneCell' = true)
    (h63 : n + m ≤ maxLen) (hbytes : (n + m) * bytes ≤ 140737488355328) (hbase : base ≤ w.heap.size) (N : Nat) (L : List Value) (hN : N = n + m) (hL : L = xs ++ news)
    (h : ∀ (a' : Option Addr) (c' : Nat) (w' : World), w'.ownsRow base e size (.slice a' N c') N L → w.grownBy w' v.ownBlock → ((Value.slice a' N c').ownBlock = v.ownBlock ∨ (Value.slice a' N c').ownBlock = some w.heap.size) → K (a.put o.dst (.slice a' N c')) w') : o.wp P a w K Q := by
  subst hN hL
  obtain ⟨v', w', hr, h2, h3, h4⟩ := run_append_k (P := P) w base t o.type e i z size bytes ht hi hz hsize hpos hby hzs v n xs hown ao m c news hl hsrc h1 h63 hbytes hbase
  obtain ⟨a', c', rfl, _⟩ := row_formk h2
  unfold Oper.wp execOp
  simp only [ho, resolve, invoke, builtin, Sem.run_bind, Sem.run_pure, Result.andThen_ok, List.map_toArray, List.map_cons, List.map_nil, hs, hx, hr]
  exact h a' c' w' h2 h3 h4
theorem step_append_k {w : World} {ops : Array Oper} {o : Oper} {a : Act} {K : Act → World → Prop} {Q : Exit → Act → World → Prop} {E : Prop} (hgd : o.guard = none) (s x : Operand) (t : TypeId)
    (ho : o.op = .call { callee := .builtin .append, args := #[s, x], argTypes := #[t, t] })
    (base : Nat) (e : TypeId) (i : TypeInfo) (z : Value) (size bytes : Nat) (ht : P.underlying t = some (.slice e)) (hi : P.info? e = some i) (hz : i.zero = some z) (hsize : i.size = size) (hpos : 0 < size) (hby : i.bytes = bytes) (hzs : z.cells.size = size)
    (v : Value) (n : Nat) (xs : List Value) (hs : a.eval s = v) (hown : w.ownsRow base e size v n xs) (ao : Option Addr) (m c : Nat) (news : List Value) (hx : a.eval x = .slice ao m c) (hl : news.length = m * size)
    (hsrc : m = 0 ∨ ∃ ad, ao = some ad ∧ ∀ j u, news[j]? = some u → w.cell? (ad.add j) = some u) (h1 : ∀ u ∈ news, u.oneCell' = true)
    (h63 : n + m ≤ maxLen) (hbytes : (n + m) * bytes ≤ 140737488355328) (hbase : base ≤ w.heap.size) (N : Nat) (L : List Value) (hN : N = n + m) (hL : L = xs ++ news)
    (h : ∀ (a' : Option Addr) (c' : Nat) (w' : World), w'.ownsRow base e size (.slice a' N c') N L → w.grownBy w' v.ownBlock → ((Value.slice a' N c').ownBlock = v.ownBlock ∨ (Value.slice a' N c').ownBlock = some w.heap.size) → K (a.put o.dst (.slice a' N c')) w') :
    if Region.wanted o (yielded ops a.tmps) = true then Oper.wp P o a w K Q else E := by
  have hw : Region.wanted o (yielded ops a.tmps) = true := by simp [Region.wanted, hgd]
  rw [if_pos hw]
  exact wp_append_k s x t ho base e i z size bytes ht hi hz hsize hpos hby hzs v n xs hs hown ao m c news hx hl hsrc h1 h63 hbytes hbase N L hN hL h
theorem wpList_append_k {w : World} {ops : Array Oper} {rest : List Oper} {o : Oper} {a : Act} {Q : Exit → Act → World → Prop} (hgd : o.guard = none) (s x : Operand) (t : TypeId)
    (ho : o.op = .call { callee := .builtin .append, args := #[s, x], argTypes := #[t, t] })
    (base : Nat) (e : TypeId) (i : TypeInfo) (z : Value) (size bytes : Nat) (ht : P.underlying t = some (.slice e)) (hi : P.info? e = some i) (hz : i.zero = some z) (hsize : i.size = size) (hpos : 0 < size) (hby : i.bytes = bytes) (hzs : z.cells.size = size)
    (v : Value) (n : Nat) (xs : List Value) (hs : a.eval s = v) (hown : w.ownsRow base e size v n xs) (ao : Option Addr) (m c : Nat) (news : List Value) (hx : a.eval x = .slice ao m c) (hl : news.length = m * size)
    (hsrc : m = 0 ∨ ∃ ad, ao = some ad ∧ ∀ j u, news[j]? = some u → w.cell? (ad.add j) = some u) (h1 : ∀ u ∈ news, u.oneCell' = true)
    (h63 : n + m ≤ maxLen) (hbytes : (n + m) * bytes ≤ 140737488355328) (hbase : base ≤ w.heap.size) (N : Nat) (L : List Value) (hN : N = n + m) (hL : L = xs ++ news)
    (h : ∀ (a' : Option Addr) (c' : Nat) (w' : World), w'.ownsRow base e size (.slice a' N c') N L → w.grownBy w' v.ownBlock → ((Value.slice a' N c').ownBlock = v.ownBlock ∨ (Value.slice a' N c').ownBlock = some w.heap.size) → wpList P ops Q rest (a.put o.dst (.slice a' N c')) w') :
    wpList P ops Q (o :: rest) a w := by
  refine wpList_plain hgd fun K hK => ?_
  exact wp_append_k s x t ho base e i z size bytes ht hi hz hsize hpos hby hzs v n xs hs hown ao m c news hx hl hsrc h1 h63 hbytes hbase N L hN hL (fun a' c' w' h2 h3 h4 => hK _ _ (h a' c' w' h2 h3 h4))
end
end Go.Proofs.YtljgkfdnmikpfaaGreatDoor
