import Derived.Lib.Hide
import Derived.WalkKit
import Derived.WalkSpells
import Derived.WalkLawsBesides
import Derived.ProofKit
import Derived.Maps.AppendAt
import Derived.OpenShut
import Derived.SizedLaws
import Derived.SliceStrings
import Derived.Carry
import Derived.Stop.Joined
import Derived.Deep.Slices
import Derived.LoopTactic
import Derived.Lib.Strings
import Derived.Deep.QuietTactic
import Derived.BigQuiet
import Derived.Test.YtllpdciehoenaaaGreatDoorRows
set_option linter.unusedVariables false
set_option linter.unusedSimpArgs false
/- Terms as trees, as chapter 7 says them. Nothing here is walked. -/
namespace Go.Proofs.YtllpdciehoenaaaGreatDoor

inductive Tm where
  | mk (k n : Int) (s : ByteArray) (ts : List Tm)
namespace Tm
def k : Tm → Int | mk k _ _ _ => k
def n : Tm → Int | mk _ n _ _ => n
def s : Tm → ByteArray | mk _ _ s _ => s
def args : Tm → List Tm | mk _ _ _ ts => ts
end Tm
mutual
/-- How many terms it is made of. -/
def sizeN : Tm → Nat
  | .mk _ _ _ ts => sizesN ts + 1
def sizesN : List Tm → Nat
  | [] => 0
  | x :: r => sizeN x + sizesN r
end
mutual
def depthN : Tm → Nat
  | .mk _ _ _ ts => depthsN ts + 1
def depthsN : List Tm → Nat
  | [] => 0
  | x :: r => max (depthN x) (depthsN r)
end
def letterB (c : UInt8) : Bool := c == 9 || c == 10 || (decide (32 ≤ c) && decide (c ≤ 126))
/-- What a term's own fields may be. -/
def plainT (k n : Int) (s : List UInt8) (m : Nat) : Bool :=
  if k = 0 then decide (0 ≤ n) && decide (n < 2147483648) && s.isEmpty && decide (m = 0)
  else if k = 1 then s.isEmpty && decide (m = 0)
  else if k = 2 then decide (n = 0) && decide (s.length ≤ 64) && decide (m ≤ 8) && s.all letterB
  else false
mutual
def formedT : Tm → Bool
  | .mk k n s ts => plainT k n s.data.toList ts.length && formedL ts
def formedL : List Tm → Bool
  | [] => true
  | x :: r => formedT x && formedL r
end
def goodT (t : Tm) : Bool := decide (sizeN t ≤ 2000) && decide (depthN t ≤ 64) && formedT t
mutual
/-- The variables' numbers behind those of 'l', each once. -/
def varsT : Tm → List Int → List Int
  | .mk k n _ ts, l => if k = 0 then (if l.contains n then l else l ++ [n]) else varsL ts l
def varsL : List Tm → List Int → List Int
  | [], l => l
  | x :: r, l => varsL r (varsT x l)
end
mutual
def sameT : Tm → Tm → Bool
  | .mk k n s ts, .mk k' n' s' ts' => k == k' && n == n' && s.data.toList == s'.data.toList && sameL ts ts'
def sameL : List Tm → List Tm → Bool
  | [], [] => true
  | x :: r, y :: q => sameT x y && sameL r q
  | _, _ => false
end
def dotS : ByteArray := ⟨#[46]⟩
def consT (a b : Tm) : Tm := .mk 2 0 dotS [a, b]
def listT : List Tm → Tm → Tm
  | [], t => t
  | x :: r, t => consT x (listT r t)
/-- Two Args under the list's name. -/
def pairA (c : Bool) : List Tm → Option (Tm × Tm)
  | [a, b] => if c then some (a, b) else none
  | _ => none
def pairT : Tm → Option (Tm × Tm)
  | .mk k _ s ts => pairA (k == 2 && s.data.toList == [46]) ts
theorem size_pos (t : Tm) : 1 ≤ sizeN t := by cases t; rw [sizeN]; omega
theorem depth_pos (t : Tm) : 1 ≤ depthN t := by cases t; rw [depthN]; omega
theorem sizes_mem : ∀ {l : List Tm} {x : Tm}, x ∈ l → sizeN x ≤ sizesN l
  | y :: r, x, h => by
    rw [sizesN]
    rcases List.mem_cons.1 h with rfl | h
    · omega
    · have := sizes_mem h; omega
theorem depths_mem : ∀ {l : List Tm} {x : Tm}, x ∈ l → depthN x ≤ depthsN l
  | y :: r, x, h => by
    rw [depthsN]
    rcases List.mem_cons.1 h with rfl | h
    · omega
    · have := depths_mem h; omega
theorem formed_mem : ∀ {l : List Tm} {x : Tm}, formedL l = true → x ∈ l → formedT x = true
  | y :: r, x, hf, h => by
    rw [formedL, Bool.and_eq_true] at hf
    rcases List.mem_cons.1 h with rfl | h
    · exact hf.1
    · exact formed_mem hf.2 h
theorem good_parts {t : Tm} (h : goodT t = true) : sizeN t ≤ 2000 ∧ depthN t ≤ 64 ∧ formedT t = true := by
  unfold goodT at h
  simp only [Bool.and_eq_true, decide_eq_true_eq] at h
  exact ⟨h.1.1, h.1.2, h.2⟩
theorem good_of {t : Tm} (h1 : sizeN t ≤ 2000) (h2 : depthN t ≤ 64) (h3 : formedT t = true) : goodT t = true := by
  unfold goodT
  simp [h1, h2, h3]
/-- An Arg of a good one is good. -/
theorem good_arg {t x : Tm} (h : goodT t = true) (hx : x ∈ t.args) : goodT x = true := by
  obtain ⟨h1, h2, h3⟩ := good_parts h
  cases t with
  | mk k n s ts =>
    have hx' : x ∈ ts := hx
    rw [sizeN] at h1
    rw [depthN] at h2
    rw [formedT, Bool.and_eq_true] at h3
    have a := sizes_mem hx'
    have b := depths_mem hx'
    exact good_of (by omega) (by omega) (formed_mem h3.2 hx')
theorem bytes_eq {s t : ByteArray} (h : s.data.toList = t.data.toList) : s = t := by
  obtain ⟨⟨l⟩⟩ := s; obtain ⟨⟨m⟩⟩ := t; simp at h; rw [h]
mutual
theorem same_iff : ∀ (a b : Tm), sameT a b = true ↔ a = b
  | .mk k n s ts, .mk k' n' s' ts' => by
    rw [sameT]
    simp only [Bool.and_eq_true, beq_iff_eq, Tm.mk.injEq]
    rw [sames_iff ts ts']
    constructor
    · rintro ⟨⟨⟨h1, h2⟩, h3⟩, h4⟩; exact ⟨h1, h2, bytes_eq h3, h4⟩
    · rintro ⟨h1, h2, h3, h4⟩; exact ⟨⟨⟨h1, h2⟩, by rw [h3]⟩, h4⟩
theorem sames_iff : ∀ (a b : List Tm), sameL a b = true ↔ a = b
  | [], [] => by simp [sameL]
  | x :: r, y :: q => by
    rw [sameL]
    simp only [Bool.and_eq_true, List.cons.injEq]
    rw [same_iff x y, sames_iff r q]
  | [], y :: q => by simp [sameL]
  | x :: r, [] => by simp [sameL]
end
theorem same_self (a : Tm) : sameT a a = true := (same_iff a a).2 rfl
theorem pairA_some {c : Bool} {ts : List Tm} {a b : Tm} (h : pairA c ts = some (a, b)) : c = true ∧ ts = [a, b] := by
  match ts, h with
  | [], h => cases h
  | [x], h => cases h
  | [x, y], h =>
    unfold pairA at h
    cases c
    · cases h
    · cases h; exact ⟨rfl, rfl⟩
  | x :: y :: z :: r, h => cases h
theorem pair_size {t a b : Tm} (h : pairT t = some (a, b)) : sizeN b < sizeN t ∧ t.args = [a, b] ∧ t.k = 2 ∧ t.s = dotS := by
  cases t with
  | mk k n s ts =>
    obtain ⟨hc, rfl⟩ := pairA_some h
    simp only [Bool.and_eq_true, beq_iff_eq] at hc
    refine ⟨?_, rfl, hc.1, bytes_eq hc.2⟩
    rw [sizeN, sizesN, sizesN, sizesN]
    have := size_pos a
    omega
/-- The items, and what ends them. -/
def itemsF : Nat → Tm → List Tm × Tm
  | 0, t => ([], t)
  | m + 1, t => match pairT t with
    | some (a, b) => (a :: (itemsF m b).1, (itemsF m b).2)
    | none => ([], t)
def itemsT (t : Tm) : List Tm × Tm := itemsF (sizeN t) t
theorem items_fuel : ∀ (m m' : Nat) (t : Tm), sizeN t ≤ m → sizeN t ≤ m' → itemsF m t = itemsF m' t
  | 0, m', t, h, _ => by have := size_pos t; omega
  | m + 1, 0, t, _, h => by have := size_pos t; omega
  | m + 1, m' + 1, t, h, h' => by
    rw [itemsF, itemsF]
    cases hp : pairT t with
    | none => rfl
    | some q =>
      obtain ⟨a, b⟩ := q
      have := pair_size hp
      simp only
      rw [items_fuel m m' b (by omega) (by omega)]
theorem items_none {t : Tm} (h : pairT t = none) : itemsT t = ([], t) := by
  unfold itemsT
  have := size_pos t
  rw [show sizeN t = (sizeN t - 1) + 1 by omega, itemsF, h]
theorem items_some {t a b : Tm} (h : pairT t = some (a, b)) : itemsT t = (a :: (itemsT b).1, (itemsT b).2) := by
  unfold itemsT
  have h1 := pair_size h
  have := size_pos t
  rw [show sizeN t = (sizeN t - 1) + 1 by omega, itemsF, h]
  simp only
  rw [items_fuel (sizeN t - 1) (sizeN b) b (by omega) (Nat.le_refl _)]
theorem pair_cons (a b : Tm) : pairT (consT a b) = some (a, b) := by
  rfl
theorem items_list (t : Tm) : ∀ l : List Tm, itemsT (listT l t) = (l ++ (itemsT t).1, (itemsT t).2)
  | [] => rfl
  | x :: r => by
    rw [listT, items_some (pair_cons _ _), items_list t r]
    rfl
/-- The items of a good one, and what ends them, make it again. -/
theorem list_items : ∀ (m : Nat) (t : Tm), sizeN t ≤ m → formedT t = true → listT (itemsT t).1 (itemsT t).2 = t
  | 0, t, h, _ => by have := size_pos t; omega
  | m + 1, t, h, hf => by
    cases hp : pairT t with
    | none => rw [items_none hp]; rfl
    | some q =>
      obtain ⟨a, b⟩ := q
      obtain ⟨h1, h2, h3, h4⟩ := pair_size hp
      rw [items_some hp]
      cases t with
      | mk k n s ts =>
        cases (show k = 2 from h3)
        cases (show s = dotS from h4)
        cases (show ts = [a, b] from h2)
        rw [formedT, Bool.and_eq_true] at hf
        have hb : formedT b = true := formed_mem hf.2 (by simp)
        have hn : n = 0 := by
          have := hf.1
          unfold plainT at this
          simp at this
          exact this.1.1
        subst hn
        show consT a (listT (itemsT b).1 (itemsT b).2) = _
        rw [list_items m b (by omega) hb]
        rfl
/-- How great a list is. -/
theorem size_list (t : Tm) : ∀ l : List Tm, sizeN (listT l t) = l.length + sizesN l + sizeN t
  | [] => by simp [listT, sizesN]
  | x :: r => by
    rw [listT, consT, sizeN, sizesN, sizesN, sizesN, size_list t r, sizesN, List.length_cons]
    omega
/-- The numbers that are not there yet, each once. -/
def addAll (l : List Int) : List Int → List Int
  | [] => l
  | n :: r => addAll (if l.contains n then l else l ++ [n]) r
theorem addAll_append (l a b : List Int) : addAll l (a ++ b) = addAll (addAll l a) b := by
  induction a generalizing l with
  | nil => rfl
  | cons n r ih => rw [List.cons_append, addAll, addAll, ih]
theorem mem_addAll : ∀ (a l : List Int) (n : Int), n ∈ addAll l a ↔ n ∈ l ∨ n ∈ a
  | [], l, n => by simp [addAll]
  | x :: r, l, n => by
    rw [addAll, mem_addAll r]
    by_cases h : l.contains x = true
    · rw [if_pos h]
      have hx : x ∈ l := by simpa using h
      simp only [List.mem_cons]
      constructor
      · rintro (h1 | h1)
        · exact Or.inl h1
        · exact Or.inr (Or.inr h1)
      · rintro (h1 | rfl | h1)
        · exact Or.inl h1
        · exact Or.inl hx
        · exact Or.inr h1
    · rw [if_neg h]
      simp only [List.mem_append, List.mem_cons, List.not_mem_nil, or_false]
      constructor
      · rintro ((h1 | h1) | h1)
        · exact Or.inl h1
        · exact Or.inr (Or.inl h1)
        · exact Or.inr (Or.inr h1)
      · rintro (h1 | h1 | h1)
        · exact Or.inl (Or.inl h1)
        · exact Or.inl (Or.inr h1)
        · exact Or.inr h1
/-- What is there already is added to no end. -/
theorem addAll_skip : ∀ (a l : List Int), (∀ n ∈ a, n ∈ l) → addAll l a = l
  | [], l, _ => rfl
  | x :: r, l, h => by
    rw [addAll, if_pos (by simpa using h x (by simp))]
    exact addAll_skip r l (fun n hn => h n (List.mem_cons_of_mem _ hn))
theorem addAll_addAll : ∀ (a l m : List Int), addAll l (addAll m a) = addAll (addAll l m) a
  | [], l, m => rfl
  | x :: r, l, m => by
    rw [addAll, addAll_addAll r l, addAll]
    by_cases h : m.contains x = true
    · have hx : x ∈ m := by simpa using h
      rw [if_pos h, if_pos (by have := (mem_addAll m l x).2 (Or.inr hx); simpa using this)]
    · rw [if_neg h, addAll_append, addAll, addAll]
mutual
theorem vars_add : ∀ (t : Tm) (l : List Int), varsT t l = addAll l (varsT t [])
  | .mk k n s ts, l => by
    rw [varsT, varsT]
    by_cases hk : k = 0
    · rw [if_pos hk, if_pos hk]
      simp [addAll]
    · rw [if_neg hk, if_neg hk]
      exact varss_add ts l
theorem varss_add : ∀ (ts : List Tm) (l : List Int), varsL ts l = addAll l (varsL ts [])
  | [], l => rfl
  | x :: r, l => by
    rw [varsL, varsL, vars_add x l, varss_add r (addAll l _), varss_add r (varsT x []), addAll_addAll]
end
end Go.Proofs.YtllpdciehoenaaaGreatDoor
/- Small facts of ours about endings, byte strings and slices of strings in memory; nothing here speaks of one program. -/
namespace Go.Proofs.YtllpdciehoenaaaGreatDoor
open Go.RowKit

theorem ret_bool {a b : Bool} (h : a = b) : Ending.returned (.bool a) = .returned (.bool b) := by rw [h]
theorem ret_int {k : IntKind} {a b : Int} (h : a = b) : Ending.returned (.int k a) = .returned (.int k b) := by rw [h]
theorem ret_str {a b : ByteArray} (h : a = b) : Ending.returned (.string a) = .returned (.string b) := by rw [h]
abbrev bl (s : ByteArray) : List UInt8 := s.data.toList
theorem bl_len (s : ByteArray) : (bl s).length = s.size := rfl
theorem bl_get (s : ByteArray) (k : Nat) (h : k < s.size) : (bl s)[k]'h = s[k] := rfl
theorem bl_inj {s t : ByteArray} (h : bl s = bl t) : s = t := by
  obtain ⟨⟨l⟩⟩ := s; obtain ⟨⟨m⟩⟩ := t; simp [bl] at h; rw [h]
theorem bl_nil {s : ByteArray} (h : s.size = 0) : bl s = [] := List.length_eq_zero_iff.1 h

/-- The value reads as this list of strings. -/
def Strs (w : World) (v : Value) (ss : List ByteArray) : Prop :=
  ∃ (a : Option Addr) (cap : Nat), v = .slice a ss.length cap ∧ ss.length ≤ cap ∧ cap ≤ maxLen ∧ ss.length * 16 ≤ 140737488351232 ∧ (∀ s ∈ ss, s.size ≤ 140737488351232) ∧
    (ss = [] ∨ ∃ b off, a = some ⟨b, off, none⟩ ∧ b < w.heap.size ∧ ∀ i x, ss[i]? = some x → w.cell? ⟨b, off + i, none⟩ = some (.string x))
theorem Strs.ext {w w' : World} {v : Value} {ss : List ByteArray} (h : Strs w v ss) (hb : Below w.heap.size w w') : Strs w' v ss := by
  obtain ⟨a, cap, h1, h2, h3, h4, h5, h6⟩ := h
  refine ⟨a, cap, h1, h2, h3, h4, h5, ?_⟩
  rcases h6 with h6 | ⟨b, off, e1, e2, e3⟩
  · exact Or.inl h6
  · exact Or.inr ⟨b, off, e1, Nat.lt_of_lt_of_le e2 hb.size, fun i x hx => cell_later hb (e3 i x hx)⟩

/-- Whatever lay in W lies in w as it lay. -/
abbrev Ext (W w : World) : Prop := Below W.heap.size W w
theorem Ext.trans' {a b c : World} (h : Below a.heap.size a b) (k : Below b.heap.size b c) : Below a.heap.size a c := h.trans (k.mono h.size)
theorem Below.undrew {B : Nat} {w w' : World} (h : Below B w.drew w') : Below B w w' := ⟨h.os, h.tape, h.output, h.size, h.block⟩
theorem bcell {W w1 : World} (hb : Below W.heap.size W w1) : (∀ b o, b < W.heap.size → w1.cell? ⟨b, o, none⟩ = W.cell? ⟨b, o, none⟩) ∧ (∀ b o, b < W.heap.size → w1.frozen? ⟨b, o, none⟩ = W.frozen? ⟨b, o, none⟩) :=
  ⟨fun b o h => hb.cell (p := ⟨b, o, none⟩) h, fun b o h => hb.frozen (p := ⟨b, o, none⟩) h⟩

/-- A row of strings of the call's own: its cells. -/
theorem owned_strs {w : World} {base e : Nat} {ao : Option Addr} {cv : Nat} {ts : List ByteArray} (h : w.ownsRow base e 1 (.slice ao ts.length cv) ts.length (ts.map Value.string)) :
    ts = [] ∨ ∃ g, ao = some ⟨g, 0, none⟩ ∧ base ≤ g ∧ g < w.heap.size ∧ ts.length ≤ cv ∧ cv ≤ maxLen ∧ ∀ (i : Nat) (x : ByteArray), ts[i]? = some x → w.cell? ⟨g, 0 + i, none⟩ = some (.string x) := by
  obtain ⟨_, ⟨_, h⟩ | ⟨g, cap, cur, hv, hg, hh, h1, h2, h3, h4⟩⟩ := h
  · exact Or.inl (List.length_eq_zero_iff.1 h)
  · right
    simp only [Value.slice.injEq, true_and] at hv
    obtain ⟨rfl, rfl⟩ := hv
    refine ⟨g, rfl, hg, ?_, h1, h2, fun i x hx => ?_⟩
    · exact (Array.getElem?_eq_some_iff.1 hh).1
    · simp only [World.cell?, hh, Option.isSome_none]
      have hi := (List.getElem?_eq_some_iff.1 hx).1
      have h5 : (cur.toList.take (ts.length * 1))[i]? = some (.string x) := by rw [h4]; simp [hx]
      rw [List.getElem?_take] at h5
      split at h5
      · simpa using h5
      · cases h5
end Go.Proofs.YtllpdciehoenaaaGreatDoor
/- Small facts of ours on worlds: what is laid anew, what is drawn, a row that stays. Nothing here speaks of one program. -/
namespace Go.Proofs.YtllpdciehoenaaaGreatDoor
open Go.RowKit
theorem bel1' (w : World) (o : Obj) : Below w.heap.size w (w.alloc o) := (Below.refl _ _).alloc (Nat.le_refl _) o
theorem bel_drewN {B : Nat} {a w : World} (h : Below B a w) (n : Nat) : Below B a (w.drewN n) := ⟨h.os, h.tape, h.output, h.size, h.block⟩
theorem row_ext {w w' : World} {B k n : Nat} {e : TypeId} {v : Value} {xs : List Value} (h : w.ownsRow B e k v n xs) (hb : Below w.heap.size w w') : w'.ownsRow B e k v n xs := by
  obtain ⟨h0, h1⟩ := h
  refine ⟨h0, ?_⟩
  rcases h1 with h1 | ⟨g, cap, cur, rfl, hg, hh, h2⟩
  · exact Or.inl h1
  · exact Or.inr ⟨g, cap, cur, rfl, hg, by rw [hb.block g (Array.getElem?_eq_some_iff.1 hh).1]; exact hh, h2⟩
end Go.Proofs.YtllpdciehoenaaaGreatDoor
/- How the arguments of a law are opened: from the form's reading to our own predicates. Nothing here speaks of one program. -/
namespace Go.Proofs.YtllpdciehoenaaaGreatDoor
open Go.RowKit Go.ChangeShapes Go.WideShapes Go.ChangeAt

/-- The law's end: this bool, and nothing that was there has turned. -/
def IsBool (W : World) (b : Bool) (e : Ending) (w' : World) : Prop := e = .returned (.bool b) ∧ Below W.heap.size W w'

section
variable {H : Type} {enc : TypeId × Value → H} {P : Program} {W : World}

theorem weights_ok {ts : List TypeId} {ds : List (DataW H)} (h : (DataW.weightsEach P ts ds).all (· ≤ reachBytes) = true) {j : Nat} {t : TypeId} {d : DataW H} (ht : ts[j]? = some t) (hd : ds[j]? = some d) :
    ∀ n ∈ d.weights P t, n ≤ 140737488351232 := fun n hn => by
  have := List.all_eq_true.1 h n (DataW.weights_mem_each ht hd n hn)
  have e : reachBytes = 140737488351232 := by decide
  simpa [e] using this
theorem weights_all_mem {e : TypeId} : ∀ {l : List (DataW H)} {d : DataW H}, d ∈ l → ∀ n ∈ d.weights P e, n ∈ DataW.weightsAll P e l
  | a :: r, d, h, n, hn => by
    simp only [DataW.weightsAll, List.mem_append]
    rcases List.mem_cons.1 h with rfl | h
    · exact Or.inl hn
    · exact Or.inr (weights_all_mem h n hn)

theorem lt_of_trod {t : TypeId} {v : Value} {d : DataW H} {ps : List MemPlace} (h : DataW.Trod enc P W 0 (fun _ => true) true t v d ps) : ∀ x ∈ ps, x.block < W.heap.size := by
  obtain ⟨m, hm⟩ := h; exact DataW.trod_lt m _ _ _ hm

theorem add_plain (b o i : Nat) : (⟨b, o, none⟩ : Addr).add i = ⟨b, o + i, none⟩ := by
  unfold Addr.add; split
  · rename_i h; rw [h]; rfl
  · rfl
theorem spot_of_cell {w : World} {x : Addr} {v : Value} (h : w.cell? (x.add 0) = some v) : x.spot = none := by
  rcases x with ⟨xb, xo, xs⟩
  cases xs with
  | none => rfl
  | some q =>
    exfalso
    rw [show (⟨xb, xo, some q⟩ : Addr).add 0 = ⟨xb, xo, some q⟩ from rfl] at h
    unfold World.cell? at h
    split at h <;> simp at h
theorem strs_of_trod {t e : TypeId} {v : Value} {d : DataW H} {ps : List MemPlace} (ht : P.underlying t = some (.slice e)) (he : P.underlying e = some .string) (hc : P.cellsOf e = 1) (hb : P.bytesOf e = 16)
    (hv : ∃ a n c, v = .slice a n c) (h : DataW.Trod enc P W 0 (fun _ => true) true t v d ps) (hw : ∀ n ∈ d.weights P t, n ≤ 140737488351232) : ∃ ss, Strs W v ss := by
  have hlt := lt_of_trod h
  obtain ⟨a, n, c, rfl⟩ := hv
  obtain ⟨fuel, hf⟩ := h
  rcases open_strings ht he hc hf with ⟨hcs, _⟩ | ⟨x, l, cc, ss, hcs, _, hl, hm, hz, hd, hcell, hsz⟩
  · simp [Value.cells] at hcs
    obtain ⟨rfl, rfl, rfl⟩ := hcs
    exact ⟨[], none, 0, rfl, Nat.le_refl _, Nat.zero_le _, by simp, by simp, Or.inl rfl⟩
  · simp [Value.cells] at hcs
    obtain ⟨rfl, rfl, rfl⟩ := hcs
    simp only [Prod.mk.injEq] at hd
    obtain ⟨rfl, rfl⟩ := hd
    simp at hz
    have hz' : ss.length = c := hz
    have htl : (ss.take n).length = n := by simp; omega
    have hbig := hw (((strs (H := H) (ss.take n)).length + (strs (H := H) (ss.drop n)).length) * P.bytesOf e) (by simp [DataW.weights, ht])
    rw [hb] at hbig
    simp [strs] at hbig
    refine ⟨ss.take n, some x, c, by rw [htl], by omega, hm, by rw [htl]; omega, fun s hs => ?_, ?_⟩
    · have h1 : (DataW.lit (.string s.data.toList) : DataW H) ∈ strs (H := H) (ss.take n) := List.mem_map_of_mem (f := fun s : ByteArray => (DataW.lit (.string s.data.toList) : DataW H)) hs
      have h2 := weights_all_mem (P := P) (e := e) h1 s.data.toList.length (by simp [DataW.weights])
      have h3 := hw s.data.toList.length (by simp only [DataW.weights, ht, List.mem_cons, List.mem_append]; exact Or.inr (Or.inl h2))
      exact h3
    · by_cases h0 : n = 0
      · left; rw [h0]; rfl
      right
      have hx0 := hcell 0 (by omega)
      have hs0 := spot_of_cell hx0
      rcases x with ⟨xb, xo, xs⟩
      cases (show xs = none from hs0)
      refine ⟨xb, xo, rfl, ?_, fun i y hy => ?_⟩
      · rw [add_plain] at hx0; exact World.block_lt_of_cell? _ _ hx0
      · have hi : i < (ss.take n).length := (List.getElem?_eq_some_iff.1 hy).1
        have hx := hcell i (by omega)
        have e1 : (ss.take n)[i]? = ss[i]? := by rw [List.getElem?_take]; simp; omega
        rw [e1] at hy
        rw [List.getD_eq_getElem?_getD, hy, add_plain] at hx
        exact hx

/-- The value reads as this list of numbers (uint64). -/
def U64s (w : World) (v : Value) (l : List Nat) : Prop :=
  ∃ (a : Option Addr) (cap : Nat), v = .slice a l.length cap ∧ l.length ≤ cap ∧ cap ≤ maxLen ∧ l.length * 8 ≤ 140737488351232 ∧ (∀ x ∈ l, x < 18446744073709551616) ∧
    (l = [] ∨ ∃ b off, a = some ⟨b, off, none⟩ ∧ b < w.heap.size ∧ ∀ (i : Nat) (x : Nat), l[i]? = some x → w.cell? ⟨b, off + i, none⟩ = some (.int .u64 x))
theorem u64s_of_trod {t e : TypeId} {v : Value} {d : DataW H} {ps : List MemPlace} (ht : P.underlying t = some (.slice e)) (he : P.underlying e = some (.int .u64)) (hc : P.cellsOf e = 1) (hb : P.bytesOf e = 8)
    (hv : ∃ a n c, v = .slice a n c) (h : DataW.Trod enc P W 0 (fun _ => true) true t v d ps) (hw : ∀ n ∈ d.weights P t, n ≤ 140737488351232) : ∃ l, U64s W v l := by
  obtain ⟨a, n, c, rfl⟩ := hv
  obtain ⟨fuel, hf⟩ := h
  rcases open_ints ht he hc hf with ⟨hcs, _⟩ | ⟨x, l, cc, zs, hcs, _, hl, hm, hz, hd, hcell, hwz⟩
  · simp [Value.cells] at hcs
    obtain ⟨rfl, rfl, rfl⟩ := hcs
    exact ⟨[], none, 0, rfl, Nat.le_refl _, Nat.zero_le _, by simp, by simp, Or.inl rfl⟩
  · simp [Value.cells] at hcs
    obtain ⟨rfl, rfl, rfl⟩ := hcs
    simp only [Prod.mk.injEq] at hd
    obtain ⟨rfl, _⟩ := hd
    have hz' : zs.length = c := by simpa using hz
    have hbig := hw _ (by simp only [DataW.weights, ht]; exact List.mem_cons_self)
    rw [hb] at hbig
    simp [lits] at hbig
    have htl : ((zs.take n).map Int.toNat).length = n := by simp; omega
    have hr : ∀ i (y : Nat), ((zs.take n).map Int.toNat)[i]? = some y → i < n ∧ zs.getD i 0 = (y : Int) ∧ y < 18446744073709551616 := fun i y hy => by
      have hi : i < ((zs.take n).map Int.toNat).length := (List.getElem?_eq_some_iff.1 hy).1
      have hi' : i < zs.length := by omega
      have h1 := hwz zs[i] (List.getElem_mem _)
      have h2 := bounds_u64 h1
      have hyz : y = zs[i].toNat := by
        have := (List.getElem?_eq_some_iff.1 hy).2
        simp at this; exact this.symm
      refine ⟨by omega, ?_, by omega⟩
      rw [List.getD_eq_getElem?_getD, List.getElem?_eq_getElem hi']
      simp; omega
    refine ⟨(zs.take n).map Int.toNat, some x, c, by rw [htl], by omega, hm, by rw [htl]; omega, fun y hy => ?_, ?_⟩
    · obtain ⟨i, hi⟩ := List.getElem?_of_mem hy
      exact (hr i y hi).2.2
    · by_cases h0 : n = 0
      · left; rw [h0]; rfl
      right
      have hx0 := hcell 0 (by omega)
      have hs0 := spot_of_cell hx0
      rcases x with ⟨xb, xo, xs⟩
      cases (show xs = none from hs0)
      refine ⟨xb, xo, rfl, ?_, fun i y hy => ?_⟩
      · rw [add_plain] at hx0; exact World.block_lt_of_cell? _ _ hx0
      · obtain ⟨h1, h2, _⟩ := hr i y hy
        have hx := hcell i (by omega)
        rw [add_plain, h2] at hx
        exact hx
end
end Go.Proofs.YtllpdciehoenaaaGreatDoor
/- A slice of whatever elements that came in, opened element by element. Nothing here speaks of one program. -/
namespace Go.Proofs.YtllpdciehoenaaaGreatDoor
open Go.RowKit Go.ChangeShapes Go.WideShapes Go.ChangeAt Go.Deep

/-- The value reads as these elements, of S cells each. -/
def Elems {α : Type} (S : Nat) (cells : α → List Value) (w : World) (v : Value) (xs : List α) : Prop :=
  ∃ (a : Option Addr) (cap : Nat), v = .slice a xs.length cap ∧ xs.length ≤ cap ∧ cap ≤ maxLen ∧
    (xs = [] ∨ ∃ b off, a = some ⟨b, off, none⟩ ∧ b < w.heap.size ∧ ∀ (i : Nat) (x : α), xs[i]? = some x → ∀ (j : Nat) (u : Value), (cells x)[j]? = some u → w.cell? ⟨b, off + (i * S + j), none⟩ = some u)
theorem Elems.ext {α : Type} {S : Nat} {cells : α → List Value} {w w' : World} {v : Value} {xs : List α} (h : Elems S cells w v xs) (hb : Below w.heap.size w w') : Elems S cells w' v xs := by
  obtain ⟨a, cap, h1, h2, h3, h6⟩ := h
  refine ⟨a, cap, h1, h2, h3, ?_⟩
  rcases h6 with h6 | ⟨b, off, e1, e2, e3⟩
  · exact Or.inl h6
  · exact Or.inr ⟨b, off, e1, Nat.lt_of_lt_of_le e2 hb.size, fun i x hx j u hu => cell_later hb (e3 i x hx j u hu)⟩

theorem list_choose {α : Type} {Q : Nat → α → Prop} : ∀ n : Nat, (∀ i, i < n → ∃ x, Q i x) → ∃ xs : List α, xs.length = n ∧ ∀ i x, xs[i]? = some x → Q i x
  | 0, _ => ⟨[], rfl, by simp⟩
  | n + 1, h => by
    obtain ⟨xs, hl, hx⟩ := list_choose n (fun i hi => h i (by omega))
    obtain ⟨y, hy⟩ := h n (by omega)
    refine ⟨xs ++ [y], by simp [hl], fun i x hi => ?_⟩
    by_cases hlt : i < xs.length
    · rw [List.getElem?_append_left hlt] at hi; exact hx i x hi
    · rw [List.getElem?_append_right (by omega)] at hi
      have hm := (List.getElem?_eq_some_iff.1 hi).1
      simp at hm
      have e : i = n := by omega
      subst e
      rw [hl, Nat.sub_self] at hi
      simp at hi; subst hi; exact hy

section
variable {H : Type} {enc : TypeId × Value → H} {P : Program} {W : World}
theorem elems_of_trod {α : Type} {t e : TypeId} {v : Value} {d : DataW H} {ps : List MemPlace} (ht : P.underlying t = some (.slice e)) {S B : Nat} (hc : P.cellsOf e = S) (hS : 0 < S) (hb : P.bytesOf e = B) (cells : α → List Value) (ok : α → Prop)
    (hv : ∃ a n c, v = .slice a n c) (h : DataW.Trod enc P W 0 (fun _ => true) true t v d ps) (hw : ∀ n ∈ d.weights P t, n ≤ 140737488351232)
    (each : ∀ (n : Nat) (cs : List Value) (D : DataW H) (pl : List MemPlace), DataW.trod enc P W 0 (fun _ => true) true n e cs = some (D, pl) → (∀ m ∈ D.weights P e, m ≤ 140737488351232) → ∃ x : α, cs = cells x ∧ ok x) :
    ∃ xs : List α, Elems S cells W v xs ∧ (∀ x ∈ xs, ok x) ∧ xs.length * B ≤ 140737488351232 := by
  obtain ⟨a, n, c, rfl⟩ := hv
  obtain ⟨fuel, hf⟩ := h
  rcases open_slice ht hf with ⟨hcs, _⟩ | ⟨x, l, cc, m, n', D, Pl, hcs, _, hl, hm, hz, hd, hi⟩
  · simp [Value.cells] at hcs
    obtain ⟨rfl, rfl, rfl⟩ := hcs
    exact ⟨[], ⟨none, 0, rfl, Nat.le_refl _, Nat.zero_le _, Or.inl rfl⟩, by simp, by simp⟩
  · simp [Value.cells] at hcs
    obtain ⟨rfl, rfl, rfl⟩ := hcs
    simp at hz
    subst hz
    simp only [Prod.mk.injEq] at hd
    obtain ⟨rfl, rfl⟩ := hd
    have hbig := hw ((((List.range n).map D).length + ((List.range (m - n)).map fun j => D (n + j)).length) * P.bytesOf e) (by simp [DataW.weights, ht])
    rw [hb] at hbig
    simp at hbig
    obtain ⟨xs, hxl, hxs⟩ := list_choose (Q := fun i (y : α) => ok y ∧ ∃ cs', W.cells? 0 (x.add (i * S)) S = some cs' ∧ cs' = cells y) n (fun i hin => by
      obtain ⟨cs', h1, h2⟩ := hi i (by omega)
      rw [hc] at h1
      obtain ⟨y, hy1, hy2⟩ := each n' cs' (D i) (Pl i) h2 (fun k hk => hw k (by
        simp only [DataW.weights, ht, List.mem_cons, List.mem_append]
        exact Or.inr (Or.inl (weights_all_mem (List.mem_map_of_mem (f := D) (List.mem_range.2 hin)) k hk))))
      exact ⟨y, hy2, cs', h1, hy1⟩)
    have hn : n * B ≤ 140737488351232 := Nat.le_trans (Nat.mul_le_mul_right _ (by omega)) hbig
    refine ⟨xs, ⟨some x, m, by rw [hxl], by omega, hm, ?_⟩, fun y hy => ?_, by rw [hxl]; exact hn⟩
    · by_cases h0 : n = 0
      · left; exact List.length_eq_zero_iff.1 (by omega)
      right
      obtain ⟨y0, hy0⟩ : ∃ y0, xs[0]? = some y0 := ⟨_, List.getElem?_eq_getElem (by omega)⟩
      obtain ⟨_, cs0, hq, _⟩ := hxs 0 y0 hy0
      obtain ⟨_, hl0, hat0⟩ := World.cells?_some hq
      have hx0 := hat0 0 hS
      have hs0 : x.spot = none := by
        rw [List.getElem?_eq_getElem (by omega)] at hx0
        have e1 := spot_of_cell hx0
        rw [Nat.zero_mul] at e1
        have : x.add 0 = x := by
          rcases x with ⟨xb, xo, xs'⟩; unfold Addr.add; split <;> simp_all
        rw [this] at e1; exact e1
      rcases x with ⟨xb, xo, xs'⟩
      cases (show xs' = none from hs0)
      refine ⟨xb, xo, rfl, ?_, fun i y hy j u hu => ?_⟩
      · rw [List.getElem?_eq_getElem (by omega), add_plain, add_plain] at hx0; exact World.block_lt_of_cell? _ _ hx0
      · obtain ⟨_, cs', hq', rfl⟩ := hxs i y hy
        obtain ⟨_, hl', hat⟩ := World.cells?_some hq'
        have hj := (List.getElem?_eq_some_iff.1 hu).1
        have := hat j (by omega)
        rw [add_plain, add_plain, hu, Nat.add_assoc] at this
        exact this
    · obtain ⟨i, hi', rfl⟩ := List.getElem_of_mem hy
      exact (hxs i _ (List.getElem?_eq_getElem hi')).1
end
end Go.Proofs.YtllpdciehoenaaaGreatDoor
/- Operators: what they are, and the calls that only read one of them: side, may, mayAdd, Sides. -/
namespace Go.Proofs.YtllpdciehoenaaaGreatDoor
open Go.RowKit

structure O where
  n : ByteArray
  k : ByteArray
  l : Int
instance : Inhabited O := ⟨⟨⟨#[]⟩, ⟨#[]⟩, 0⟩⟩
def oCells (o : O) : List Value := [.string o.n, .string o.k, .int .i64 o.l]
abbrev oVal (o : O) : Value := .agg #[.string o.n, .string o.k, .int .i64 o.l]
def oOk (o : O) : Prop := o.n.size ≤ 140737488351232 ∧ o.k.size ≤ 140737488351232 ∧ (-9223372036854775808 ≤ o.l ∧ o.l ≤ 9223372036854775807)
theorem oCells_len (o : O) : (oCells o).length = 3 := rfl

/-- 2 between, 1 ahead, 0 none. -/
def sideB (k : List UInt8) : Int :=
  if k == [120, 102, 120] then 2 else if k == [120, 102, 121] then 2 else if k == [121, 102, 120] then 2 else if k == [102, 121] then 1 else if k == [102, 120] then 1 else 0
def mayB (n k : List UInt8) (l : Int) : Bool :=
  if n == [44] then k == [120, 102, 121] && l == 1000
  else if n == [] then false else if n == [124] then false else if n == [91, 93] then false else if n == [123, 125] then false
  else decide ((n.length : Int) ≤ 64) && (sideB k != 0) && decide (1 ≤ l) && decide (l ≤ 1200)
def sidesB (k : List UInt8) (l : Int) : Int × Int :=
  if k == [120, 102, 120] then (wrap64 (l - 1), wrap64 (l - 1)) else if k == [120, 102, 121] then (wrap64 (l - 1), l) else if k == [121, 102, 120] then (l, wrap64 (l - 1)) else if k == [102, 121] then (0, l) else if k == [102, 120] then (0, wrap64 (l - 1)) else (0, 0)

theorem side_walk (k : ByteArray) (w : World) : Calls Tryz.prog 65 #[.string k] w fun e w' => e = .returned (.int .i64 (sideB (bl k))) ∧ w = w' := by
  cases h1 : (k.toList == [120, 102, 120])
  · cases h2 : (k.toList == [120, 102, 121])
    · cases h3 : (k.toList == [121, 102, 120])
      · cases h4 : (k.toList == [102, 121])
        · cases h5 : (k.toList == [102, 120])
          · go_enter Tryz.func65, Tryz.ntmps65
            go_wp2
            go_ret
            refine ⟨ret_int ?_, rfl⟩
            rw [Lib.toList_data] at h1 h2 h3 h4 h5
            simp [sideB, bl, h1, h2, h3, h4, h5]
          · go_enter Tryz.func65, Tryz.ntmps65
            go_wp2
            go_ret
            refine ⟨ret_int ?_, rfl⟩
            rw [Lib.toList_data] at h1 h2 h3 h4 h5
            simp [sideB, bl, h1, h2, h3, h4, h5]
        · go_enter Tryz.func65, Tryz.ntmps65
          go_wp2
          go_ret
          refine ⟨ret_int ?_, rfl⟩
          rw [Lib.toList_data] at h1 h2 h3 h4
          simp [sideB, bl, h1, h2, h3, h4]
      · go_enter Tryz.func65, Tryz.ntmps65
        go_wp2
        go_ret
        refine ⟨ret_int ?_, rfl⟩
        rw [Lib.toList_data] at h1 h2 h3
        simp [sideB, bl, h1, h2, h3]
    · go_enter Tryz.func65, Tryz.ntmps65
      go_wp2
      go_ret
      refine ⟨ret_int ?_, rfl⟩
      rw [Lib.toList_data] at h1 h2
      simp [sideB, bl, h1, h2]
  · go_enter Tryz.func65, Tryz.ntmps65
    go_wp2
    go_ret
    refine ⟨ret_int ?_, rfl⟩
    rw [Lib.toList_data] at h1
    simp [sideB, bl, h1]

theorem tests_bl {n : ByteArray} {l : List UInt8} {b : Bool} (h : (n.toList == l) = b) : (bl n == l) = b := by rw [Lib.toList_data] at h; exact h
set_option maxRecDepth 100000
set_option maxHeartbeats 1000000 in
/-- May an operator be. -/
theorem may_walk (n k : ByteArray) (l : Int) (w : World) :
    Calls Tryz.prog 63 #[.agg #[.string n, .string k, .int .i64 l]] w fun e w' => e = .returned (.bool (mayB (bl n) (bl k) l)) ∧ Below w.heap.size w w' := by
  cases h0 : (n.toList == [44])
  · cases h1 : (n.toList == [])
    · cases h2 : (n.toList == [124])
      · cases h3 : (n.toList == [91, 93])
        · cases h4 : (n.toList == [123, 125])
          · have hE : mayB (bl n) (bl k) l = (decide ((n.size : Int) ≤ 64) && (sideB (bl k) != 0) && decide (1 ≤ l) && decide (l ≤ 1200)) := by
              unfold mayB; rw [tests_bl h0, tests_bl h1, tests_bl h2, tests_bl h3, tests_bl h4]; rfl
            rw [hE]; clear hE
            have hS := side_walk k
            obtain ⟨z, hz⟩ : ∃ z, sideB (bl k) = z := ⟨_, rfl⟩
            rw [hz]; rw [hz] at hS; clear hz
            have HS := Lib.hid hS; clear hS
            cases h5 : decide ((n.size : Int) ≤ 64)
            · go_enter Tryz.func63, Tryz.ntmps63
              go_wp2
              go_ret
              exact ⟨rfl, bel1' _ _⟩
            · cases h6 : (z != 0)
              · go_enter Tryz.func63, Tryz.ntmps63
                (go_wp2_with fail; go_fit (HS.out _); rintro e w' ⟨rfl, rfl⟩)
                go_wp2
                go_ret
                exact ⟨rfl, bel1' _ _⟩
              · cases h7 : decide (1 ≤ l)
                · go_enter Tryz.func63, Tryz.ntmps63
                  (go_wp2_with fail; go_fit (HS.out _); rintro e w' ⟨rfl, rfl⟩)
                  go_wp2
                  go_ret
                  exact ⟨rfl, bel1' _ _⟩
                · cases h8 : decide (l ≤ 1200)
                  · go_enter Tryz.func63, Tryz.ntmps63
                    (go_wp2_with fail; go_fit (HS.out _); rintro e w' ⟨rfl, rfl⟩)
                    go_wp2
                    go_ret
                    exact ⟨rfl, bel1' _ _⟩
                  · go_enter Tryz.func63, Tryz.ntmps63
                    (go_wp2_with fail; go_fit (HS.out _); rintro e w' ⟨rfl, rfl⟩)
                    go_wp2
                    go_ret
                    exact ⟨rfl, bel1' _ _⟩
          · have hE : mayB (bl n) (bl k) l = false := by unfold mayB; simp only [tests_bl h0, tests_bl h1, tests_bl h2, tests_bl h3, tests_bl h4, if_true]; rfl
            rw [hE]; clear hE
            go_enter Tryz.func63, Tryz.ntmps63
            go_wp2
            go_ret
            exact ⟨rfl, bel1' _ _⟩
        · have hE : mayB (bl n) (bl k) l = false := by unfold mayB; simp only [tests_bl h0, tests_bl h1, tests_bl h2, tests_bl h3, if_true]; rfl
          rw [hE]; clear hE
          go_enter Tryz.func63, Tryz.ntmps63
          go_wp2
          go_ret
          exact ⟨rfl, bel1' _ _⟩
      · have hE : mayB (bl n) (bl k) l = false := by unfold mayB; simp only [tests_bl h0, tests_bl h1, tests_bl h2, if_true]; rfl
        rw [hE]; clear hE
        go_enter Tryz.func63, Tryz.ntmps63
        go_wp2
        go_ret
        exact ⟨rfl, bel1' _ _⟩
    · have hE : mayB (bl n) (bl k) l = false := by unfold mayB; simp only [tests_bl h0, tests_bl h1, if_true]; rfl
      rw [hE]; clear hE
      go_enter Tryz.func63, Tryz.ntmps63
      go_wp2
      go_ret
      exact ⟨rfl, bel1' _ _⟩
  · have hE : mayB (bl n) (bl k) l = ((k.toList == [120, 102, 121]) && (l == 1000)) := by unfold mayB; rw [if_pos (tests_bl h0)]; rw [Lib.toList_data]
    rw [hE]; clear hE
    cases h1 : (k.toList == [120, 102, 121])
    · go_enter Tryz.func63, Tryz.ntmps63
      go_wp2
      go_ret
      exact ⟨rfl, bel1' _ _⟩
    · cases h2 : (l == 1000)
      · go_enter Tryz.func63, Tryz.ntmps63
        go_wp2
        go_ret
        exact ⟨rfl, bel1' _ _⟩
      · go_enter Tryz.func63, Tryz.ntmps63
        go_wp2
        go_ret
        exact ⟨rfl, bel1' _ _⟩

/-- What 'may' takes also a level of 0 for. -/
def lev (l : Int) : Int := if l == 0 then 1 else l
theorem sides_walk (n k : ByteArray) (l : Int) (w : World) :
    Calls Tryz.prog 68 #[.agg #[.string n, .string k, .int .i64 l]] w fun e w' => e = .returned (.tuple #[.int .i64 (sidesB (bl k) l).1, .int .i64 (sidesB (bl k) l).2]) ∧ Below w.heap.size w w' := by
  cases h1 : (k.toList == [120, 102, 120])
  · cases h2 : (k.toList == [120, 102, 121])
    · cases h3 : (k.toList == [121, 102, 120])
      · cases h4 : (k.toList == [102, 121])
        · cases h5 : (k.toList == [102, 120])
          · have hE : sidesB (bl k) l = (0, 0) := by unfold sidesB; simp only [tests_bl h1, tests_bl h2, tests_bl h3, tests_bl h4, tests_bl h5, if_true]; try rfl
            rw [hE]; clear hE
            go_enter Tryz.func68, Tryz.ntmps68
            go_wp2
            go_ret2
            exact ⟨rfl, by first | exact bel1' _ _ | exact bel_drewN (bel1' _ _) _⟩
          · have hE : sidesB (bl k) l = (0, wrap64 (l - 1)) := by unfold sidesB; simp only [tests_bl h1, tests_bl h2, tests_bl h3, tests_bl h4, tests_bl h5, if_true]; try rfl
            rw [hE]; clear hE
            go_enter Tryz.func68, Tryz.ntmps68
            go_wp2_with fail
            go_quiet (fail)
            go_wp2
            go_ret2
            exact ⟨rfl, by first | exact bel1' _ _ | exact bel_drewN (bel1' _ _) _⟩
        · have hE : sidesB (bl k) l = (0, l) := by unfold sidesB; simp only [tests_bl h1, tests_bl h2, tests_bl h3, tests_bl h4, if_true]; try rfl
          rw [hE]; clear hE
          go_enter Tryz.func68, Tryz.ntmps68
          go_wp2_with fail
          go_quiet (fail)
          go_wp2
          go_ret2
          exact ⟨rfl, by first | exact bel1' _ _ | exact bel_drewN (bel1' _ _) _⟩
      · have hE : sidesB (bl k) l = (l, wrap64 (l - 1)) := by unfold sidesB; simp only [tests_bl h1, tests_bl h2, tests_bl h3, if_true]; try rfl
        rw [hE]; clear hE
        go_enter Tryz.func68, Tryz.ntmps68
        go_wp2_with fail
        go_quiet (fail)
        go_wp2
        go_ret2
        exact ⟨rfl, by first | exact bel1' _ _ | exact bel_drewN (bel1' _ _) _⟩
    · have hE : sidesB (bl k) l = (wrap64 (l - 1), l) := by unfold sidesB; simp only [tests_bl h1, tests_bl h2, if_true]; try rfl
      rw [hE]; clear hE
      go_enter Tryz.func68, Tryz.ntmps68
      go_wp2_with fail
      go_quiet (fail)
      go_wp2
      go_ret2
      exact ⟨rfl, by first | exact bel1' _ _ | exact bel_drewN (bel1' _ _) _⟩
  · have hE : sidesB (bl k) l = (wrap64 (l - 1), wrap64 (l - 1)) := by unfold sidesB; simp only [tests_bl h1, if_true]; try rfl
    rw [hE]; clear hE
    go_enter Tryz.func68, Tryz.ntmps68
    go_wp2_with fail
    go_quiet (fail)
    go_wp2
    go_ret2
    exact ⟨rfl, by first | exact bel1' _ _ | exact bel_drewN (bel1' _ _) _⟩
end Go.Proofs.YtllpdciehoenaaaGreatDoor
/- Letter by letter, as chapter 6 says it, over lists of bytes: what stands next. Nothing here is walked. -/
namespace Go.Proofs.YtllpdciehoenaaaGreatDoor

def smallB (c : UInt8) : Bool := decide (97 ≤ c) && decide (c ≤ 122)
def greatB (c : UInt8) : Bool := (decide (65 ≤ c) && decide (c ≤ 90)) || c == 95
def digitB (c : UInt8) : Bool := decide (48 ≤ c) && decide (c ≤ 57)
def wordB (c : UInt8) : Bool := smallB c || greatB c || digitB c
def blankB (c : UInt8) : Bool := c == 32 || c == 9 || c == 10 || c == 13
def symB (c : UInt8) : Bool := [43, 45, 42, 47, 92, 94, 60, 62, 61, 126, 58, 46, 63, 64, 35, 38, 36].contains c
/-- What stands behind a full stop that is an end. -/
def endB (r : List UInt8) : Bool := match r with | [] => true | c :: _ => blankB c || c == 37
def openB (r : List UInt8) : Bool := match r with | [] => false | c :: _ => c == 40
/-- As many symbols as follow. -/
def symRun : List UInt8 → Nat
  | [] => 0
  | c :: r => if symB c && !(c == 46 && endB r) then symRun r + 1 else 0
/-- What a letter behind a '\' stands for. -/
def escB (c : UInt8) : Option UInt8 := if c == 110 then some 10 else if c == 116 then some 9 else if c == 92 then some 92 else if c == 39 then some 39 else none
/-- Behind the first quote: what it stands for, how many bytes to behind the last quote. -/
def quoB : List UInt8 → Option (List UInt8 × Nat)
  | [] => none
  | [c] => if c == 39 then some ([], 1) else none
  | c :: d :: r =>
    if c == 39 then (if d == 39 then (quoB r).map fun p => (39 :: p.1, p.2 + 2) else some ([], 1))
    else if c == 92 then (match escB d with | none => none | some e => (quoB r).map fun p => (e :: p.1, p.2 + 2))
    else if decide (32 ≤ c) && decide (c ≤ 126) then (quoB (d :: r)).map fun p => (c :: p.1, p.2 + 1) else none
def numB (l : List UInt8) : Nat := l.foldl (fun n c => n * 10 + (c.toNat - 48)) 0

structure TokB where
  kind : Nat
  text : List UInt8
  n : Nat
  len : Nat
  opens : Bool
/-- What stands next: so many bytes are passed over; a token; nothing that may be. -/
inductive NextB where
  | skip (k : Nat)
  | tok (t : TokB)
  | bad (over : Bool)

def tokB (kind : Nat) (text : List UInt8) (n k : Nat) (s : List UInt8) : NextB := .tok ⟨kind, text, n, k, openB (s.drop k)⟩
def nameB (k : Nat) (s : List UInt8) : NextB := if decide (k ≤ 64) then tokB 1 (s.take k) 0 k s else .bad true
def nextC (c : UInt8) (r : List UInt8) : NextB :=
    if blankB c then .skip 1
    else if c == 37 then .skip ((r.takeWhile fun x => x != 10).length + 1)
    else if smallB c then nameB ((r.takeWhile wordB).length + 1) (c :: r)
    else if greatB c then tokB 3 ((c :: r).take ((r.takeWhile wordB).length + 1)) 0 ((r.takeWhile wordB).length + 1) (c :: r)
    else if digitB c then
      if decide (numB ((c :: r).take ((r.takeWhile digitB).length + 1)) ≤ 9223372036854775807) then tokB 4 [] (numB ((c :: r).take ((r.takeWhile digitB).length + 1))) ((r.takeWhile digitB).length + 1) (c :: r) else .bad true
    else if c == 39 then
      match quoB r with
      | none => .bad false
      | some p => if decide (p.1.length ≤ 64) then tokB 2 p.1 0 (p.2 + 1) (c :: r) else .bad true
    else if c == 46 && endB r then tokB 6 [] 0 1 (c :: r)
    else if symB c then nameB (symRun (c :: r)) (c :: r)
    else if c == 59 || c == 33 then nameB 1 (c :: r)
    else if (c == 91 && r.head? == some 93) || (c == 123 && r.head? == some 125) then nameB 2 (c :: r)
    else if [40, 41, 91, 93, 123, 125, 44, 124].contains c then tokB 5 [c] 0 1 (c :: r)
    else .bad false
def nextB : List UInt8 → NextB
  | [] => .skip 0
  | c :: r => nextC c r

/-! A line's end behind the text changes nothing. -/
theorem tw_nl (p : UInt8 → Bool) (hp : p 10 = false) (b : List UInt8) : ∀ r : List UInt8, (r ++ 10 :: b).takeWhile p = r.takeWhile p
  | [] => by simp [hp]
  | c :: r => by
    simp only [List.cons_append, List.takeWhile_cons]
    rw [tw_nl p hp b r]
theorem tw_le (p : UInt8 → Bool) : ∀ r : List UInt8, (r.takeWhile p).length ≤ r.length
  | [] => by simp
  | c :: r => by
    rw [List.takeWhile_cons]
    split
    · have := tw_le p r
      simp
      omega
    · simp
theorem end_nl (b : List UInt8) (r : List UInt8) : endB (r ++ 10 :: b) = endB r := by
  cases r <;> rfl
theorem open_nl (b : List UInt8) (r : List UInt8) : openB (r ++ 10 :: b) = openB r := by
  cases r <;> rfl
theorem sym_nl (b : List UInt8) : ∀ r : List UInt8, symRun (r ++ 10 :: b) = symRun r
  | [] => rfl
  | c :: r => by
    rw [List.cons_append, symRun, symRun, end_nl, sym_nl b r]
theorem sym_le : ∀ r : List UInt8, symRun r ≤ r.length
  | [] => Nat.le_refl _
  | c :: r => by
    rw [symRun]
    split
    · have := sym_le r
      simp
      omega
    · simp
theorem quo_nl (b : List UInt8) : ∀ (n : Nat) (r : List UInt8), r.length ≤ n → ∀ p, quoB r = some p → quoB (r ++ 10 :: b) = some p ∧ p.2 ≤ r.length
  | 0, r, hn => fun p h => by
    obtain rfl : r = [] := List.length_eq_zero_iff.1 (by omega)
    simp [quoB] at h
  | n + 1, [], hn => fun p h => by simp [quoB] at h
  | n + 1, [c], hn => fun p h => by
    rw [quoB] at h
    split at h
    · rename_i hc
      cases h
      refine ⟨?_, by simp⟩
      show quoB (c :: 10 :: b) = _
      rw [quoB, if_pos hc]
      rfl
    · cases h
  | n + 1, c :: d :: r, hn => fun p h => by
    have hr : r.length ≤ n := by simp at hn; omega
    have hd : (d :: r).length ≤ n := by simp at hn ⊢; omega
    rw [quoB] at h
    show quoB (c :: d :: (r ++ 10 :: b)) = _ ∧ _
    rw [quoB]
    split at h
    · rename_i hc
      rw [if_pos hc]
      split at h
      · rename_i hd'
        rw [if_pos hd']
        obtain ⟨q, hq, rfl⟩ := Option.map_eq_some_iff.1 h
        obtain ⟨h1, h2⟩ := quo_nl b n r hr q hq
        rw [h1]
        exact ⟨rfl, by simp; omega⟩
      · rename_i hd'
        rw [if_neg hd']
        cases h
        exact ⟨rfl, by simp⟩
    · rename_i hc
      rw [if_neg hc]
      split at h
      · rename_i hc2
        rw [if_pos hc2]
        cases he : escB d with
        | none => rw [he] at h; cases h
        | some e =>
          rw [he] at h
          obtain ⟨q, hq, rfl⟩ := Option.map_eq_some_iff.1 h
          obtain ⟨h1, h2⟩ := quo_nl b n r hr q hq
          simp only [h1]
          exact ⟨rfl, by simp; omega⟩
      · rename_i hc2
        rw [if_neg hc2]
        split at h
        · rename_i hc3
          rw [if_pos hc3]
          obtain ⟨q, hq, rfl⟩ := Option.map_eq_some_iff.1 h
          obtain ⟨h1, h2⟩ := quo_nl b n (d :: r) hd q hq
          rw [List.cons_append] at h1
          rw [h1]
          exact ⟨rfl, by simp at h2 ⊢; omega⟩
        · cases h
theorem take_nl (b : List UInt8) {r : List UInt8} {k : Nat} (hk : k ≤ r.length) : (r ++ 10 :: b).take k = r.take k := by
  rw [List.take_append_of_le_length hk]
theorem drop_open (b : List UInt8) {r : List UInt8} {k : Nat} (hk : k ≤ r.length) : openB ((r ++ 10 :: b).drop k) = openB (r.drop k) := by
  rw [List.drop_append_of_le_length hk, open_nl]
theorem tok_nl (b : List UInt8) (kind : Nat) (text : List UInt8) (n k : Nat) {s : List UInt8} (hk : k ≤ s.length) : tokB kind text n k (s ++ 10 :: b) = tokB kind text n k s := by
  unfold tokB
  rw [drop_open b hk]
theorem name_nl (b : List UInt8) (k : Nat) {s : List UInt8} (hk : k ≤ s.length) : nameB k (s ++ 10 :: b) = nameB k s := by
  unfold nameB
  rw [take_nl b hk, tok_nl b _ _ _ _ hk]
/-- What is right at a text's end is so at a line's end. -/
theorem next_nl (b : List UInt8) (c : UInt8) (r : List UInt8) (h : ∀ o, nextB (c :: r) ≠ .bad o) : nextB (c :: r ++ 10 :: b) = nextB (c :: r) := by
  have hw := tw_le wordB r
  have hg := tw_le digitB r
  have hsy := sym_le (c :: r)
  have e1 := tw_nl wordB (by decide) b r
  have e2 := tw_nl digitB (by decide) b r
  have e3 := tw_nl (fun x => x != 10) (by decide) b r
  have e4 := sym_nl b (c :: r)
  rw [List.cons_append] at e4
  rw [List.cons_append]
  show nextC c (r ++ 10 :: b) = nextC c r
  replace h : ∀ o, nextC c r ≠ .bad o := h
  unfold nextC at h ⊢
  rw [e1, e2, e3, e4, end_nl]
  rw [show c :: (r ++ 10 :: b) = (c :: r) ++ 10 :: b from rfl]
  have hl : (c :: r).length = r.length + 1 := rfl
  by_cases h1 : blankB c = true
  · rw [if_pos h1, if_pos h1]
  rw [if_neg h1] at h
  rw [if_neg h1, if_neg h1]
  by_cases h2 : (c == 37) = true
  · rw [if_pos h2, if_pos h2]
  rw [if_neg h2] at h
  rw [if_neg h2, if_neg h2]
  by_cases h3 : smallB c = true
  · rw [if_pos h3, if_pos h3]
    exact name_nl b _ (by omega)
  rw [if_neg h3] at h
  rw [if_neg h3, if_neg h3]
  by_cases h4 : greatB c = true
  · rw [if_pos h4, if_pos h4]
    rw [take_nl b (by omega), tok_nl b _ _ _ _ (by omega)]
  rw [if_neg h4] at h
  rw [if_neg h4, if_neg h4]
  by_cases h5 : digitB c = true
  · rw [if_pos h5, if_pos h5]
    rw [take_nl b (by omega), tok_nl b _ _ _ _ (by omega)]
  rw [if_neg h5] at h
  rw [if_neg h5, if_neg h5]
  by_cases h6 : (c == 39) = true
  · rw [if_pos h6, if_pos h6]
    rw [if_pos h6] at h
    cases hq : quoB r with
    | none => rw [hq] at h; exact absurd rfl (h false)
    | some p =>
      obtain ⟨g1, g2⟩ := quo_nl b r.length r (Nat.le_refl _) p hq
      simp only [g1]
      rw [tok_nl b _ _ _ _ (by omega)]
  rw [if_neg h6] at h
  rw [if_neg h6, if_neg h6]
  by_cases h7 : (c == 46 && endB r) = true
  · rw [if_pos h7, if_pos h7]
    exact tok_nl b _ _ _ _ (by simp)
  rw [if_neg h7] at h
  rw [if_neg h7, if_neg h7]
  by_cases h8 : symB c = true
  · rw [if_pos h8, if_pos h8]
    exact name_nl b _ hsy
  rw [if_neg h8] at h
  rw [if_neg h8, if_neg h8]
  by_cases h9 : (c == 59 || c == 33) = true
  · rw [if_pos h9, if_pos h9]
    exact name_nl b _ (by simp)
  rw [if_neg h9] at h
  rw [if_neg h9, if_neg h9]
  have hh : ((c == 91 && (r ++ 10 :: b).head? == some 93) || (c == 123 && (r ++ 10 :: b).head? == some 125)) = ((c == 91 && r.head? == some 93) || (c == 123 && r.head? == some 125)) := by
    cases r with
    | nil => cases (c == 91) <;> cases (c == 123) <;> rfl
    | cons d r => rfl
  rw [hh]
  by_cases h10 : ((c == 91 && r.head? == some 93) || (c == 123 && r.head? == some 125)) = true
  · rw [if_pos h10, if_pos h10]
    refine name_nl b _ ?_
    cases r with
    | nil => simp at h10
    | cons d r => simp
  rw [if_neg h10] at h
  rw [if_neg h10, if_neg h10]
  by_cases h11 : [40, 41, 91, 93, 123, 125, 44, 124].contains c = true
  · rw [if_pos h11, if_pos h11]
    exact tok_nl b _ _ _ _ (by simp)
  rw [if_neg h11, if_neg h11]
end Go.Proofs.YtllpdciehoenaaaGreatDoor
