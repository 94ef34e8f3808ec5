import Derived.Lib.Hide
import Derived.WalkKit
import Derived.WalkSpells
import Derived.WalkLawsBesides
import Derived.ProofKit
import Derived.OpenShut
import Derived.SizedLaws
import Derived.SliceStrings
import Derived.Carry
import Derived.Stop.Joined
import Derived.Deep.Slices
import Derived.Test.YtchbbaehdcmcfaaRows
import Derived.Maps.AppendAt
import Derived.Laws.CopyOwn
import Derived.Laws.CopyRow
import Derived.Laws.Pointers
import Derived.Deep.OwnRows
import Derived.Deep.QuietTactic
import Derived.BigQuiet
import Derived.OwnWalk
import Derived.Deep.Upon
import Derived.Deep.AppendSrc
import Derived.WideKeyPair
import Derived.DeepKeys4
import Derived.Laws.ResultCell
set_option linter.unusedVariables false
set_option linter.unusedSimpArgs false
/- Terms as trees, as chapter 7 says them. Nothing here is walked. -/
namespace Go.Proofs.Ytchbbaehdcmcfaa
inductive Tm where
 | mk (k n : Int) (s : ByteArray) (ts : List Tm)
namespace Tm
def k : Tm → Int | mk k _ _ _ => k
def n : Tm → Int | mk _ n _ _ => n
def s : Tm → ByteArray | mk _ _ s _ => s
def args : Tm → List Tm | mk _ _ _ ts => ts
end Tm
mutual
def sizeN : Tm → Nat
 | .mk _ _ _ ts => sizesN ts + 1
def sizesN : List Tm → Nat
 | [] => 0
 | x :: r => sizeN x + sizesN r
end
mutual
def depthN : Tm → Nat
 | .mk _ _ _ ts => depthsN ts + 1
def depthsN : List Tm → Nat
 | [] => 0
 | x :: r => max (depthN x) (depthsN r)
end
def letterB (c : UInt8) : Bool := c == 9 || c == 10 || (decide (32 ≤ c) && decide (c ≤ 126))
def plainT (k n : Int) (s : List UInt8) (m : Nat) : Bool :=
 if k = 0 then decide (0 ≤ n) && decide (n < 2147483648) && s.isEmpty && decide (m = 0)
 else if k = 1 then s.isEmpty && decide (m = 0)
 else if k = 2 then decide (n = 0) && decide (s.length ≤ 64) && decide (m ≤ 8) && s.all letterB
 else false
mutual
def formedT : Tm → Bool
 | .mk k n s ts => plainT k n s.data.toList ts.length && formedL ts
def formedL : List Tm → Bool
 | [] => true
 | x :: r => formedT x && formedL r
end
def goodT (t : Tm) : Bool := decide (sizeN t ≤ 2000) && decide (depthN t ≤ 64) && formedT t
theorem size_pos (t : Tm) : 1 ≤ sizeN t := by cases t; rw [sizeN]; omega
theorem depth_pos (t : Tm) : 1 ≤ depthN t := by cases t; rw [depthN]; omega
theorem sizes_mem : ∀ {l : List Tm} {x : Tm}, x ∈ l → sizeN x ≤ sizesN l
 | y :: r, x, h => by
  rw [sizesN]
  rcases List.mem_cons.1 h with rfl | h
  ·omega
  ·have := sizes_mem h; omega
theorem depths_mem : ∀ {l : List Tm} {x : Tm}, x ∈ l → depthN x ≤ depthsN l
 | y :: r, x, h => by
  rw [depthsN]
  rcases List.mem_cons.1 h with rfl | h
  ·omega
  ·have := depths_mem h; omega
theorem formed_mem : ∀ {l : List Tm} {x : Tm}, formedL l = true → x ∈ l → formedT x = true
 | y :: r, x, hf, h => by
  rw [formedL, Bool.and_eq_true] at hf
  rcases List.mem_cons.1 h with rfl | h
  ·exact hf.1
  ·exact formed_mem hf.2 h
theorem good_parts {t : Tm} (h : goodT t = true) : sizeN t ≤ 2000 ∧ depthN t ≤ 64 ∧ formedT t = true := by
 unfold goodT at h
 simp only [Bool.and_eq_true, decide_eq_true_eq] at h
 exact ⟨h.1.1, h.1.2, h.2⟩
theorem good_of {t : Tm} (h1 : sizeN t ≤ 2000) (h2 : depthN t ≤ 64) (h3 : formedT t = true) : goodT t = true := by
 unfold goodT
 simp [h1, h2, h3]
theorem good_arg {t x : Tm} (h : goodT t = true) (hx : x ∈ t.args) : goodT x = true := by
 obtain ⟨h1, h2, h3⟩ := good_parts h
 cases t with
 | mk k n s ts =>
  have hx' : x ∈ ts := hx
  rw [sizeN] at h1
  rw [depthN] at h2
  rw [formedT, Bool.and_eq_true] at h3
  have a := sizes_mem hx'
  have b := depths_mem hx'
  exact good_of (by omega) (by omega) (formed_mem h3.2 hx')
theorem bytes_eq {s t : ByteArray} (h : s.data.toList = t.data.toList) : s = t := by
 obtain ⟨⟨l⟩⟩ := s; obtain ⟨⟨m⟩⟩ := t; simp at h; rw [h]
end Go.Proofs.Ytchbbaehdcmcfaa
/- What stands for what, as chapter 11 says it: all the way in at once. Nothing here is walked. -/
namespace Go.Proofs.Ytchbbaehdcmcfaa
def varV (n : Int) : Tm := .mk 0 n ⟨#[]⟩ []
mutual
def occT : Tm → List Int
 | .mk k n _ ts => if k = 0 then [n] else occL ts
def occL : List Tm → List Int
 | [] => []
 | x :: r => occT x ++ occL r
end
end Go.Proofs.Ytchbbaehdcmcfaa
/- Has, as chapter 11 says it, over terms that are made whole; a search that keeps a pile and knows what it has seen; what reaches what. Nothing here is walked. -/
namespace Go.Proofs.Ytchbbaehdcmcfaa
structure Pl where
 t : Tm
 ends : Bool
 frm : Nat
def left (seen : List Int) : List (Int × Tm) → Nat
 | [] => 0
 | p :: R => (if p.1 ∈ seen then 0 else (occT p.2).length + 2) + left seen R
end Go.Proofs.Ytchbbaehdcmcfaa
/- The term of a variable 0, a name (of chapter 14's pure text nothing else is wanted here). Nothing here is walked. -/
namespace Go.Proofs.Ytchbbaehdcmcfaa
def nameT (s : ByteArray) (ts : List Tm) : Tm := .mk 2 0 s ts
end Go.Proofs.Ytchbbaehdcmcfaa
/- Chapter 15, what a head's steps are and that they make the head again. Nothing here is walked. -/
namespace Go.Proofs.Ytchbbaehdcmcfaa
set_option linter.unusedVariables false
theorem formed_kids {t : Tm} (h : formedT t = true) : (t.k = 0 ∧ t = varV t.n) ∨ (t.k = 1 ∧ t = .mk 1 t.n ⟨#[]⟩ []) ∨ (t.k = 2 ∧ t = nameT t.s t.args) := by
 obtain ⟨k, n, s, ts⟩ := t
 rw [formedT, Bool.and_eq_true] at h
 have hp := h.1
 unfold plainT at hp
 by_cases h0 : k = 0
 ·rw [if_pos h0] at hp
  simp only [Bool.and_eq_true, decide_eq_true_eq, List.isEmpty_iff] at hp
  left
  refine ⟨h0, ?_⟩
  subst h0
  obtain rfl : ts = [] := List.length_eq_zero_iff.1 hp.2
  obtain rfl : s = ⟨#[]⟩ := bytes_eq hp.1.2
  rfl
 ·rw [if_neg h0] at hp
  by_cases h1 : k = 1
  ·rw [if_pos h1] at hp
   simp only [Bool.and_eq_true, decide_eq_true_eq, List.isEmpty_iff] at hp
   right; left
   refine ⟨h1, ?_⟩
   subst h1
   obtain rfl : ts = [] := List.length_eq_zero_iff.1 hp.2
   obtain rfl : s = ⟨#[]⟩ := bytes_eq hp.1
   rfl
  ·rw [if_neg h1] at hp
   by_cases h2 : k = 2
   ·rw [if_pos h2] at hp
    simp only [Bool.and_eq_true, decide_eq_true_eq] at hp
    right; right
    refine ⟨h2, ?_⟩
    subst h2
    obtain rfl : n = 0 := hp.1.1.1
    rfl
   ·rw [if_neg h2] at hp; cases hp
end Go.Proofs.Ytchbbaehdcmcfaa
/- Chapter 16, keys: pure. Nothing here is walked. -/
namespace Go.Proofs.Ytchbbaehdcmcfaa
set_option linter.unusedVariables false
structure KeyM where
 k : Int
 n : Int
 s : ByteArray
 ar : Int
def zeroKey : KeyM := ⟨0, 0, ⟨#[]⟩, 0⟩
def argKey (a : Tm) : KeyM := if a.k = 0 then zeroKey else if a.k = 1 then ⟨1, a.n, ⟨#[]⟩, 0⟩ else ⟨2, 0, a.s, (a.args.length : Nat)⟩
def keyT (t : Tm) : KeyM := if goodT t = true then (match t.args with
 | [] => zeroKey
 | a :: _ => argKey a) else zeroKey
def sameKey (a b : KeyM) : Bool := a.k == b.k && a.n == b.n && a.s.data.toList == b.s.data.toList && a.ar == b.ar
def mayK (a b : KeyM) : Bool := a.k == 0 || b.k == 0 || sameKey a b
theorem sameKey_self (a : KeyM) : sameKey a a = true := by unfold sameKey; simp
theorem mayK_self (a : KeyM) : mayK a a = true := by unfold mayK; rw [sameKey_self]; simp
def pickF (k : KeyM) : List KeyM → Nat → List Int
 | [], _ => []
 | a :: l, i => if mayK a k = true then (i : Int) :: pickF k l (i + 1) else pickF k l (i + 1)
theorem pickF_app (k : KeyM) : ∀ (a b : List KeyM) (i : Nat), pickF k (a ++ b) i = pickF k a i ++ pickF k b (i + a.length)
 | [], b, i => by rw [List.nil_append, pickF, List.nil_append]; rfl
 | x :: a, b, i => by
  rw [List.cons_append, pickF, pickF, pickF_app k a b (i + 1), List.length_cons, show i + 1 + a.length = i + (a.length + 1) by omega]
  split <;> rfl
theorem pickF_snoc (k x : KeyM) (a : List KeyM) : pickF k (a ++ [x]) 0 = pickF k a 0 ++ (if mayK x k = true then [(a.length : Int)] else []) := by
 rw [pickF_app, pickF, pickF, Nat.zero_add]
end Go.Proofs.Ytchbbaehdcmcfaa
/- Small facts of ours about endings, byte strings and slices of strings in memory; nothing here speaks of one program. -/
namespace Go.Proofs.Ytchbbaehdcmcfaa
open Go.RowKit
theorem ret_bool {a b : Bool} (h : a = b) : Ending.returned (.bool a) = .returned (.bool b) := by rw [h]
abbrev Ext (W w : World) : Prop := Below W.heap.size W w
theorem Ext.trans' {a b c : World} (h : Below a.heap.size a b) (k : Below b.heap.size b c) : Below a.heap.size a c := h.trans (k.mono h.size)
end Go.Proofs.Ytchbbaehdcmcfaa
/- How the arguments of a law are opened: from the form's reading to our own predicates. Nothing here speaks of one program. -/
namespace Go.Proofs.Ytchbbaehdcmcfaa
open Go.RowKit Go.ChangeShapes Go.WideShapes Go.ChangeAt
def IsBool (W : World) (b : Bool) (e : Ending) (w' : World) : Prop := e = .returned (.bool b) ∧ Below W.heap.size W w'
section
variable {H : Type} {enc : TypeId × Value → H} {P : Program} {W : World}
theorem weights_ok {ts : List TypeId} {ds : List (DataW H)} (h : (DataW.weightsEach P ts ds).all (· ≤ reachBytes) = true) {j : Nat} {t : TypeId} {d : DataW H} (ht : ts[j]? = some t) (hd : ds[j]? = some d) :
  ∀ n ∈ d.weights P t, n ≤ 140737488351232 := fun n hn => by
 have := List.all_eq_true.1 h n (DataW.weights_mem_each ht hd n hn)
 have e : reachBytes = 140737488351232 := by decide
 simpa [e] using this
theorem weights_all_mem {e : TypeId} : ∀ {l : List (DataW H)} {d : DataW H}, d ∈ l → ∀ n ∈ d.weights P e, n ∈ DataW.weightsAll P e l
 | a :: r, d, h, n, hn => by
  simp only [DataW.weightsAll, List.mem_append]
  rcases List.mem_cons.1 h with rfl | h
  ·exact Or.inl hn
  ·exact Or.inr (weights_all_mem h n hn)
theorem lt_of_trod {t : TypeId} {v : Value} {d : DataW H} {ps : List MemPlace} (h : DataW.Trod enc P W 0 (fun _ => true) true t v d ps) : ∀ x ∈ ps, x.block < W.heap.size := by
 obtain ⟨m, hm⟩ := h; exact DataW.trod_lt m _ _ _ hm
theorem add_plain (b o i : Nat) : (⟨b, o, none⟩ : Addr).add i = ⟨b, o + i, none⟩ := by
 unfold Addr.add; split
 ·rename_i h; rw [h]; rfl
 ·rfl
theorem spot_of_cell {w : World} {x : Addr} {v : Value} (h : w.cell? (x.add 0) = some v) : x.spot = none := by
 rcases x with ⟨xb, xo, xs⟩
 cases xs with
 | none => rfl
 | some q =>
  exfalso
  rw [show (⟨xb, xo, some q⟩ : Addr).add 0 = ⟨xb, xo, some q⟩ from rfl] at h
  unfold World.cell? at h
  split at h <;> simp at h
end
end Go.Proofs.Ytchbbaehdcmcfaa
/- A slice of whatever elements that came in, opened element by element. Nothing here speaks of one program. -/
namespace Go.Proofs.Ytchbbaehdcmcfaa
open Go.RowKit Go.ChangeShapes Go.WideShapes Go.ChangeAt Go.Deep
def Elems {α : Type} (S : Nat) (cells : α → List Value) (w : World) (v : Value) (xs : List α) : Prop :=
 ∃ (a : Option Addr) (cap : Nat), v = .slice a xs.length cap ∧ xs.length ≤ cap ∧ cap ≤ maxLen ∧
  (xs = [] ∨ ∃ b off, a = some ⟨b, off, none⟩ ∧ b < w.heap.size ∧ ∀ (i : Nat) (x : α), xs[i]? = some x → ∀ (j : Nat) (u : Value), (cells x)[j]? = some u → w.cell? ⟨b, off + (i * S + j), none⟩ = some u)
theorem Elems.ext {α : Type} {S : Nat} {cells : α → List Value} {w w' : World} {v : Value} {xs : List α} (h : Elems S cells w v xs) (hb : Below w.heap.size w w') : Elems S cells w' v xs := by
 obtain ⟨a, cap, h1, h2, h3, h6⟩ := h
 refine ⟨a, cap, h1, h2, h3, ?_⟩
 rcases h6 with h6 | ⟨b, off, e1, e2, e3⟩
 ·exact Or.inl h6
 ·exact Or.inr ⟨b, off, e1, Nat.lt_of_lt_of_le e2 hb.size, fun i x hx j u hu => cell_later hb (e3 i x hx j u hu)⟩
theorem list_choose {α : Type} {Q : Nat → α → Prop} : ∀ n : Nat, (∀ i, i < n → ∃ x, Q i x) → ∃ xs : List α, xs.length = n ∧ ∀ i x, xs[i]? = some x → Q i x
 | 0, _ => ⟨[], rfl, by simp⟩
 | n + 1, h => by
  obtain ⟨xs, hl, hx⟩ := list_choose n (fun i hi => h i (by omega))
  obtain ⟨y, hy⟩ := h n (by omega)
  refine ⟨xs ++ [y], by simp [hl], fun i x hi => ?_⟩
  by_cases hlt : i < xs.length
  ·rw [List.getElem?_append_left hlt] at hi; exact hx i x hi
  ·rw [List.getElem?_append_right (by omega)] at hi
   have hm := (List.getElem?_eq_some_iff.1 hi).1
   simp at hm
   have e : i = n := by omega
   subst e
   rw [hl, Nat.sub_self] at hi
   simp at hi; subst hi; exact hy
section
variable {H : Type} {enc : TypeId × Value → H} {P : Program} {W : World}
end
end Go.Proofs.Ytchbbaehdcmcfaa
/- Terms in memory. Nothing here speaks of one program. -/
namespace Go.Proofs.Ytchbbaehdcmcfaa
open Go.RowKit
abbrev BIG : Nat := 140737488351232
def I64 (n : Int) : Prop := -9223372036854775808 ≤ n ∧ n ≤ 9223372036854775807
mutual
def TmV (w : World) : Tm → Value → Prop
  | .mk k n s ts, v => ∃ (a : Option Addr) (c : Nat), v = .agg #[.int .i64 k, .int .i64 n, .string s, .slice a ts.length c] ∧ ts.length ≤ c ∧ c ≤ maxLen ∧ ts.length * 56 ≤ BIG ∧ s.size ≤ BIG ∧ I64 k ∧ I64 n ∧
      (ts = [] ∨ ∃ b off, a = some ⟨b, off, none⟩ ∧ b < w.heap.size ∧ TmRow w ts b off)
def TmRow (w : World) : List Tm → Nat → Nat → Prop
 | [], _, _ => True
 | x :: r, b, off => (∃ c0 c1 c2 c3, w.cell? ⟨b, off, none⟩ = some c0 ∧ w.cell? ⟨b, off + 1, none⟩ = some c1 ∧ w.cell? ⟨b, off + 2, none⟩ = some c2 ∧ w.cell? ⟨b, off + 3, none⟩ = some c3 ∧ TmV w x (.agg #[c0, c1, c2, c3])) ∧ TmRow w r b (off + 4)
end
def Tms (w : World) (v : Value) (l : List Tm) : Prop :=
 ∃ (a : Option Addr) (c : Nat), v = .slice a l.length c ∧ l.length ≤ c ∧ c ≤ maxLen ∧ l.length * 56 ≤ BIG ∧ (l = [] ∨ ∃ b off, a = some ⟨b, off, none⟩ ∧ b < w.heap.size ∧ TmRow w l b off)
theorem tmV_iff {w : World} {k n : Int} {s : ByteArray} {ts : List Tm} {v : Value} : TmV w (.mk k n s ts) v ↔ ∃ u, v = .agg #[.int .i64 k, .int .i64 n, .string s, u] ∧ s.size ≤ BIG ∧ I64 k ∧ I64 n ∧ Tms w u ts := by
 rw [TmV]
 constructor
 ·rintro ⟨a, c, h1, h2, h3, h4, h5, h6, h7, h8⟩
  exact ⟨_, h1, h5, h6, h7, a, c, rfl, h2, h3, h4, h8⟩
 ·rintro ⟨u, h1, h5, h6, h7, a, c, rfl, h2, h3, h4, h8⟩
  exact ⟨a, c, h1, h2, h3, h4, h5, h6, h7, h8⟩
theorem TmRow.get {w : World} : ∀ {l : List Tm} {b off : Nat}, TmRow w l b off → ∀ (i : Nat) (x : Tm), l[i]? = some x →
  ∃ c0 c1 c2 c3, w.cell? ⟨b, off + i * 4, none⟩ = some c0 ∧ w.cell? ⟨b, off + i * 4 + 1, none⟩ = some c1 ∧ w.cell? ⟨b, off + i * 4 + 2, none⟩ = some c2 ∧ w.cell? ⟨b, off + i * 4 + 3, none⟩ = some c3 ∧ TmV w x (.agg #[c0, c1, c2, c3])
 | [], b, off, _, i, x, hx => by simp at hx
 | y :: r, b, off, h, 0, x, hx => by
  simp at hx
  subst hx
  rw [TmRow] at h
  rw [Nat.zero_mul, Nat.add_zero]
  exact h.1
 | y :: r, b, off, h, i + 1, x, hx => by
  rw [TmRow] at h
  have := TmRow.get h.2 i x (by simpa using hx)
  rw [show off + (i + 1) * 4 = off + 4 + i * 4 by omega]
  exact this
theorem TmRow.mk {w : World} : ∀ {l : List Tm} {b off : Nat}, (∀ (i : Nat) (x : Tm), l[i]? = some x →
  ∃ c0 c1 c2 c3, w.cell? ⟨b, off + i * 4, none⟩ = some c0 ∧ w.cell? ⟨b, off + i * 4 + 1, none⟩ = some c1 ∧ w.cell? ⟨b, off + i * 4 + 2, none⟩ = some c2 ∧ w.cell? ⟨b, off + i * 4 + 3, none⟩ = some c3 ∧ TmV w x (.agg #[c0, c1, c2, c3])) → TmRow w l b off
 | [], b, off, _ => by rw [TmRow]; trivial
 | y :: r, b, off, h => by
  rw [TmRow]
  refine ⟨?_, TmRow.mk fun i x hx => ?_⟩
  ·have := h 0 y rfl
   rw [Nat.zero_mul, Nat.add_zero] at this
   exact this
  ·have := h (i + 1) x (by simpa using hx)
   rw [show off + (i + 1) * 4 = off + 4 + i * 4 by omega] at this
   exact this
mutual
theorem TmV.ext {w w' : World} (hb : Below w.heap.size w w') : ∀ (x : Tm) (v : Value), TmV w x v → TmV w' x v
 | .mk k n s ts, v, h => by
  rw [TmV] at h ⊢
  obtain ⟨a, c, h1, h2, h3, h4, h5, h6, h7, h8⟩ := h
  refine ⟨a, c, h1, h2, h3, h4, h5, h6, h7, ?_⟩
  rcases h8 with h8 | ⟨b, off, e1, e2, e3⟩
  ·exact Or.inl h8
  ·exact Or.inr ⟨b, off, e1, Nat.lt_of_lt_of_le e2 hb.size, TmRow.ext hb ts b off e3⟩
theorem TmRow.ext {w w' : World} (hb : Below w.heap.size w w') : ∀ (l : List Tm) (b off : Nat), TmRow w l b off → TmRow w' l b off
 | [], b, off, _ => by rw [TmRow]; trivial
 | x :: r, b, off, h => by
  rw [TmRow] at h ⊢
  obtain ⟨⟨c0, c1, c2, c3, h0, h1, h2, h3, h4⟩, h5⟩ := h
  exact ⟨⟨c0, c1, c2, c3, cell_later hb h0, cell_later hb h1, cell_later hb h2, cell_later hb h3, TmV.ext hb x _ h4⟩, TmRow.ext hb r b (off + 4) h5⟩
end
theorem Tms.ext {w w' : World} {v : Value} {l : List Tm} (h : Tms w v l) (hb : Below w.heap.size w w') : Tms w' v l := by
 obtain ⟨a, c, h1, h2, h3, h4, h5⟩ := h
 refine ⟨a, c, h1, h2, h3, h4, ?_⟩
 rcases h5 with h5 | ⟨b, off, e1, e2, e3⟩
 ·exact Or.inl h5
 ·exact Or.inr ⟨b, off, e1, Nat.lt_of_lt_of_le e2 hb.size, TmRow.ext hb l b off e3⟩
theorem Tms.nil (w : World) : Tms w (.slice none 0 0) [] := ⟨none, 0, rfl, Nat.le_refl _, Nat.zero_le _, by simp, Or.inl rfl⟩
theorem Tms.get {w : World} {a : Option Addr} {m c : Nat} {l : List Tm} (h : Tms w (.slice a m c) l) {i : Nat} {x : Tm} (hx : l[i]? = some x) :
  ∃ b off k n s u, a = some ⟨b, off, none⟩ ∧ b < w.heap.size ∧ x.k = k ∧ x.n = n ∧ x.s = s ∧ w.cell? ⟨b, off + i * 4, none⟩ = some (.int .i64 k) ∧ w.cell? ⟨b, off + i * 4 + 1, none⟩ = some (.int .i64 n) ∧ w.cell? ⟨b, off + i * 4 + 2, none⟩ = some (.string s) ∧ w.cell? ⟨b, off + i * 4 + 3, none⟩ = some u ∧ Tms w u x.args ∧
   TmV w x (.agg #[.int .i64 k, .int .i64 n, .string s, u]) := by
 obtain ⟨a', c', e, h1, h2, h3, h4⟩ := h
 cases e
 rcases h4 with rfl | ⟨b, off, rfl, hb, hr⟩
 ·simp at hx
 ·obtain ⟨c0, c1, c2, c3, d0, d1, d2, d3, d4⟩ := hr.get i x hx
  cases x with
  | mk k n s ts =>
   obtain ⟨u, hu, g1, g2, g3, g4⟩ := tmV_iff.1 d4
   simp only [Value.agg.injEq] at hu
   have hu' := congrArg Array.toList hu
   simp only [List.cons.injEq, and_true] at hu'
   obtain ⟨rfl, rfl, rfl, rfl⟩ := hu'
   exact ⟨b, off, k, n, s, _, rfl, hb, rfl, rfl, rfl, d0, d1, d2, d3, g4, d4⟩
theorem Tms.len {w : World} {v : Value} {l : List Tm} (h : Tms w v l) : ∃ a c, v = .slice a l.length c ∧ l.length ≤ c ∧ c ≤ maxLen ∧ l.length * 56 ≤ BIG := by
 obtain ⟨a, c, h1, h2, h3, h4, _⟩ := h
 exact ⟨a, c, h1, h2, h3, h4⟩
end Go.Proofs.Ytchbbaehdcmcfaa
/- Terms that came in: one, a slice of them. -/
namespace Go.Proofs.Ytchbbaehdcmcfaa
open Go.RowKit Go.ChangeShapes Go.WideShapes Go.ChangeAt Go.Deep
set_option maxRecDepth 100000
theorem wf_range {a : Int} (h : (Lit.int .i64 a).wf = true) : I64 a := by
 unfold I64
 simpa [Lit.wf, IntKind.min, IntKind.max, IntKind.signed, IntKind.bits] using h
section
variable {H : Type} {enc : TypeId × Value → H} {W : World}
theorem tms_parse {n : Nat} {c : Value} {D : DataW H} {pl : List MemPlace} (hd : DataW.trod enc Try.prog W 0 (fun _ => true) true n 29 [c] = some (D, pl)) (hw : ∀ m ∈ D.weights Try.prog 29, m ≤ 140737488351232)
  (ih : ∀ (d : DataW H), SizeOf.sizeOf d < SizeOf.sizeOf D → ∀ (n : Nat) (cs : List Value) (pl : List MemPlace), DataW.trod enc Try.prog W 0 (fun _ => true) true n 31 cs = some (d, pl) → (∀ m ∈ d.weights Try.prog 31, m ≤ 140737488351232) → ∃ x : Tm, TmV W x (.agg cs.toArray) ∧ cs.length = 4) :
  ∃ l : List Tm, Tms W c l := by
 have hc : Try.prog.cellsOf 31 = 4 := by kernel_rfl
 have hb : Try.prog.bytesOf 31 = 56 := by kernel_rfl
 rcases open_slice Try.underlying29 hd with ⟨hcs, _⟩ | ⟨a, n, cc, m, n', D', Pl, hcs, _, hl, hm, hz, hd', hi⟩
 ·obtain rfl := (List.cons.inj hcs).1
  exact ⟨[], Tms.nil W⟩
 ·obtain rfl := (List.cons.inj hcs).1
  simp at hz
  subst hz
  simp only [Prod.mk.injEq] at hd'
  obtain ⟨rfl, rfl⟩ := hd'
  have hbig := hw ((((List.range n).map D').length + ((List.range (m - n)).map fun j => D' (n + j)).length) * Try.prog.bytesOf 31) (by simp [DataW.weights, Try.underlying29])
  rw [hb] at hbig
  simp at hbig
  obtain ⟨xs, hxl, hxs⟩ := list_choose (Q := fun i (y : Tm) => ∃ cs', W.cells? 0 (a.add (i * 4)) 4 = some cs' ∧ TmV W y (.agg cs'.toArray) ∧ cs'.length = 4) n (fun i hin => by
   obtain ⟨cs', h1, h2⟩ := hi i (by omega)
   rw [hc] at h1
   have hmem : D' i ∈ (List.range n).map D' := List.mem_map_of_mem (f := D') (List.mem_range.2 hin)
   obtain ⟨y, hy1, hy2⟩ := ih (D' i) (by
    have := List.sizeOf_lt_of_mem hmem
    simp only [DataW.slice.sizeOf_spec]
    omega) n' cs' (Pl i) h2 (fun k hk => hw k (by
    simp only [DataW.weights, Try.underlying29, List.mem_cons, List.mem_append]
    exact Or.inr (Or.inl (weights_all_mem hmem k hk))))
   exact ⟨y, cs', h1, hy1, hy2⟩)
  refine ⟨xs, some a, m, by rw [hxl], by omega, hm, by unfold BIG; omega, ?_⟩
  by_cases h0 : n = 0
  ·left; exact List.length_eq_zero_iff.1 (by omega)
  right
  obtain ⟨y0, hy0⟩ : ∃ y0, xs[0]? = some y0 := ⟨_, List.getElem?_eq_getElem (by omega)⟩
  obtain ⟨cs0, hq, _, _⟩ := hxs 0 y0 hy0
  obtain ⟨_, hl0, hat0⟩ := World.cells?_some hq
  have hx0 := hat0 0 (by omega)
  have hs0 : a.spot = none := by
   rw [List.getElem?_eq_getElem (by omega)] at hx0
   have e1 := spot_of_cell hx0
   rw [Nat.zero_mul] at e1
   have : a.add 0 = a := by
    rcases a with ⟨xb, xo, xs'⟩; unfold Addr.add; split <;> simp_all
   rw [this] at e1; exact e1
  rcases a with ⟨xb, xo, xs'⟩
  cases (show xs' = none from hs0)
  refine ⟨xb, xo, rfl, ?_, TmRow.mk fun i y hy => ?_⟩
  ·rw [List.getElem?_eq_getElem (by omega), add_plain, add_plain] at hx0; exact World.block_lt_of_cell? _ _ hx0
  ·obtain ⟨cs', hq', hv, hl4⟩ := hxs i y hy
   obtain ⟨_, hl', hat⟩ := World.cells?_some hq'
   obtain ⟨c0, c1, c2, c3, rfl⟩ : ∃ c0 c1 c2 c3, cs' = [c0, c1, c2, c3] := by
    match cs', hl4 with
    | [a, b, c, d], _ => exact ⟨a, b, c, d, rfl⟩
   have t0 := hat 0 (by omega)
   have t1 := hat 1 (by omega)
   have t2 := hat 2 (by omega)
   have t3 := hat 3 (by omega)
   rw [add_plain, add_plain] at t0 t1 t2 t3
   exact ⟨c0, c1, c2, c3, t0, t1, t2, t3, hv⟩
theorem term_parse : ∀ (N : Nat) (D : DataW H), SizeOf.sizeOf D ≤ N → ∀ (n : Nat) (cs : List Value) (pl : List MemPlace), DataW.trod enc Try.prog W 0 (fun _ => true) true n 31 cs = some (D, pl) →
  (∀ m ∈ D.weights Try.prog 31, m ≤ 140737488351232) → ∃ x : Tm, TmV W x (.agg cs.toArray) ∧ cs.length = 4
 | 0, D, hN, n, cs, pl, hd, hw => by
  cases D <;> simp at hN
 | N + 1, D, hN, n, cs, pl, hd, hw => by
  obtain ⟨xs, n', rfl, hx, hl, hxl, hf⟩ := DataW.trod_struct Try.underlying31 hd
  have e1 : Try.prog.cellsOf 31 = 4 := by kernel_rfl
  have e2 : Try.prog.cellsOf 3 = 1 := by kernel_rfl
  have e3 : Try.prog.cellsOf 2 = 1 := by kernel_rfl
  have e4 : Try.prog.cellsOf 9 = 1 := by kernel_rfl
  have e5 : Try.prog.cellsOf 29 = 1 := by kernel_rfl
  rw [e1] at hl
  obtain ⟨c0, c1, c2, c3, rfl⟩ : ∃ c0 c1 c2 c3, cs = [c0, c1, c2, c3] := by
   match cs, hl with
   | [a, b, c, d], _ => exact ⟨a, b, c, d, rfl⟩
  obtain ⟨y0, y1, y2, y3, rfl⟩ : ∃ y0 y1 y2 y3, xs = [y0, y1, y2, y3] := by
   match xs, hxl with
   | [a, b, c, d], _ => exact ⟨a, b, c, d, rfl⟩
  have f0 : DataW.trod enc Try.prog W 0 (fun _ => true) true n' 3 (([c0, c1, c2, c3].drop 0).take (Try.prog.cellsOf 3)) = [y0, y1, y2, y3][0]? := hf 0 _ rfl
  have f1 : DataW.trod enc Try.prog W 0 (fun _ => true) true n' 2 (([c0, c1, c2, c3].drop 1).take (Try.prog.cellsOf 2)) = [y0, y1, y2, y3][1]? := hf 1 _ rfl
  have f2 : DataW.trod enc Try.prog W 0 (fun _ => true) true n' 9 (([c0, c1, c2, c3].drop 2).take (Try.prog.cellsOf 9)) = [y0, y1, y2, y3][2]? := hf 2 _ rfl
  have f3 : DataW.trod enc Try.prog W 0 (fun _ => true) true n' 29 (([c0, c1, c2, c3].drop 3).take (Try.prog.cellsOf 29)) = [y0, y1, y2, y3][3]? := hf 3 _ rfl
  rw [e2] at f0
  rw [e3] at f1
  rw [e4] at f2
  rw [e5] at f3
  simp only [List.drop_zero, List.drop_succ_cons, List.take_succ_cons, List.take_zero, List.getElem?_cons_zero, List.getElem?_cons_succ] at f0 f1 f2 f3
  obtain ⟨k, q0, r0, s0⟩ := DataW.trod_int Try.underlying3 f0
  obtain ⟨m, q1, r1, s1⟩ := DataW.trod_int Try.underlying2 f1
  obtain ⟨s, q2, r2, s2⟩ := DataW.trod_string Try.underlying9 f2
  obtain rfl := (List.cons.inj q0).1
  obtain rfl := (List.cons.inj q1).1
  obtain rfl := (List.cons.inj q2).1
  simp only [Prod.mk.injEq] at hx
  obtain ⟨hx1, _⟩ := hx
  have h0 := hw s.data.toList.length (by
   rw [hx1, r2]
   simp [DataW.weights, Try.underlying31, DataW.weightsEach])
  obtain ⟨l, hl⟩ := tms_parse (D := y3.1) (pl := y3.2) f3 (fun j hj => hw j (by
   rw [hx1]
   simp [DataW.weights, Try.underlying31, DataW.weightsEach, hj])) (fun d hds => term_parse N d (by
   have : SizeOf.sizeOf y3.1 < SizeOf.sizeOf D := by
    rw [hx1]
    simp only [List.map_cons, List.map_nil, DataW.agg.sizeOf_spec, List.cons.sizeOf_spec]
    omega
   omega))
  exact ⟨.mk k m s l, tmV_iff.2 ⟨c3, rfl, h0, wf_range s0, wf_range s1, hl⟩, rfl⟩
end
def IsTm (w : World) (v : Value) (x : Tm) : Prop := TmV w x v
theorem term_of_trod {H : Type} {enc : TypeId × Value → H} {W : World} {v : Value} {d : DataW H} {ps : List MemPlace} (h : DataW.Trod enc Try.prog W 0 (fun _ => true) true 31 v d ps)
  (hv : Value.okWide Try.prog W .any 0 31 v) (hw : ∀ n ∈ d.weights Try.prog 31, n ≤ 140737488351232) : ∃ x, IsTm W v x := by
 obtain ⟨cs, rfl, _⟩ := okWide_struct Try.underlying31 hv
 obtain ⟨fuel, hf⟩ := h
 obtain ⟨x, hx, _⟩ := term_parse _ d (Nat.le_refl _) _ _ _ hf hw
 refine ⟨x, ?_⟩
 have : (Value.agg cs).cells.toList.toArray = cs := by simp [Value.cells]
 rw [this] at hx
 exact hx
theorem terms_of_trod {H : Type} {enc : TypeId × Value → H} {W : World} {v : Value} {d : DataW H} {ps : List MemPlace} (h : DataW.Trod enc Try.prog W 0 (fun _ => true) true 29 v d ps)
  (hv : Value.okWide Try.prog W .any 0 29 v) (hw : ∀ n ∈ d.weights Try.prog 29, n ≤ 140737488351232) : ∃ l, Tms W v l := by
 obtain ⟨a, n, c, rfl⟩ := okWide_slice Try.underlying29 hv
 obtain ⟨fuel, hf⟩ := h
 exact tms_parse (c := .slice a n c) hf hw (fun d' _ => term_parse _ d' (Nat.le_refl _))
end Go.Proofs.Ytchbbaehdcmcfaa
/- Package index: keys in memory, what '==' says of them, keys of maps. -/
namespace Go.Proofs.Ytchbbaehdcmcfaa
open Go.RowKit Go.Maps Go.WideMaps
set_option linter.unusedVariables false
abbrev ixV (k : KeyM) : Value := .agg #[.int .i64 k.k, .int .i64 k.n, .string k.s, .int .i64 k.ar]
def ixCells (k : KeyM) : List Value := [.int .i64 k.k, .int .i64 k.n, .string k.s, .int .i64 k.ar]
end Go.Proofs.Ytchbbaehdcmcfaa
/- Small facts of ours on worlds: what is laid anew, what is drawn, a row that stays. Nothing here speaks of one program. -/
namespace Go.Proofs.Ytchbbaehdcmcfaa
open Go.RowKit
theorem bel1' (w : World) (o : Obj) : Below w.heap.size w (w.alloc o) := (Below.refl _ _).alloc (Nat.le_refl _) o
end Go.Proofs.Ytchbbaehdcmcfaa
/- Terms: small facts; a term as a parameter. -/
namespace Go.Proofs.Ytchbbaehdcmcfaa
open Go.RowKit
set_option linter.unusedVariables false
abbrev box4 (k n : Int) (s : ByteArray) (u : Value) (ty : TypeId) : Obj := .cells #[.int .i64 k, .int .i64 n, .string s, u] ty
theorem mem_size {k n : Int} {s : ByteArray} {ts : List Tm} {y : Tm} {N : Nat} (h : sizeN (.mk k n s ts) ≤ N + 1) (hy : y ∈ ts) : sizeN y ≤ N := by
 have := sizes_mem hy
 rw [sizeN] at h
 omega
theorem box_cells (w : World) (ty : TypeId) (c0 c1 c2 c3 : Value) {wr : World} (hb : Below (w.alloc (.cells #[c0, c1, c2, c3] ty)).heap.size (w.alloc (.cells #[c0, c1, c2, c3] ty)) wr) :
  wr.cell? ⟨w.heap.size, 0, none⟩ = some c0 ∧ wr.cell? ⟨w.heap.size, 1, none⟩ = some c1 ∧ wr.cell? ⟨w.heap.size, 2, none⟩ = some c2 ∧ wr.cell? ⟨w.heap.size, 3, none⟩ = some c3 :=
 ⟨cell_later hb (by simp), cell_later hb (by simp), cell_later hb (by simp), cell_later hb (by simp)⟩
end Go.Proofs.Ytchbbaehdcmcfaa
/- append of whatever slice to a row of the call's own, of elements of however many cells: also of nothing. Nothing here speaks of one program. -/
namespace Go.Proofs.Ytchbbaehdcmcfaa
open Go.RowKit
theorem row_formk {w : World} {b e sz n : Nat} {v : Value} {xs : List Value} (h : w.ownsRow b e sz v n xs) : ∃ a c, v = .slice a n c ∧ n ≤ c := by
 rcases h.2 with ⟨rfl, h0⟩ | ⟨g, cap, cur, rfl, _, _, h1, _⟩
 ·exact ⟨none, 0, by rw [h0], by omega⟩
 ·exact ⟨_, cap, rfl, h1⟩
section
variable {P : Program}
theorem run_append_k (w : World) (base : Nat) (t ty e : TypeId) (i : TypeInfo) (z : Value) (size bytes : Nat) (ht : P.underlying t = some (.slice e)) (hi : P.info? e = some i) (hz : i.zero = some z) (hsize : i.size = size) (hpos : 0 < size) (hby : i.bytes = bytes) (hzs : z.cells.size = size)
  (v : Value) (n : Nat) (xs : List Value) (hown : w.ownsRow base e size v n xs) (ao : Option Addr) (m c : Nat) (news : List Value) (hl : news.length = m * size)
  (hsrc : m = 0 ∨ ∃ ad, ao = some ad ∧ ∀ j u, news[j]? = some u → w.cell? (ad.add j) = some u) (h1 : ∀ u ∈ news, u.oneCell' = true)
  (h63 : n + m ≤ maxLen) (hbytes : (n + m) * bytes ≤ 140737488355328) (hbase : base ≤ w.heap.size) :
  ∃ v' w', (Builtin.append_ #[t, t] ty #[v, .slice ao m c]).run P w = .ok v' w' ∧ w'.ownsRow base e size v' (n + m) (xs ++ news) ∧ w.grownBy w' v.ownBlock ∧ (v'.ownBlock = v.ownBlock ∨ v'.ownBlock = some w.heap.size) := by
 by_cases hm : m = 0
 ·subst hm
  obtain rfl : news = [] := List.length_eq_zero_iff.1 (by simpa using hl)
  obtain ⟨a, cc, rfl, hle⟩ := row_formk hown
  have hs : Src P i.size t (.slice ao 0 c) 0 [] w := by
   refine ⟨Or.inl ⟨e, ht⟩, fun w' => rfl, ?_, ?_, by simp, by simp⟩
   ·cases ao with
    | none => rfl
    | some ad => exact run_firstCells_some w i.size 0 ad 0 c [] (by simp) (by simp)
   ·cases ao with
    | none => rfl
    | some ad => exact run_firstCells_some w.drew i.size 0 ad 0 c [] (by simp) (by simp)
  exact ⟨_, w, run_append_nothing w t t ty e i ht hi a n cc hle _ hs, by simpa using hown, ⟨rfl, rfl, rfl, Nat.le_refl _, fun _ _ _ => rfl⟩, Or.inl rfl⟩
 ·rcases hsrc with h0 | ⟨ad, rfl, hc⟩
  ·exact absurd h0 hm
  obtain ⟨v', w', r1, r2, r3, _, r5⟩ := run_append_own_at (P := P) w base t ty e i z size bytes ht hi hz hsize hby hzs hpos v n xs hown ad m c news (by omega) hc h1 h63 hbytes hbase
  exact ⟨v', w', r1, r2, r3, r5⟩
theorem wp_append_k {w : World} {o : Oper} {a : Act} {K : Act → World → Prop} {Q : Exit → Act → World → Prop} (s x : Operand) (t : TypeId)
  (ho : o.op = .call { callee := .builtin .append, args := #[s, x], argTypes := #[t, t] })
  (base : Nat) (e : TypeId) (i : TypeInfo) (z : Value) (size bytes : Nat) (ht : P.underlying t = some (.slice e)) (hi : P.info? e = some i) (hz : i.zero = some z) (hsize : i.size = size) (hpos : 0 < size) (hby : i.bytes = bytes) (hzs : z.cells.size = size)
  (v : Value) (n : Nat) (xs : List Value) (hs : a.eval s = v) (hown : w.ownsRow base e size v n xs) (ao : Option Addr) (m c : Nat) (news : List Value) (hx : a.eval x = .slice ao m c) (hl : news.length = m * size)
  (hsrc : m = 0 ∨ ∃ ad, ao = some ad ∧ ∀ j u, news[j]? = some u → w.cell? (ad.add j) = some u) (h1 : ∀ u ∈ news, u.oneCell' = true)
  (h63 : n + m ≤ maxLen) (hbytes : (n + m) * bytes ≤ 140737488355328) (hbase : base ≤ w.heap.size) (N : Nat) (L : List Value) (hN : N = n + m) (hL : L = xs ++ news)
  (h : ∀ (a' : Option Addr) (c' : Nat) (w' : World), w'.ownsRow base e size (.slice a' N c') N L → w.grownBy w' v.ownBlock → ((Value.slice a' N c').ownBlock = v.ownBlock ∨ (Value.slice a' N c').ownBlock = some w.heap.size) → K (a.put o.dst (.slice a' N c')) w') : o.wp P a w K Q := by
 subst hN hL
 obtain ⟨v', w', hr, h2, h3, h4⟩ := run_append_k (P := P) w base t o.type e i z size bytes ht hi hz hsize hpos hby hzs v n xs hown ao m c news hl hsrc h1 h63 hbytes hbase
 obtain ⟨a', c', rfl, _⟩ := row_formk h2
 unfold Oper.wp execOp
 simp only [ho, resolve, invoke, builtin, Sem.run_bind, Sem.run_pure, Result.andThen_ok, List.map_toArray, List.map_cons, List.map_nil, hs, hx, hr]
 exact h a' c' w' h2 h3 h4
theorem wpList_append_k {w : World} {ops : Array Oper} {rest : List Oper} {o : Oper} {a : Act} {Q : Exit → Act → World → Prop} (hgd : o.guard = none) (s x : Operand) (t : TypeId)
  (ho : o.op = .call { callee := .builtin .append, args := #[s, x], argTypes := #[t, t] })
  (base : Nat) (e : TypeId) (i : TypeInfo) (z : Value) (size bytes : Nat) (ht : P.underlying t = some (.slice e)) (hi : P.info? e = some i) (hz : i.zero = some z) (hsize : i.size = size) (hpos : 0 < size) (hby : i.bytes = bytes) (hzs : z.cells.size = size)
  (v : Value) (n : Nat) (xs : List Value) (hs : a.eval s = v) (hown : w.ownsRow base e size v n xs) (ao : Option Addr) (m c : Nat) (news : List Value) (hx : a.eval x = .slice ao m c) (hl : news.length = m * size)
  (hsrc : m = 0 ∨ ∃ ad, ao = some ad ∧ ∀ j u, news[j]? = some u → w.cell? (ad.add j) = some u) (h1 : ∀ u ∈ news, u.oneCell' = true)
  (h63 : n + m ≤ maxLen) (hbytes : (n + m) * bytes ≤ 140737488355328) (hbase : base ≤ w.heap.size) (N : Nat) (L : List Value) (hN : N = n + m) (hL : L = xs ++ news)
  (h : ∀ (a' : Option Addr) (c' : Nat) (w' : World), w'.ownsRow base e size (.slice a' N c') N L → w.grownBy w' v.ownBlock → ((Value.slice a' N c').ownBlock = v.ownBlock ∨ (Value.slice a' N c').ownBlock = some w.heap.size) → wpList P ops Q rest (a.put o.dst (.slice a' N c')) w') :
  wpList P ops Q (o :: rest) a w := by
 refine wpList_plain hgd fun K hK => ?_
 exact wp_append_k s x t ho base e i z size bytes ht hi hz hsize hpos hby hzs v n xs hs hown ao m c news hx hl hsrc h1 h63 hbytes hbase N L hN hL (fun a' c' w' h2 h3 h4 => hK _ _ (h a' c' w' h2 h3 h4))
end
end Go.Proofs.Ytchbbaehdcmcfaa
/- A row of the call's own, of elements of S cells each, reads as its elements; what is appended to it. Nothing here speaks of one program. -/
namespace Go.Proofs.Ytchbbaehdcmcfaa
open Go.RowKit
section
variable {α : Type} {S : Nat} {cells : α → List Value}
theorem flat_len (hc : ∀ x, (cells x).length = S) (L : List α) : (L.flatMap cells).length = L.length * S := by
 induction L with
 | nil => simp
 | cons a r ih => rw [List.flatMap_cons, List.length_append, ih, hc, List.length_cons, Nat.add_mul, Nat.one_mul, Nat.add_comm]
theorem flat_get (hc : ∀ x, (cells x).length = S) : ∀ (L : List α) (i : Nat) (x : α), L[i]? = some x → ∀ j, j < S → (L.flatMap cells)[i * S + j]? = (cells x)[j]?
 | [], i, x, h, _, _ => by simp at h
 | a :: r, 0, x, h, j, hj => by
  simp at h
  subst h
  rw [List.flatMap_cons, Nat.zero_mul, Nat.zero_add, List.getElem?_append_left (by rw [hc]; exact hj)]
 | a :: r, i + 1, x, h, j, hj => by
  have e : (i + 1) * S + j = S + (i * S + j) := by rw [Nat.add_mul, Nat.one_mul]; omega
  rw [List.flatMap_cons, List.getElem?_append_right (by rw [hc, e]; omega), hc, e, Nat.add_sub_cancel_left]
  exact flat_get hc r i x (by simpa using h) j hj
theorem Elems.owned (hc : ∀ x, (cells x).length = S) {w : World} {B : Nat} {e : TypeId} {v : Value} {L : List α} (h : w.ownsRow B e S v L.length (L.flatMap cells)) : Elems S cells w v L := by
 rcases h.2 with ⟨rfl, h0⟩ | ⟨g, cap, cur, rfl, _, hg, h1, h2, h3, h4⟩
 ·obtain rfl := List.length_eq_zero_iff.1 h0
  exact ⟨none, 0, rfl, Nat.le_refl _, Nat.zero_le _, Or.inl rfl⟩
 ·refine ⟨_, cap, rfl, h1, h2, Or.inr ⟨g, 0, rfl, (Array.getElem?_eq_some_iff.1 hg).1, fun i x hx j u hu => ?_⟩⟩
  have hj : j < S := by have := (List.getElem?_eq_some_iff.1 hu).1; rwa [hc] at this
  have hi := (List.getElem?_eq_some_iff.1 hx).1
  have h5 := flat_get hc L i x hx j hj
  have hle : i * S + S ≤ L.length * S := by
   have : (i + 1) * S ≤ L.length * S := Nat.mul_le_mul_right _ hi
   rwa [Nat.add_mul, Nat.one_mul] at this
  rw [← h4, List.getElem?_take, if_pos (by omega), hu] at h5
  rw [Nat.zero_add, World.cell?, hg]
  simpa using h5
end
theorem cell_new (w : World) (cs : Array Value) (ty : TypeId) (j : Nat) (u : Value) (h : cs.toList[j]? = some u) : (w.alloc (.cells cs ty)).cell? ((⟨w.heap.size, 0, none⟩ : Addr).add j) = some u := by
 have h1 : (w.alloc (.cells cs ty)).heap[w.heap.size]? = some (.cells cs ty) := by
  show (w.heap.push _)[w.heap.size]? = _
  simp
 rw [add_plain, Nat.zero_add, World.cell?, h1]
 simpa using h
end Go.Proofs.Ytchbbaehdcmcfaa
/- A row of terms of the call's own; a term's fields. Nothing here speaks of one program. -/
namespace Go.Proofs.Ytchbbaehdcmcfaa
open Go.RowKit
set_option linter.unusedVariables false
theorem TmV.full {w : World} {x : Tm} {v : Value} (h : TmV w x v) : ∃ k n s a m c, v = .agg #[.int .i64 k, .int .i64 n, .string s, .slice a m c] := by
 cases x with
 | mk k n s ts =>
  obtain ⟨u, rfl, _, _, _, hu⟩ := tmV_iff.1 h
  obtain ⟨a, c, rfl, _⟩ := hu.len
  exact ⟨_, _, _, _, _, _, rfl⟩
abbrev TmP := Tm × Value
def pCells (p : TmP) : List Value := [.int .i64 p.1.k, .int .i64 p.1.n, .string p.1.s, p.2]
def pVal (p : TmP) : Value := .agg #[.int .i64 p.1.k, .int .i64 p.1.n, .string p.1.s, p.2]
theorem pCells_len (p : TmP) : (pCells p).length = 4 := rfl
theorem TmV.pair {w : World} {x : Tm} {v : Value} (h : TmV w x v) : ∃ u, v = pVal (x, u) := by
 cases x with
 | mk k n s ts =>
  obtain ⟨u, rfl, _⟩ := tmV_iff.1 h
  exact ⟨u, rfl⟩
theorem pCells_one (L : List TmP) {w : World} (h : ∀ p ∈ L, TmV w p.1 (pVal p)) : ∀ u ∈ L.flatMap pCells, u.oneCell' = true := by
 intro u hu
 obtain ⟨p, hp, hx⟩ := List.mem_flatMap.1 hu
 have hv := h p hp
 obtain ⟨x, q⟩ := p
 cases x with
 | mk k n s ts =>
  obtain ⟨u', hu', _, _, _, hq⟩ := tmV_iff.1 hv
  have : u' = q := by
   simp only [pVal, Value.agg.injEq] at hu'
   have h2 := congrArg Array.toList hu'
   simp only [List.cons.injEq, and_true] at h2
   exact h2.2.2.2.symm
  subst this
  obtain ⟨a, c, rfl, _⟩ := hq.len
  simp [pCells] at hx
  rcases hx with rfl | rfl | rfl | rfl <;> rfl
def RowP (w : World) (base : Nat) (ty : TypeId) (v : Value) (ps : List TmP) : Prop := w.ownsRow base ty 4 v ps.length (ps.flatMap pCells)
theorem RowP.terms {w : World} {base : Nat} {ty : TypeId} {v : Value} {ps : List TmP} (h : RowP w base ty v ps) (hp : ∀ p ∈ ps, TmV w p.1 (pVal p)) (hl : ps.length * 56 ≤ BIG) : Tms w v (ps.map (·.1)) := by
 obtain ⟨a, c, rfl, h1, h2, h3⟩ := Elems.owned pCells_len h
 refine ⟨a, c, by rw [List.length_map], by rw [List.length_map]; exact h1, h2, by rw [List.length_map]; exact hl, ?_⟩
 rcases h3 with rfl | ⟨b, off, rfl, hb, hc⟩
 ·left; rfl
 ·refine Or.inr ⟨b, off, rfl, hb, TmRow.mk fun i x hx => ?_⟩
  rw [List.getElem?_map] at hx
  obtain ⟨p, hpi, rfl⟩ := Option.map_eq_some_iff.1 hx
  have hv := hp p (List.mem_of_getElem? hpi)
  exact ⟨_, _, _, _, hc i p hpi 0 _ rfl, by rw [Nat.add_assoc]; exact hc i p hpi 1 _ rfl, by rw [Nat.add_assoc]; exact hc i p hpi 2 _ rfl, by rw [Nat.add_assoc]; exact hc i p hpi 3 _ rfl, hv⟩
end Go.Proofs.Ytchbbaehdcmcfaa
/- Package term: the makers, Comp, Size. -/
namespace Go.Proofs.Ytchbbaehdcmcfaa
open Go.RowKit
set_option linter.unusedVariables false
theorem results_cell1 {fn : Func} {p : Tmp} {ty : TypeId} (h : fn.results = #[.cell p ty]) (tmps : Array Value) (P : Program) (w : World) :
  (results fn tmps).run P w = ((asAddr (tmps.getD p undef)).run P w).andThen fun a w₁ => (loadVar ty a).run P w₁ := by
 simp only [results, h]
 simp [Sem.run_bind, Result.andThen]
theorem TmRow.pairs {w : World} : ∀ {l : List Tm} {b off : Nat}, TmRow w l b off → ∃ ps : List TmP, ps.map (·.1) = l ∧ (∀ p ∈ ps, TmV w p.1 (pVal p)) ∧ ∀ j u, (ps.flatMap pCells)[j]? = some u → w.cell? ⟨b, off + j, none⟩ = some u
 | [], b, off, _ => ⟨[], rfl, fun p h => by simp at h, fun j u h => by simp at h⟩
 | x :: r, b, off, h => by
  rw [TmRow] at h
  obtain ⟨⟨c0, c1, c2, c3, h0, h1, h2, h3, h4⟩, h5⟩ := h
  obtain ⟨ps, e1, e2, e3⟩ := TmRow.pairs h5
  obtain ⟨u, hu⟩ := h4.pair
  rw [hu] at h4
  simp only [pVal, Value.agg.injEq] at hu
  have h2' := congrArg Array.toList hu
  simp only [List.cons.injEq, and_true] at h2'
  obtain ⟨rfl, rfl, rfl, rfl⟩ := h2'
  refine ⟨(x, c3) :: ps, by simp [e1], fun p hp => ?_, fun j u hj => ?_⟩
  ·rcases List.mem_cons.1 hp with rfl | hp
   ·exact h4
   ·exact e2 p hp
  ·rw [List.flatMap_cons] at hj
   by_cases hlt : j < 4
   ·rw [List.getElem?_append_left (by rw [pCells_len]; exact hlt)] at hj
    match j, hlt with
    | 0, _ => cases hj; exact h0
    | 1, _ => cases hj; exact h1
    | 2, _ => cases hj; exact h2
    | 3, _ => cases hj; exact h3
   ·rw [List.getElem?_append_right (by rw [pCells_len]; omega), pCells_len] at hj
    have := e3 _ _ hj
    rw [show off + 4 + (j - 4) = off + j by omega] at this
    exact this
theorem Tms.pairs {w : World} {v : Value} {l : List Tm} (h : Tms w v l) : ∃ (ps : List TmP) (a : Option Addr) (c : Nat), v = .slice a l.length c ∧ ps.length = l.length ∧ ps.map (·.1) = l ∧ (∀ p ∈ ps, TmV w p.1 (pVal p)) ∧ l.length * 56 ≤ BIG ∧ (l.length = 0 ∨ ∃ ad, a = some ad ∧ ∀ j u, (ps.flatMap pCells)[j]? = some u → w.cell? (ad.add j) = some u) := by
 obtain ⟨a, c, h1, h2, h3, h4, h5⟩ := h
 rcases h5 with rfl | ⟨b, off, rfl, hb, hr⟩
 ·exact ⟨[], a, c, h1, rfl, rfl, fun p h => by simp at h, h4, Or.inl rfl⟩
 ·obtain ⟨ps, e1, e2, e3⟩ := hr.pairs
  exact ⟨ps, _, c, h1, by rw [← e1, List.length_map], e1, e2, h4, Or.inr ⟨_, rfl, fun j u hj => by rw [add_plain]; exact e3 j u hj⟩⟩
theorem infoTerm : (Try.prog.info? 31).map (fun i => (i.zero, i.size, i.bytes)) = some (some (.agg #[.int .i64 0, .int .i64 0, .string ⟨#[]⟩, .slice none 0 0]), 4, 56) := by kernel_rfl
theorem leaf_tm (w : World) {k n : Int} {s : ByteArray} (hk : I64 k) (hn : I64 n) (hs : s.size ≤ BIG) : TmV w (.mk k n s []) (.agg #[.int .i64 k, .int .i64 n, .string s, .slice none 0 0]) :=
 tmV_iff.2 ⟨_, rfl, hs, hk, hn, Tms.nil w⟩
theorem i64_0 : I64 0 := by unfold I64; omega
theorem i64_2 : I64 2 := by unfold I64; omega
theorem atom_at (w : World) (s : ByteArray) : Calls Try.prog 16 #[.string s] w fun e w' => e = .returned (.agg #[.int .i64 2, .int .i64 0, .string s, .slice none 0 0]) ∧ Below w.heap.size w w' := by
 go_enter Try.func16, Try.ntmps16
 go_wp2
 refine bodyPost_ret (v := .agg #[.int .i64 2, .int .i64 0, .string s, .slice none 0 0]) (by rw [results_cell1 rfl]; go_simp) rfl ⟨rfl, ?_⟩
 exact bel1' _ _
def setFour (w : World) (B : Nat) (v0 v1 v2 v3 : Value) : World := (((w.setCell ⟨B, 0, none⟩ v0).setCell ⟨B, 1, none⟩ v1).setCell ⟨B, 2, none⟩ v2).setCell ⟨B, 3, none⟩ v3
theorem four_below {w0 w : World} {D B : Nat} (v0 v1 v2 v3 : Value) (h : Below D w0 w) (hB : D ≤ B) : Below D w0 (setFour w B v0 v1 v2 v3) :=
 (((h.setCell (p := ⟨B, 0, none⟩) hB v0).setCell (p := ⟨B, 1, none⟩) hB v1).setCell (p := ⟨B, 2, none⟩) hB v2).setCell (p := ⟨B, 3, none⟩) hB v3
theorem four_row {w : World} {base B n k : Nat} {e : TypeId} {v : Value} {xs : List Value} (v0 v1 v2 v3 : Value) (h : w.ownsRow base e k v n xs) (hB : B < base) : (setFour w B v0 v1 v2 v3).ownsRow base e k v n xs :=
 ownsRow_setCell_below (ownsRow_setCell_below (ownsRow_setCell_below (ownsRow_setCell_below h (a := ⟨B, 0, none⟩) hB v0) (a := ⟨B, 1, none⟩) hB v1) (a := ⟨B, 2, none⟩) hB v2) (a := ⟨B, 3, none⟩) hB v3
theorem four_kept {w w4 : World} {c0 c1 c2 c3 : Value} {ty : TypeId} (h : w4.heap[w.heap.size]? = (w.alloc (.cells #[c0, c1, c2, c3] ty)).heap[w.heap.size]?) :
  w4.cell? ⟨w.heap.size, 0, none⟩ = some c0 ∧ w4.cell? ⟨w.heap.size, 1, none⟩ = some c1 ∧ w4.cell? ⟨w.heap.size, 2, none⟩ = some c2 ∧ w4.cell? ⟨w.heap.size, 3, none⟩ = some c3 ∧ ∀ j, w4.frozen? ⟨w.heap.size, j, none⟩ = false := by
 refine ⟨?_, ?_, ?_, ?_, fun j => ?_⟩
 ·rw [World.cell?_of_block (w := w.alloc (.cells #[c0, c1, c2, c3] ty)) h]; simp
 ·rw [World.cell?_of_block (w := w.alloc (.cells #[c0, c1, c2, c3] ty)) h]; simp
 ·rw [World.cell?_of_block (w := w.alloc (.cells #[c0, c1, c2, c3] ty)) h]; simp
 ·rw [World.cell?_of_block (w := w.alloc (.cells #[c0, c1, c2, c3] ty)) h]; simp
 ·rw [World.frozen?_of_block (w := w.alloc (.cells #[c0, c1, c2, c3] ty)) h]; simp
set_option maxHeartbeats 2000000 in
theorem comp_ps {w : World} {ao : Option Addr} {m c : Nat} (ps : List TmP) (s : ByteArray) (hpl : ps.length = m) (hbig : m * 56 ≤ BIG) (hone : ∀ u ∈ ps.flatMap pCells, u.oneCell' = true)
  (hsrc : m = 0 ∨ ∃ ad, ao = some ad ∧ ∀ j u, (ps.flatMap pCells)[j]? = some u → w.cell? (ad.add j) = some u) :
  Calls Try.prog 17 #[.string s, .slice ao m c] w fun e w' => ∃ a c', e = .returned (.agg #[.int .i64 2, .int .i64 0, .string s, .slice a m c']) ∧ RowP w' (w.heap.size + 1) 31 (.slice a m c') ps ∧ Below w.heap.size w w' := by
 obtain ⟨i0, hi0, hz0, hs0, hb0⟩ := info_parts infoTerm
 have hfl : (ps.flatMap pCells).length = m * 4 := by rw [flat_len pCells_len, hpl]
 have HPL := Lib.hid hpl
 unfold BIG at hbig
 obtain ⟨news, hnews⟩ : ∃ news, ps.flatMap pCells = news := ⟨_, rfl⟩
 rw [hnews] at hfl hone hsrc
 have HN := Lib.hid hnews
 have hsrc' : m = 0 ∨ ∃ ad, ao = some ad ∧ ∀ j u, news[j]? = some u → (w.alloc (.cells #[.int .i64 0, .int .i64 0, .string ⟨#[]⟩, .slice none 0 0] 31)).cell? (ad.add j) = some u := by
  rcases hsrc with h | ⟨ad, e, h⟩
  ·exact Or.inl h
  ·exact Or.inr ⟨ad, e, fun j u hj => Lib.cell?_alloc_some _ (h j u hj)⟩
 clear hpl hnews hsrc
 go_enter Try.func17, Try.ntmps17
 go_wp2_with (at_builtin; refine wpList_append_k rfl _ _ 29 rfl (w.heap.size + 1) 31 i0 (.agg #[.int .i64 0, .int .i64 0, .string ⟨#[]⟩, .slice none 0 0]) 4 56 Try.underlying29 hi0 hz0 hs0 (by decide) hb0 rfl (.slice none 0 0) 0 [] rfl (World.ownsRow_nil _ _ _ _) ao m c news rfl hfl hsrc' hone (by unfold maxLen; omega) (by omega) (by simp) m news (by omega) rfl ?_; intro a4 c4 w4 hown4 hgrow4 hat4; obtain ⟨e0, e1, e2, e3, g0⟩ := four_kept (hgrow4.block w.heap.size (by simp) (by simp [Value.ownBlock])))
 have hB : Below w.heap.size w w4 := (bel1' w _).grown hgrow4 (by simp) (fun q hq => by simp [Value.ownBlock] at hq)
 refine bodyPost_ret (v := .agg #[.int .i64 2, .int .i64 0, .string s, .slice a4 m c4]) (by rw [results_cell1 rfl]; go_simp) rfl ⟨a4, c4, rfl, ?_⟩
 have hF : Below w.heap.size w (setFour w4 w.heap.size (.int .i64 2) (.int .i64 0) (.string s) (.slice a4 m c4)) := four_below _ _ _ _ hB (Nat.le_refl _)
 refine ⟨?_, hF⟩
 unfold RowP
 rw [HPL.out, HN.out]
 exact four_row _ _ _ _ hown4 (by omega)
theorem comp_at {w : World} {v : Value} {l : List Tm} (s : ByteArray) (hs : s.size ≤ BIG) (h : Tms w v l) :
  Calls Try.prog 17 #[.string s, v] w fun e w' => ∃ a c, e = .returned (.agg #[.int .i64 2, .int .i64 0, .string s, .slice a l.length c]) ∧ TmV w' (.mk 2 0 s l) (.agg #[.int .i64 2, .int .i64 0, .string s, .slice a l.length c]) ∧ Below w.heap.size w w' := by
 obtain ⟨ps, ao, c, rfl, hpl, hpm, hpa, hbig, hsrc⟩ := h.pairs
 refine (comp_ps (c := c) ps s hpl hbig (pCells_one ps hpa) hsrc).mono ?_
 rintro e w' ⟨a, c', rfl, hR, hB⟩
 refine ⟨a, c', rfl, ?_, hB⟩
 have hT := hR.terms (fun p hp => TmV.ext hB _ _ (hpa p hp)) (by rw [hpl]; exact hbig)
 rw [hpm] at hT
 exact tmV_iff.2 ⟨_, rfl, hs, i64_2, i64_0, hT⟩
end Go.Proofs.Ytchbbaehdcmcfaa
/- Package term: Size. -/
namespace Go.Proofs.Ytchbbaehdcmcfaa
open Go.RowKit
set_option linter.unusedVariables false
theorem sizes_drop' : ∀ {ts : List Tm} {i : Nat} {y : Tm}, ts[i]? = some y → sizesN (ts.take (i + 1)) = sizesN (ts.take i) + sizeN y
 | x :: r, 0, y, h => by
  simp at h; subst h
  simp [sizesN]
 | x :: r, i + 1, y, h => by
  have := sizes_drop' (ts := r) (i := i) (y := y) (by simpa using h)
  simp only [List.take_succ_cons, sizesN, this]
  omega
 | [], i, y, h => by simp at h
theorem sizes_take' (ts : List Tm) (i : Nat) : sizesN (ts.take i) ≤ sizesN ts := by
 induction ts generalizing i with
 | nil => simp
 | cons x r ih =>
  cases i with
  | zero => simp [sizesN]
  | succ i =>
   simp only [List.take_succ_cons, sizesN]
   have := ih i
   omega
theorem TmV.four {w : World} {x : Tm} {v : Value} (h : TmV w x v) : ∃ k n s u, v = .agg #[.int .i64 k, .int .i64 n, .string s, u] := by
 obtain ⟨u, rfl⟩ := h.pair
 exact ⟨_, _, _, _, rfl⟩
set_option maxHeartbeats 2000000 in
set_option maxRecDepth 100000 in
theorem count_at : ∀ (N : Nat) (x : Tm), sizeN x ≤ N → ∀ (q : Nat), 1 ≤ q → q ≤ 1000000 → ∀ (w : World) (v : Value), TmV w x v →
  Calls Try.prog 68 #[v, .int .i64 q] w fun e w' => e = .returned (.int .i64 (min (sizeN x) q : Nat)) ∧ Below w.heap.size w w'
 | 0, x, h, q, hq1, hq, w, v, hv => by have := size_pos x; omega
 | N + 1, .mk k n s ts, h, q, hq1, hq, w, v, hv => by
  obtain ⟨u, rfl, hs, hk, hn, hu⟩ := tmV_iff.1 hv
  obtain ⟨a, c, rfl, h1, h2, h3⟩ := hu.len
  unfold BIG at h3
  obtain ⟨m, hm⟩ : ∃ m, ts.length = m := ⟨_, rfl⟩
  have IH := Lib.hid (fun (y : Tm) (hy : y ∈ ts) => count_at N y (mem_size h hy))
  have HU := Lib.hid hu
  have HM := Lib.hid hm
  rw [hm] at h1 h3 hu HU ⊢
  obtain ⟨r, hr⟩ : ∃ r, min (sizeN (.mk k n s ts)) q = r := ⟨_, rfl⟩
  rw [hr]
  have HR := Lib.hid (show min (sizesN ts + 1) q = r by rw [← hr, sizeN])
  clear hv hu hm hr h
  go_enter Try.func68, Try.ntmps68
  go_wp2_with fail
  go_loopw [5, 11] (fun z v wr => ∃ i t : Nat, i ≤ m ∧ v = .int .i64 i ∧ z = .int .i64 t ∧ Hid (t = min (sizesN (ts.take i) + 1) q) ∧ t ≤ q ∧ Hid (Below (w.alloc (.cells #[.int .i64 k, .int .i64 n, .string s, .slice a m c] 31)).heap.size (w.alloc (.cells #[.int .i64 k, .int .i64 n, .string s, .slice a m c] 31)) wr)) (fun _ v _ => m - (RowKit.intOf v).toNat)
  case atStart => exact ⟨0, 1, Nat.zero_le _, rfl, rfl, Lib.hid (by simp [sizesN]; omega), by omega, Lib.hid (Below.refl _ _)⟩
  case round =>
   obtain ⟨i, t, hi, rfl, rfl, HT, ht, HB⟩ := hrel
   have HBW := Lib.hid (Ext.trans' (bel1' w _) HB.out)
   by_cases hil : i < m
   ·obtain ⟨y, hy⟩ : ∃ y, ts[i]? = some y := ⟨_, List.getElem?_eq_getElem (by rw [HM.out]; exact hil)⟩
    have hst := sizes_take' ts (i + 1)
    have hds := sizes_drop' hy
    obtain ⟨b, off, k', n', s', u', rfl, hbb, _, _, _, c0, c1, c2, c3, htu, hty⟩ := (HU.out.ext HBW.out).get hy
    obtain ⟨au, cu, rfl, _⟩ := htu.len
    clear htu
    by_cases htq : t < q
    ·obtain ⟨d, hd⟩ : ∃ d, q - t = d := ⟨_, rfl⟩
     have hqt : (q : Int) - t = d := by omega
     have htq' : ((t : Int) == q) = false := by apply beq_false_of_ne; omega
     have HNE := Lib.hid (show ¬ t = q by omega)
     have ih := IH.out y (List.mem_of_getElem? hy) d (by omega) (by omega) _ _ (TmV.ext (bel1' wr (box4 k' n' s' (.slice au y.args.length cu) 31)) _ _ hty)
     obtain ⟨z, hz⟩ : ∃ z, min (sizeN y) d = z := ⟨_, rfl⟩
     rw [hz] at ih
     have HN : Hid (t + z = min (sizesN (ts.take (i + 1)) + 1) q) := Lib.hid (by
      have := HT.out
      rw [hds]
      omega)
     have hzd : z ≤ d := by omega
     have hzq : t + z ≤ q := by omega
     clear hst hds hz hy hty hd HT
     (go_wp2_with fail; go_fit (ih); rintro e w2 ⟨rfl, b2⟩)
     have B2 := Lib.hid (Ext.trans' HB.out (Ext.trans' (bel1' _ _) b2))
     clear b2
     go_wp2
     go_roundw
     case rel => exact ⟨i + 1, t + z, by omega, by go_num, by go_num, HN, hzq, B2⟩
     case measure => simp [RowKit.intOf]; omega
    ·have hrt : q = r := by
      have a1 := HT.out
      have a2 := HR.out
      have a3 := sizes_take' ts i
      omega
     have htq2 : t = q := by omega
     subst hrt htq2
     clear hst hds hy hty
     go_wp2
     go_ret
     exact ⟨rfl, Ext.trans' HBW.out (bel1' _ _)⟩
   ·have hrt : t = r := by
     have a1 := HT.out
     have a2 := HR.out
     rw [List.take_of_length_le (by rw [HM.out]; omega)] at a1
     omega
    subst hrt
    go_wp2
    go_ret
    exact ⟨rfl, HBW.out⟩
theorem size_at (x : Tm) (w : World) (v : Value) (hv : TmV w x v) : Calls Try.prog 30 #[v] w fun e w' => e = .returned (.int .i64 (min (sizeN x) 2001 : Nat)) ∧ Below w.heap.size w w' := by
 have C := fun w (h : TmV w x v) => count_at _ x (Nat.le_refl _) 2001 (by omega) (by omega) w v h
 obtain ⟨z, hz⟩ : ∃ z, min (sizeN x) 2001 = z := ⟨_, rfl⟩
 rw [hz] at C ⊢
 obtain ⟨k, n, s, u, rfl⟩ := hv.four
 have hv0 := TmV.ext (bel1' w (box4 k n s u 31)) _ _ hv
 clear hz hv
 go_enter Try.func30, Try.ntmps30
 (go_wp2_with fail; go_fit (C _ hv0); rintro e w1 ⟨rfl, b1⟩)
 have B1 := Lib.hid (Ext.trans' (bel1' w _) b1)
 clear b1
 go_wp2
 go_ret
 exact ⟨rfl, B1.out⟩
end Go.Proofs.Ytchbbaehdcmcfaa
