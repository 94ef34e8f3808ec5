import Derived.WalkKit
import Derived.WalkSpells
import Derived.WalkLawsBesides
import Derived.Lib.Hide
import Derived.ProofKit
import Derived.Maps.AppendAt
import Derived.Deep.Upon
import Derived.Deep.AppendSrc
import Derived.OpenShut
import Derived.SizedLaws
import Derived.SliceStrings
import Derived.Carry
import Derived.Stop.Joined
import Derived.Deep.Slices
import Derived.LoopTactic
import Derived.Lib.Strings
import Derived.Deep.QuietTactic
import Derived.BigQuiet
import Derived.Test.YtobdhcaoeholhaaGreatDoorRows
set_option linter.unusedVariables false
set_option linter.unusedSimpArgs false
/- Small facts of ours about endings, byte strings and slices of strings in memory; nothing here speaks of one program. -/
namespace Go.Proofs.YtobdhcaoeholhaaGreatDoor
open Go.RowKit

theorem ret_bool {a b : Bool} (h : a = b) : Ending.returned (.bool a) = .returned (.bool b) := by rw [h]
theorem ret_int {k : IntKind} {a b : Int} (h : a = b) : Ending.returned (.int k a) = .returned (.int k b) := by rw [h]
abbrev bl (s : ByteArray) : List UInt8 := s.data.toList
theorem bl_len (s : ByteArray) : (bl s).length = s.size := rfl
theorem bl_get (s : ByteArray) (k : Nat) (h : k < s.size) : (bl s)[k]'h = s[k] := rfl
theorem bl_inj {s t : ByteArray} (h : bl s = bl t) : s = t := by
  obtain ⟨⟨l⟩⟩ := s; obtain ⟨⟨m⟩⟩ := t; simp [bl] at h; rw [h]
theorem bl_nil {s : ByteArray} (h : s.size = 0) : bl s = [] := List.length_eq_zero_iff.1 h

/-- The value reads as this list of strings. -/
def Strs (w : World) (v : Value) (ss : List ByteArray) : Prop :=
  ∃ (a : Option Addr) (cap : Nat), v = .slice a ss.length cap ∧ ss.length ≤ cap ∧ cap ≤ maxLen ∧ ss.length * 16 ≤ 140737488351232 ∧ (∀ s ∈ ss, s.size ≤ 140737488351232) ∧
    (ss = [] ∨ ∃ b off, a = some ⟨b, off, none⟩ ∧ b < w.heap.size ∧ ∀ i x, ss[i]? = some x → w.cell? ⟨b, off + i, none⟩ = some (.string x))
/-- Whatever lay in W lies in w as it lay. -/
abbrev Ext (W w : World) : Prop := Below W.heap.size W w
theorem Ext.trans' {a b c : World} (h : Below a.heap.size a b) (k : Below b.heap.size b c) : Below a.heap.size a c := h.trans (k.mono h.size)
end Go.Proofs.YtobdhcaoeholhaaGreatDoor
/- append of whatever slice to a row of the call's own, of elements of however many cells: also of nothing. Nothing here speaks of one program. -/
namespace Go.Proofs.YtobdhcaoeholhaaGreatDoor
open Go.RowKit

theorem row_formk {w : World} {b e sz n : Nat} {v : Value} {xs : List Value} (h : w.ownsRow b e sz v n xs) : ∃ a c, v = .slice a n c ∧ n ≤ c := by
  rcases h.2 with ⟨rfl, h0⟩ | ⟨g, cap, cur, rfl, _, _, h1, _⟩
  · exact ⟨none, 0, by rw [h0], by omega⟩
  · exact ⟨_, cap, rfl, h1⟩
section
variable {P : Program}
theorem run_append_k (w : World) (base : Nat) (t ty e : TypeId) (i : TypeInfo) (z : Value) (size bytes : Nat) (ht : P.underlying t = some (.slice e)) (hi : P.info? e = some i) (hz : i.zero = some z) (hsize : i.size = size) (hpos : 0 < size) (hby : i.bytes = bytes) (hzs : z.cells.size = size)
    (v : Value) (n : Nat) (xs : List Value) (hown : w.ownsRow base e size v n xs) (ao : Option Addr) (m c : Nat) (news : List Value) (hl : news.length = m * size)
    (hsrc : m = 0 ∨ ∃ ad, ao = some ad ∧ ∀ j u, news[j]? = some u → w.cell? (ad.add j) = some u) (h1 : ∀ u ∈ news, u.oneCell' = true)
    (h63 : n + m ≤ maxLen) (hbytes : (n + m) * bytes ≤ 140737488355328) (hbase : base ≤ w.heap.size) :
    ∃ v' w', (Builtin.append_ #[t, t] ty #[v, .slice ao m c]).run P w = .ok v' w' ∧ w'.ownsRow base e size v' (n + m) (xs ++ news) ∧ w.grownBy w' v.ownBlock ∧ (v'.ownBlock = v.ownBlock ∨ v'.ownBlock = some w.heap.size) := by
  by_cases hm : m = 0
  · subst hm
    obtain rfl : news = [] := List.length_eq_zero_iff.1 (by simpa using hl)
    obtain ⟨a, cc, rfl, hle⟩ := row_formk hown
    have hs : Src P i.size t (.slice ao 0 c) 0 [] w := by
      refine ⟨Or.inl ⟨e, ht⟩, fun w' => rfl, ?_, ?_, by simp, by simp⟩
      · cases ao with
        | none => rfl
        | some ad => exact run_firstCells_some w i.size 0 ad 0 c [] (by simp) (by simp)
      · cases ao with
        | none => rfl
        | some ad => exact run_firstCells_some w.drew i.size 0 ad 0 c [] (by simp) (by simp)
    exact ⟨_, w, run_append_nothing w t t ty e i ht hi a n cc hle _ hs, by simpa using hown, ⟨rfl, rfl, rfl, Nat.le_refl _, fun _ _ _ => rfl⟩, Or.inl rfl⟩
  · rcases hsrc with h0 | ⟨ad, rfl, hc⟩
    · exact absurd h0 hm
    obtain ⟨v', w', r1, r2, r3, _, r5⟩ := run_append_own_at (P := P) w base t ty e i z size bytes ht hi hz hsize hby hzs hpos v n xs hown ad m c news (by omega) hc h1 h63 hbytes hbase
    exact ⟨v', w', r1, r2, r3, r5⟩
theorem wp_append_k {w : World} {o : Oper} {a : Act} {K : Act → World → Prop} {Q : Exit → Act → World → Prop} (s x : Operand) (t : TypeId)
    (ho : o.op = .call { callee := .builtin .append, args := #[s, x], argTypes := #[t, t] })
    (base : Nat) (e : TypeId) (i : TypeInfo) (z : Value) (size bytes : Nat) (ht : P.underlying t = some (.slice e)) (hi : P.info? e = some i) (hz : i.zero = some z) (hsize : i.size = size) (hpos : 0 < size) (hby : i.bytes = bytes) (hzs : z.cells.size = size)
    (v : Value) (n : Nat) (xs : List Value) (hs : a.eval s = v) (hown : w.ownsRow base e size v n xs) (ao : Option Addr) (m c : Nat) (news : List Value) (hx : a.eval x = .slice ao m c) (hl : news.length = m * size)
    (hsrc : m = 0 ∨ ∃ ad, ao = some ad ∧ ∀ j u, news[j]? = some u → w.cell? (ad.add j) = some u) (h1 : ∀ u ∈ news, u.oneCell' = true)
    (h63 : n + m ≤ maxLen) (hbytes : (n + m) * bytes ≤ 140737488355328) (hbase : base ≤ w.heap.size) (N : Nat) (L : List Value) (hN : N = n + m) (hL : L = xs ++ news)
    (h : ∀ (a' : Option Addr) (c' : Nat) (w' : World), w'.ownsRow base e size (.slice a' N c') N L → w.grownBy w' v.ownBlock → ((Value.slice a' N c').ownBlock = v.ownBlock ∨ (Value.slice a' N c').ownBlock = some w.heap.size) → K (a.put o.dst (.slice a' N c')) w') : o.wp P a w K Q := by
  subst hN hL
  obtain ⟨v', w', hr, h2, h3, h4⟩ := run_append_k (P := P) w base t o.type e i z size bytes ht hi hz hsize hpos hby hzs v n xs hown ao m c news hl hsrc h1 h63 hbytes hbase
  obtain ⟨a', c', rfl, _⟩ := row_formk h2
  unfold Oper.wp execOp
  simp only [ho, resolve, invoke, builtin, Sem.run_bind, Sem.run_pure, Result.andThen_ok, List.map_toArray, List.map_cons, List.map_nil, hs, hx, hr]
  exact h a' c' w' h2 h3 h4
theorem step_append_k {w : World} {ops : Array Oper} {o : Oper} {a : Act} {K : Act → World → Prop} {Q : Exit → Act → World → Prop} {E : Prop} (hgd : o.guard = none) (s x : Operand) (t : TypeId)
    (ho : o.op = .call { callee := .builtin .append, args := #[s, x], argTypes := #[t, t] })
    (base : Nat) (e : TypeId) (i : TypeInfo) (z : Value) (size bytes : Nat) (ht : P.underlying t = some (.slice e)) (hi : P.info? e = some i) (hz : i.zero = some z) (hsize : i.size = size) (hpos : 0 < size) (hby : i.bytes = bytes) (hzs : z.cells.size = size)
    (v : Value) (n : Nat) (xs : List Value) (hs : a.eval s = v) (hown : w.ownsRow base e size v n xs) (ao : Option Addr) (m c : Nat) (news : List Value) (hx : a.eval x = .slice ao m c) (hl : news.length = m * size)
    (hsrc : m = 0 ∨ ∃ ad, ao = some ad ∧ ∀ j u, news[j]? = some u → w.cell? (ad.add j) = some u) (h1 : ∀ u ∈ news, u.oneCell' = true)
    (h63 : n + m ≤ maxLen) (hbytes : (n + m) * bytes ≤ 140737488355328) (hbase : base ≤ w.heap.size) (N : Nat) (L : List Value) (hN : N = n + m) (hL : L = xs ++ news)
    (h : ∀ (a' : Option Addr) (c' : Nat) (w' : World), w'.ownsRow base e size (.slice a' N c') N L → w.grownBy w' v.ownBlock → ((Value.slice a' N c').ownBlock = v.ownBlock ∨ (Value.slice a' N c').ownBlock = some w.heap.size) → K (a.put o.dst (.slice a' N c')) w') :
    if Region.wanted o (yielded ops a.tmps) = true then Oper.wp P o a w K Q else E := by
  have hw : Region.wanted o (yielded ops a.tmps) = true := by simp [Region.wanted, hgd]
  rw [if_pos hw]
  exact wp_append_k s x t ho base e i z size bytes ht hi hz hsize hpos hby hzs v n xs hs hown ao m c news hx hl hsrc h1 h63 hbytes hbase N L hN hL h
theorem wpList_append_k {w : World} {ops : Array Oper} {rest : List Oper} {o : Oper} {a : Act} {Q : Exit → Act → World → Prop} (hgd : o.guard = none) (s x : Operand) (t : TypeId)
    (ho : o.op = .call { callee := .builtin .append, args := #[s, x], argTypes := #[t, t] })
    (base : Nat) (e : TypeId) (i : TypeInfo) (z : Value) (size bytes : Nat) (ht : P.underlying t = some (.slice e)) (hi : P.info? e = some i) (hz : i.zero = some z) (hsize : i.size = size) (hpos : 0 < size) (hby : i.bytes = bytes) (hzs : z.cells.size = size)
    (v : Value) (n : Nat) (xs : List Value) (hs : a.eval s = v) (hown : w.ownsRow base e size v n xs) (ao : Option Addr) (m c : Nat) (news : List Value) (hx : a.eval x = .slice ao m c) (hl : news.length = m * size)
    (hsrc : m = 0 ∨ ∃ ad, ao = some ad ∧ ∀ j u, news[j]? = some u → w.cell? (ad.add j) = some u) (h1 : ∀ u ∈ news, u.oneCell' = true)
    (h63 : n + m ≤ maxLen) (hbytes : (n + m) * bytes ≤ 140737488355328) (hbase : base ≤ w.heap.size) (N : Nat) (L : List Value) (hN : N = n + m) (hL : L = xs ++ news)
    (h : ∀ (a' : Option Addr) (c' : Nat) (w' : World), w'.ownsRow base e size (.slice a' N c') N L → w.grownBy w' v.ownBlock → ((Value.slice a' N c').ownBlock = v.ownBlock ∨ (Value.slice a' N c').ownBlock = some w.heap.size) → wpList P ops Q rest (a.put o.dst (.slice a' N c')) w') :
    wpList P ops Q (o :: rest) a w := by
  refine wpList_plain hgd fun K hK => ?_
  exact wp_append_k s x t ho base e i z size bytes ht hi hz hsize hpos hby hzs v n xs hs hown ao m c news hx hl hsrc h1 h63 hbytes hbase N L hN hL (fun a' c' w' h2 h3 h4 => hK _ _ (h a' c' w' h2 h3 h4))
end
end Go.Proofs.YtobdhcaoeholhaaGreatDoor
/- append of a string's bytes to a row of the call's own. Nothing here speaks of one program. -/
namespace Go.Proofs.YtobdhcaoeholhaaGreatDoor
open Go.RowKit
set_option linter.unusedVariables false

section
variable {P : Program}
theorem run_append_room_row (w : World) (t tx ty e : TypeId) (i : TypeInfo) (ht : P.underlying t = some (.slice e)) (hi : P.info? e = some i) (g sLen sCap : Nat) (cur : Array Value) (hg : w.heap[g]? = some (.cells cur e (0, 0)))
    (x : Value) (n : Nat) (news : List Value) (hs : Src P i.size tx x n news w) (hroom : sLen + n ≤ sCap) (hfit : sLen * i.size + news.length ≤ cur.size) :
    (Builtin.append_ #[t, tx] ty #[.slice (some ⟨g, 0, none⟩) sLen sCap, x]).run P w =
      .ok (.slice (some ⟨g, 0, none⟩) (sLen + n) sCap) (w.setRow g (cur.toList.take (sLen * i.size) ++ news ++ cur.toList.drop (sLen * i.size + news.length)).toArray) := by
  have hst := run_storeCells_at P g (sLen * i.size) e news 0 cur w hg (by simpa using hfit) hs.one
  simp only [Nat.add_zero] at hst
  rcases hs.kind with ⟨e', hk⟩ | hk <;> simp [Builtin.append_, run_underlying ht, run_underlying hk, sizeOf, typeInfo, hi, hs.len, hroom, hs.cells, Addr.add_lit, hst]
theorem run_append_src (w : World) (base : Nat) (t tx ty e : TypeId) (i : TypeInfo) (z : Value) (size bytes : Nat) (ht : P.underlying t = some (.slice e)) (hi : P.info? e = some i) (hz : i.zero = some z) (hsize : i.size = size) (hpos : 0 < size) (hby : i.bytes = bytes) (hzs : z.cells.size = size)
    (v : Value) (n : Nat) (xs : List Value) (hown : w.ownsRow base e size v n xs) (x : Value) (m : Nat) (news : List Value) (hs : Src P i.size tx x m news w)
    (h63 : n + m ≤ maxLen) (hbytes : (n + m) * bytes ≤ 140737488355328) (hbase : base ≤ w.heap.size) :
    ∃ v' w', (Builtin.append_ #[t, tx] ty #[v, x]).run P w = .ok v' w' ∧ w'.ownsRow base e size v' (n + m) (xs ++ news) ∧ w.grownBy w' v.ownBlock ∧ (v'.ownBlock = v.ownBlock ∨ v'.ownBlock = some w.heap.size) := by
  subst hsize
  subst hby
  have hl := hs.newsLen
  have hsmall : n + m ≤ 9223372036854775807 := by simp only [maxLen] at h63; omega
  have hlen : (xs ++ news).length = (n + m) * i.size := by rw [List.length_append, hown.1, hl, Nat.add_mul]
  have grown : ∀ (old : Nat), old < n + m → ∀ (row : Option Nat),
      (w.drew.alloc (.cells ((xs ++ news).toArray ++ Builtin.zeroCells z.cells (grownCap w (n + m) old e - (n + m))) e)).ownsRow base e i.size
        (.slice (some ⟨w.heap.size, 0, none⟩) (n + m) (grownCap w (n + m) old e)) (n + m) (xs ++ news) ∧
      w.grownBy (w.drew.alloc (.cells ((xs ++ news).toArray ++ Builtin.zeroCells z.cells (grownCap w (n + m) old e - (n + m))) e)) row := by
    intro old ho row
    have hge := grownCap_ge w (n + m) old e
    have hcm : grownCap w (n + m) old e ≤ maxLen := grownCap_le_maxLen w (n + m) old e h63
    refine ⟨⟨hlen, .inr ⟨w.heap.size, _, _, rfl, hbase, heap_alloc_new w.drew _, hge, hcm, ?_, ?_⟩⟩, ⟨rfl, rfl, rfl, by simp, fun k hk _ => by first | exact heap_alloc_old w.drew _ hk | exact heap_alloc_old w.drew _ _ hk⟩⟩
    · simp only [Array.size_append, List.size_toArray, size_zeroCells, hzs, hlen, ← Nat.add_mul]
      congr 1
      omega
    · simp only [Array.toList_append]
      rw [← hlen]
      exact List.take_left
  rcases hown.2 with ⟨rfl, rfl⟩ | ⟨g, cap, cur, rfl, hbg, hg, hnc, hcm, hcs, htake⟩
  · have hx : xs = [] := List.eq_nil_of_length_eq_zero (by simpa using hown.1)
    subst hx
    by_cases hm : m = 0
    · subst hm
      have hn : news = [] := List.eq_nil_of_length_eq_zero (by simpa using hl)
      subst hn
      exact ⟨_, w, run_append_nothing w t tx ty e i ht hi none 0 0 (Nat.le_refl _) x hs, by simpa using hown, ⟨rfl, rfl, rfl, Nat.le_refl _, fun _ _ _ => rfl⟩, Or.inl rfl⟩
    · have hr := run_append_grow_src (P := P) w t tx ty e i z ht hi hz none 0 0 [] (run_firstCells_none w.drew i.size 0 0 0) x m news hs (by omega) (by omega) (growslice_fits (by omega) (by simpa using hbytes))
      have hgr := grown 0 (by omega) (Value.ownBlock (.slice none 0 0))
      simp only [Nat.zero_add, List.nil_append] at hgr hr ⊢
      exact ⟨_, _, hr, hgr.1, hgr.2, Or.inr rfl⟩
  · by_cases hroom : n + m ≤ cap
    · have hfit : n * i.size + news.length ≤ cur.size := by rw [hl, hcs, ← Nat.add_mul]; exact Nat.mul_le_mul_right _ hroom
      have hr := run_append_room_row (P := P) w t tx ty e i ht hi g n cap cur hg x m news hs hroom hfit
      refine ⟨_, _, hr, ⟨hlen, .inr ⟨g, cap, _, rfl, hbg, setRow_heap w g cur _ e _ hg, hroom, hcm, ?_, ?_⟩⟩, ⟨rfl, rfl, rfl, by simp, fun k _ hk => setRow_other w g k _ (fun e => hk (by simp [Value.ownBlock, e]))⟩, Or.inl rfl⟩
      · simp only [List.size_toArray, List.length_append, List.length_take, List.length_drop, Array.length_toList]
        omega
      · rw [htake, ← hlen]
        exact List.take_left
    · have holds : ∀ j u, xs[j]? = some u → w.cell? ((⟨g, 0, none⟩ : Addr).add j) = some u := hown.cells (g := g) rfl
      have hr := run_append_grow_src (P := P) w t tx ty e i z ht hi hz (some ⟨g, 0, none⟩) n cap xs (run_firstCells_some w.drew i.size n ⟨g, 0, none⟩ n cap xs hown.1 (by simpa using holds)) x m news hs (by omega) (by omega) (growslice_fits (by omega) hbytes)
      have hgr := grown cap (by omega) (Value.ownBlock (.slice (some ⟨g, 0, none⟩) n cap))
      exact ⟨_, _, hr, hgr.1, hgr.2, Or.inr rfl⟩
theorem wpList_append_s {w : World} {ops : Array Oper} {rest : List Oper} {o : Oper} {a : Act} {Q : Exit → Act → World → Prop} (hgd : o.guard = none) (s x : Operand) (t tx : TypeId)
    (ho : o.op = .call { callee := .builtin .append, args := #[s, x], argTypes := #[t, tx] })
    (base : Nat) (e : TypeId) (i : TypeInfo) (z : Value) (bytes : Nat) (ht : P.underlying t = some (.slice e)) (htx : P.underlying tx = some .string) (hi : P.info? e = some i) (hz : i.zero = some z) (hsize : i.size = 1) (hby : i.bytes = bytes) (hzs : z.cells.size = 1)
    (v : Value) (n : Nat) (xs : List Value) (hs : a.eval s = v) (hown : w.ownsRow base e 1 v n xs) (b : ByteArray) (hx : a.eval x = .string b)
    (h63 : n + b.size ≤ maxLen) (hbytes : (n + b.size) * bytes ≤ 140737488355328) (hbase : base ≤ w.heap.size)
    (h : ∀ (a' : Option Addr) (c' : Nat) (w' : World), w'.ownsRow base e 1 (.slice a' (n + b.size) c') (n + b.size) (xs ++ byteCells b) → w.grownBy w' v.ownBlock → ((Value.slice a' (n + b.size) c').ownBlock = v.ownBlock ∨ (Value.slice a' (n + b.size) c').ownBlock = some w.heap.size) → wpList P ops Q rest (a.put o.dst (.slice a' (n + b.size) c')) w') :
    wpList P ops Q (o :: rest) a w := by
  refine wpList_plain hgd fun K hK => ?_
  obtain ⟨v', w', hr, h2, h3, h4⟩ := run_append_src (P := P) w base t tx o.type e i z 1 bytes ht hi hz hsize (by omega) hby hzs v n xs hown (.string b) b.size (byteCells b) (by rw [hsize]; exact Src.ofString w htx b) h63 hbytes hbase
  obtain ⟨a', c', rfl, _⟩ := row_formk h2
  unfold Oper.wp execOp
  simp only [ho, resolve, invoke, builtin, Sem.run_bind, Sem.run_pure, Result.andThen_ok, List.map_toArray, List.map_cons, List.map_nil, hs, hx, hr]
  exact hK _ _ (h a' c' w' h2 h3 h4)
end
end Go.Proofs.YtobdhcaoeholhaaGreatDoor
/- Terms as trees, as chapter 7 says them. Nothing here is walked. -/
namespace Go.Proofs.YtobdhcaoeholhaaGreatDoor

inductive Tm where
  | mk (k n : Int) (s : ByteArray) (ts : List Tm)
namespace Tm
def k : Tm → Int | mk k _ _ _ => k
def n : Tm → Int | mk _ n _ _ => n
def s : Tm → ByteArray | mk _ _ s _ => s
def args : Tm → List Tm | mk _ _ _ ts => ts
end Tm
mutual
/-- How many terms it is made of. -/
def sizeN : Tm → Nat
  | .mk _ _ _ ts => sizesN ts + 1
def sizesN : List Tm → Nat
  | [] => 0
  | x :: r => sizeN x + sizesN r
end
mutual
def depthN : Tm → Nat
  | .mk _ _ _ ts => depthsN ts + 1
def depthsN : List Tm → Nat
  | [] => 0
  | x :: r => max (depthN x) (depthsN r)
end
def letterB (c : UInt8) : Bool := c == 9 || c == 10 || (decide (32 ≤ c) && decide (c ≤ 126))
/-- What a term's own fields may be. -/
def plainT (k n : Int) (s : List UInt8) (m : Nat) : Bool :=
  if k = 0 then decide (0 ≤ n) && decide (n < 2147483648) && s.isEmpty && decide (m = 0)
  else if k = 1 then s.isEmpty && decide (m = 0)
  else if k = 2 then decide (n = 0) && decide (s.length ≤ 64) && decide (m ≤ 8) && s.all letterB
  else false
mutual
def formedT : Tm → Bool
  | .mk k n s ts => plainT k n s.data.toList ts.length && formedL ts
def formedL : List Tm → Bool
  | [] => true
  | x :: r => formedT x && formedL r
end
def goodT (t : Tm) : Bool := decide (sizeN t ≤ 2000) && decide (depthN t ≤ 64) && formedT t
mutual
/-- The variables' numbers behind those of 'l', each once. -/
def varsT : Tm → List Int → List Int
  | .mk k n _ ts, l => if k = 0 then (if l.contains n then l else l ++ [n]) else varsL ts l
def varsL : List Tm → List Int → List Int
  | [], l => l
  | x :: r, l => varsL r (varsT x l)
end
mutual
def sameT : Tm → Tm → Bool
  | .mk k n s ts, .mk k' n' s' ts' => k == k' && n == n' && s.data.toList == s'.data.toList && sameL ts ts'
def sameL : List Tm → List Tm → Bool
  | [], [] => true
  | x :: r, y :: q => sameT x y && sameL r q
  | _, _ => false
end
def dotS : ByteArray := ⟨#[46]⟩
def consT (a b : Tm) : Tm := .mk 2 0 dotS [a, b]
def listT : List Tm → Tm → Tm
  | [], t => t
  | x :: r, t => consT x (listT r t)
/-- Two Args under the list's name. -/
def pairA (c : Bool) : List Tm → Option (Tm × Tm)
  | [a, b] => if c then some (a, b) else none
  | _ => none
def pairT : Tm → Option (Tm × Tm)
  | .mk k _ s ts => pairA (k == 2 && s.data.toList == [46]) ts
theorem size_pos (t : Tm) : 1 ≤ sizeN t := by cases t; rw [sizeN]; omega
theorem depth_pos (t : Tm) : 1 ≤ depthN t := by cases t; rw [depthN]; omega
theorem sizes_mem : ∀ {l : List Tm} {x : Tm}, x ∈ l → sizeN x ≤ sizesN l
  | y :: r, x, h => by
    rw [sizesN]
    rcases List.mem_cons.1 h with rfl | h
    · omega
    · have := sizes_mem h; omega
theorem depths_mem : ∀ {l : List Tm} {x : Tm}, x ∈ l → depthN x ≤ depthsN l
  | y :: r, x, h => by
    rw [depthsN]
    rcases List.mem_cons.1 h with rfl | h
    · omega
    · have := depths_mem h; omega
theorem formed_mem : ∀ {l : List Tm} {x : Tm}, formedL l = true → x ∈ l → formedT x = true
  | y :: r, x, hf, h => by
    rw [formedL, Bool.and_eq_true] at hf
    rcases List.mem_cons.1 h with rfl | h
    · exact hf.1
    · exact formed_mem hf.2 h
theorem good_parts {t : Tm} (h : goodT t = true) : sizeN t ≤ 2000 ∧ depthN t ≤ 64 ∧ formedT t = true := by
  unfold goodT at h
  simp only [Bool.and_eq_true, decide_eq_true_eq] at h
  exact ⟨h.1.1, h.1.2, h.2⟩
theorem good_of {t : Tm} (h1 : sizeN t ≤ 2000) (h2 : depthN t ≤ 64) (h3 : formedT t = true) : goodT t = true := by
  unfold goodT
  simp [h1, h2, h3]
/-- An Arg of a good one is good. -/
theorem good_arg {t x : Tm} (h : goodT t = true) (hx : x ∈ t.args) : goodT x = true := by
  obtain ⟨h1, h2, h3⟩ := good_parts h
  cases t with
  | mk k n s ts =>
    have hx' : x ∈ ts := hx
    rw [sizeN] at h1
    rw [depthN] at h2
    rw [formedT, Bool.and_eq_true] at h3
    have a := sizes_mem hx'
    have b := depths_mem hx'
    exact good_of (by omega) (by omega) (formed_mem h3.2 hx')
theorem bytes_eq {s t : ByteArray} (h : s.data.toList = t.data.toList) : s = t := by
  obtain ⟨⟨l⟩⟩ := s; obtain ⟨⟨m⟩⟩ := t; simp at h; rw [h]
mutual
theorem same_iff : ∀ (a b : Tm), sameT a b = true ↔ a = b
  | .mk k n s ts, .mk k' n' s' ts' => by
    rw [sameT]
    simp only [Bool.and_eq_true, beq_iff_eq, Tm.mk.injEq]
    rw [sames_iff ts ts']
    constructor
    · rintro ⟨⟨⟨h1, h2⟩, h3⟩, h4⟩; exact ⟨h1, h2, bytes_eq h3, h4⟩
    · rintro ⟨h1, h2, h3, h4⟩; exact ⟨⟨⟨h1, h2⟩, by rw [h3]⟩, h4⟩
theorem sames_iff : ∀ (a b : List Tm), sameL a b = true ↔ a = b
  | [], [] => by simp [sameL]
  | x :: r, y :: q => by
    rw [sameL]
    simp only [Bool.and_eq_true, List.cons.injEq]
    rw [same_iff x y, sames_iff r q]
  | [], y :: q => by simp [sameL]
  | x :: r, [] => by simp [sameL]
end
theorem pairA_some {c : Bool} {ts : List Tm} {a b : Tm} (h : pairA c ts = some (a, b)) : c = true ∧ ts = [a, b] := by
  match ts, h with
  | [], h => cases h
  | [x], h => cases h
  | [x, y], h =>
    unfold pairA at h
    cases c
    · cases h
    · cases h; exact ⟨rfl, rfl⟩
  | x :: y :: z :: r, h => cases h
theorem pair_size {t a b : Tm} (h : pairT t = some (a, b)) : sizeN b < sizeN t ∧ t.args = [a, b] ∧ t.k = 2 ∧ t.s = dotS := by
  cases t with
  | mk k n s ts =>
    obtain ⟨hc, rfl⟩ := pairA_some h
    simp only [Bool.and_eq_true, beq_iff_eq] at hc
    refine ⟨?_, rfl, hc.1, bytes_eq hc.2⟩
    rw [sizeN, sizesN, sizesN, sizesN]
    have := size_pos a
    omega
/-- The items, and what ends them. -/
def itemsF : Nat → Tm → List Tm × Tm
  | 0, t => ([], t)
  | m + 1, t => match pairT t with
    | some (a, b) => (a :: (itemsF m b).1, (itemsF m b).2)
    | none => ([], t)
def itemsT (t : Tm) : List Tm × Tm := itemsF (sizeN t) t
theorem items_fuel : ∀ (m m' : Nat) (t : Tm), sizeN t ≤ m → sizeN t ≤ m' → itemsF m t = itemsF m' t
  | 0, m', t, h, _ => by have := size_pos t; omega
  | m + 1, 0, t, _, h => by have := size_pos t; omega
  | m + 1, m' + 1, t, h, h' => by
    rw [itemsF, itemsF]
    cases hp : pairT t with
    | none => rfl
    | some q =>
      obtain ⟨a, b⟩ := q
      have := pair_size hp
      simp only
      rw [items_fuel m m' b (by omega) (by omega)]
theorem items_none {t : Tm} (h : pairT t = none) : itemsT t = ([], t) := by
  unfold itemsT
  have := size_pos t
  rw [show sizeN t = (sizeN t - 1) + 1 by omega, itemsF, h]
theorem items_some {t a b : Tm} (h : pairT t = some (a, b)) : itemsT t = (a :: (itemsT b).1, (itemsT b).2) := by
  unfold itemsT
  have h1 := pair_size h
  have := size_pos t
  rw [show sizeN t = (sizeN t - 1) + 1 by omega, itemsF, h]
  simp only
  rw [items_fuel (sizeN t - 1) (sizeN b) b (by omega) (Nat.le_refl _)]
/-- The items of a good one, and what ends them, make it again. -/
theorem list_items : ∀ (m : Nat) (t : Tm), sizeN t ≤ m → formedT t = true → listT (itemsT t).1 (itemsT t).2 = t
  | 0, t, h, _ => by have := size_pos t; omega
  | m + 1, t, h, hf => by
    cases hp : pairT t with
    | none => rw [items_none hp]; rfl
    | some q =>
      obtain ⟨a, b⟩ := q
      obtain ⟨h1, h2, h3, h4⟩ := pair_size hp
      rw [items_some hp]
      cases t with
      | mk k n s ts =>
        cases (show k = 2 from h3)
        cases (show s = dotS from h4)
        cases (show ts = [a, b] from h2)
        rw [formedT, Bool.and_eq_true] at hf
        have hb : formedT b = true := formed_mem hf.2 (by simp)
        have hn : n = 0 := by
          have := hf.1
          unfold plainT at this
          simp at this
          exact this.1.1
        subst hn
        show consT a (listT (itemsT b).1 (itemsT b).2) = _
        rw [list_items m b (by omega) hb]
        rfl
end Go.Proofs.YtobdhcaoeholhaaGreatDoor
/- Small facts of ours on worlds: what is laid anew, what is drawn, a row that stays. Nothing here speaks of one program. -/
namespace Go.Proofs.YtobdhcaoeholhaaGreatDoor
open Go.RowKit
theorem bel1' (w : World) (o : Obj) : Below w.heap.size w (w.alloc o) := (Below.refl _ _).alloc (Nat.le_refl _) o
theorem bel_drewN {B : Nat} {a w : World} (h : Below B a w) (n : Nat) : Below B a (w.drewN n) := ⟨h.os, h.tape, h.output, h.size, h.block⟩
theorem row_ext {w w' : World} {B k n : Nat} {e : TypeId} {v : Value} {xs : List Value} (h : w.ownsRow B e k v n xs) (hb : Below w.heap.size w w') : w'.ownsRow B e k v n xs := by
  obtain ⟨h0, h1⟩ := h
  refine ⟨h0, ?_⟩
  rcases h1 with h1 | ⟨g, cap, cur, rfl, hg, hh, h2⟩
  · exact Or.inl h1
  · exact Or.inr ⟨g, cap, cur, rfl, hg, by rw [hb.block g (Array.getElem?_eq_some_iff.1 hh).1]; exact hh, h2⟩
end Go.Proofs.YtobdhcaoeholhaaGreatDoor
/- How the arguments of a law are opened: from the form's reading to our own predicates. Nothing here speaks of one program. -/
namespace Go.Proofs.YtobdhcaoeholhaaGreatDoor
open Go.RowKit Go.ChangeShapes Go.WideShapes Go.ChangeAt

section
variable {H : Type} {enc : TypeId × Value → H} {P : Program} {W : World}

theorem weights_ok {ts : List TypeId} {ds : List (DataW H)} (h : (DataW.weightsEach P ts ds).all (· ≤ reachBytes) = true) {j : Nat} {t : TypeId} {d : DataW H} (ht : ts[j]? = some t) (hd : ds[j]? = some d) :
    ∀ n ∈ d.weights P t, n ≤ 140737488351232 := fun n hn => by
  have := List.all_eq_true.1 h n (DataW.weights_mem_each ht hd n hn)
  have e : reachBytes = 140737488351232 := by decide
  simpa [e] using this
theorem lt_of_trod {t : TypeId} {v : Value} {d : DataW H} {ps : List MemPlace} (h : DataW.Trod enc P W 0 (fun _ => true) true t v d ps) : ∀ x ∈ ps, x.block < W.heap.size := by
  obtain ⟨m, hm⟩ := h; exact DataW.trod_lt m _ _ _ hm

theorem add_plain (b o i : Nat) : (⟨b, o, none⟩ : Addr).add i = ⟨b, o + i, none⟩ := by
  unfold Addr.add; split
  · rename_i h; rw [h]; rfl
  · rfl
end
end Go.Proofs.YtobdhcaoeholhaaGreatDoor
/- A slice of whatever elements that came in, opened element by element. Nothing here speaks of one program. -/
namespace Go.Proofs.YtobdhcaoeholhaaGreatDoor
open Go.RowKit Go.ChangeShapes Go.WideShapes Go.ChangeAt Go.Deep

/-- The value reads as these elements, of S cells each. -/
def Elems {α : Type} (S : Nat) (cells : α → List Value) (w : World) (v : Value) (xs : List α) : Prop :=
  ∃ (a : Option Addr) (cap : Nat), v = .slice a xs.length cap ∧ xs.length ≤ cap ∧ cap ≤ maxLen ∧
    (xs = [] ∨ ∃ b off, a = some ⟨b, off, none⟩ ∧ b < w.heap.size ∧ ∀ (i : Nat) (x : α), xs[i]? = some x → ∀ (j : Nat) (u : Value), (cells x)[j]? = some u → w.cell? ⟨b, off + (i * S + j), none⟩ = some u)
theorem Elems.ext {α : Type} {S : Nat} {cells : α → List Value} {w w' : World} {v : Value} {xs : List α} (h : Elems S cells w v xs) (hb : Below w.heap.size w w') : Elems S cells w' v xs := by
  obtain ⟨a, cap, h1, h2, h3, h6⟩ := h
  refine ⟨a, cap, h1, h2, h3, ?_⟩
  rcases h6 with h6 | ⟨b, off, e1, e2, e3⟩
  · exact Or.inl h6
  · exact Or.inr ⟨b, off, e1, Nat.lt_of_lt_of_le e2 hb.size, fun i x hx j u hu => cell_later hb (e3 i x hx j u hu)⟩

section
variable {H : Type} {enc : TypeId × Value → H} {P : Program} {W : World}
end
end Go.Proofs.YtobdhcaoeholhaaGreatDoor
/- Operators: what they are, and the calls that only read one of them: side, may, mayAdd, Sides. -/
namespace Go.Proofs.YtobdhcaoeholhaaGreatDoor
open Go.RowKit

structure O where
  n : ByteArray
  k : ByteArray
  l : Int
instance : Inhabited O := ⟨⟨⟨#[]⟩, ⟨#[]⟩, 0⟩⟩
def oCells (o : O) : List Value := [.string o.n, .string o.k, .int .i64 o.l]
abbrev oVal (o : O) : Value := .agg #[.string o.n, .string o.k, .int .i64 o.l]
theorem oCells_len (o : O) : (oCells o).length = 3 := rfl

/-- 2 between, 1 ahead, 0 none. -/
def sideB (k : List UInt8) : Int :=
  if k == [120, 102, 120] then 2 else if k == [120, 102, 121] then 2 else if k == [121, 102, 120] then 2 else if k == [102, 121] then 1 else if k == [102, 120] then 1 else 0
def mayB (n k : List UInt8) (l : Int) : Bool :=
  if n == [44] then k == [120, 102, 121] && l == 1000
  else if n == [] then false else if n == [124] then false else if n == [91, 93] then false else if n == [123, 125] then false
  else decide ((n.length : Int) ≤ 64) && (sideB k != 0) && decide (1 ≤ l) && decide (l ≤ 1200)
def sidesB (k : List UInt8) (l : Int) : Int × Int :=
  if k == [120, 102, 120] then (wrap64 (l - 1), wrap64 (l - 1)) else if k == [120, 102, 121] then (wrap64 (l - 1), l) else if k == [121, 102, 120] then (l, wrap64 (l - 1)) else if k == [102, 121] then (0, l) else if k == [102, 120] then (0, wrap64 (l - 1)) else (0, 0)

theorem side_walk (k : ByteArray) (w : World) : Calls Tryz.prog 88 #[.string k] w fun e w' => e = .returned (.int .i64 (sideB (bl k))) ∧ w = w' := by
  cases h1 : (k.toList == [120, 102, 120])
  · cases h2 : (k.toList == [120, 102, 121])
    · cases h3 : (k.toList == [121, 102, 120])
      · cases h4 : (k.toList == [102, 121])
        · cases h5 : (k.toList == [102, 120])
          · go_enter Tryz.func88, Tryz.ntmps88
            go_wp2
            go_ret
            refine ⟨ret_int ?_, rfl⟩
            rw [Lib.toList_data] at h1 h2 h3 h4 h5
            simp [sideB, bl, h1, h2, h3, h4, h5]
          · go_enter Tryz.func88, Tryz.ntmps88
            go_wp2
            go_ret
            refine ⟨ret_int ?_, rfl⟩
            rw [Lib.toList_data] at h1 h2 h3 h4 h5
            simp [sideB, bl, h1, h2, h3, h4, h5]
        · go_enter Tryz.func88, Tryz.ntmps88
          go_wp2
          go_ret
          refine ⟨ret_int ?_, rfl⟩
          rw [Lib.toList_data] at h1 h2 h3 h4
          simp [sideB, bl, h1, h2, h3, h4]
      · go_enter Tryz.func88, Tryz.ntmps88
        go_wp2
        go_ret
        refine ⟨ret_int ?_, rfl⟩
        rw [Lib.toList_data] at h1 h2 h3
        simp [sideB, bl, h1, h2, h3]
    · go_enter Tryz.func88, Tryz.ntmps88
      go_wp2
      go_ret
      refine ⟨ret_int ?_, rfl⟩
      rw [Lib.toList_data] at h1 h2
      simp [sideB, bl, h1, h2]
  · go_enter Tryz.func88, Tryz.ntmps88
    go_wp2
    go_ret
    refine ⟨ret_int ?_, rfl⟩
    rw [Lib.toList_data] at h1
    simp [sideB, bl, h1]

theorem tests_bl {n : ByteArray} {l : List UInt8} {b : Bool} (h : (n.toList == l) = b) : (bl n == l) = b := by rw [Lib.toList_data] at h; exact h
set_option maxRecDepth 100000
set_option maxHeartbeats 1000000 in
/-- May an operator be. -/
theorem may_walk (n k : ByteArray) (l : Int) (w : World) :
    Calls Tryz.prog 86 #[.agg #[.string n, .string k, .int .i64 l]] w fun e w' => e = .returned (.bool (mayB (bl n) (bl k) l)) ∧ Below w.heap.size w w' := by
  cases h0 : (n.toList == [44])
  · cases h1 : (n.toList == [])
    · cases h2 : (n.toList == [124])
      · cases h3 : (n.toList == [91, 93])
        · cases h4 : (n.toList == [123, 125])
          · have hE : mayB (bl n) (bl k) l = (decide ((n.size : Int) ≤ 64) && (sideB (bl k) != 0) && decide (1 ≤ l) && decide (l ≤ 1200)) := by
              unfold mayB; rw [tests_bl h0, tests_bl h1, tests_bl h2, tests_bl h3, tests_bl h4]; rfl
            rw [hE]; clear hE
            have hS := side_walk k
            obtain ⟨z, hz⟩ : ∃ z, sideB (bl k) = z := ⟨_, rfl⟩
            rw [hz]; rw [hz] at hS; clear hz
            have HS := Lib.hid hS; clear hS
            cases h5 : decide ((n.size : Int) ≤ 64)
            · go_enter Tryz.func86, Tryz.ntmps86
              go_wp2
              go_ret
              exact ⟨rfl, bel1' _ _⟩
            · cases h6 : (z != 0)
              · go_enter Tryz.func86, Tryz.ntmps86
                (go_wp2_with fail; go_fit (HS.out _); rintro e w' ⟨rfl, rfl⟩)
                go_wp2
                go_ret
                exact ⟨rfl, bel1' _ _⟩
              · cases h7 : decide (1 ≤ l)
                · go_enter Tryz.func86, Tryz.ntmps86
                  (go_wp2_with fail; go_fit (HS.out _); rintro e w' ⟨rfl, rfl⟩)
                  go_wp2
                  go_ret
                  exact ⟨rfl, bel1' _ _⟩
                · cases h8 : decide (l ≤ 1200)
                  · go_enter Tryz.func86, Tryz.ntmps86
                    (go_wp2_with fail; go_fit (HS.out _); rintro e w' ⟨rfl, rfl⟩)
                    go_wp2
                    go_ret
                    exact ⟨rfl, bel1' _ _⟩
                  · go_enter Tryz.func86, Tryz.ntmps86
                    (go_wp2_with fail; go_fit (HS.out _); rintro e w' ⟨rfl, rfl⟩)
                    go_wp2
                    go_ret
                    exact ⟨rfl, bel1' _ _⟩
          · have hE : mayB (bl n) (bl k) l = false := by unfold mayB; simp only [tests_bl h0, tests_bl h1, tests_bl h2, tests_bl h3, tests_bl h4, if_true]; rfl
            rw [hE]; clear hE
            go_enter Tryz.func86, Tryz.ntmps86
            go_wp2
            go_ret
            exact ⟨rfl, bel1' _ _⟩
        · have hE : mayB (bl n) (bl k) l = false := by unfold mayB; simp only [tests_bl h0, tests_bl h1, tests_bl h2, tests_bl h3, if_true]; rfl
          rw [hE]; clear hE
          go_enter Tryz.func86, Tryz.ntmps86
          go_wp2
          go_ret
          exact ⟨rfl, bel1' _ _⟩
      · have hE : mayB (bl n) (bl k) l = false := by unfold mayB; simp only [tests_bl h0, tests_bl h1, tests_bl h2, if_true]; rfl
        rw [hE]; clear hE
        go_enter Tryz.func86, Tryz.ntmps86
        go_wp2
        go_ret
        exact ⟨rfl, bel1' _ _⟩
    · have hE : mayB (bl n) (bl k) l = false := by unfold mayB; simp only [tests_bl h0, tests_bl h1, if_true]; rfl
      rw [hE]; clear hE
      go_enter Tryz.func86, Tryz.ntmps86
      go_wp2
      go_ret
      exact ⟨rfl, bel1' _ _⟩
  · have hE : mayB (bl n) (bl k) l = ((k.toList == [120, 102, 121]) && (l == 1000)) := by unfold mayB; rw [if_pos (tests_bl h0)]; rw [Lib.toList_data]
    rw [hE]; clear hE
    cases h1 : (k.toList == [120, 102, 121])
    · go_enter Tryz.func86, Tryz.ntmps86
      go_wp2
      go_ret
      exact ⟨rfl, bel1' _ _⟩
    · cases h2 : (l == 1000)
      · go_enter Tryz.func86, Tryz.ntmps86
        go_wp2
        go_ret
        exact ⟨rfl, bel1' _ _⟩
      · go_enter Tryz.func86, Tryz.ntmps86
        go_wp2
        go_ret
        exact ⟨rfl, bel1' _ _⟩

theorem sides_walk (n k : ByteArray) (l : Int) (w : World) :
    Calls Tryz.prog 110 #[.agg #[.string n, .string k, .int .i64 l]] w fun e w' => e = .returned (.tuple #[.int .i64 (sidesB (bl k) l).1, .int .i64 (sidesB (bl k) l).2]) ∧ Below w.heap.size w w' := by
  cases h1 : (k.toList == [120, 102, 120])
  · cases h2 : (k.toList == [120, 102, 121])
    · cases h3 : (k.toList == [121, 102, 120])
      · cases h4 : (k.toList == [102, 121])
        · cases h5 : (k.toList == [102, 120])
          · have hE : sidesB (bl k) l = (0, 0) := by unfold sidesB; simp only [tests_bl h1, tests_bl h2, tests_bl h3, tests_bl h4, tests_bl h5, if_true]; try rfl
            rw [hE]; clear hE
            go_enter Tryz.func110, Tryz.ntmps110
            go_wp2
            go_ret2
            exact ⟨rfl, by first | exact bel1' _ _ | exact bel_drewN (bel1' _ _) _⟩
          · have hE : sidesB (bl k) l = (0, wrap64 (l - 1)) := by unfold sidesB; simp only [tests_bl h1, tests_bl h2, tests_bl h3, tests_bl h4, tests_bl h5, if_true]; try rfl
            rw [hE]; clear hE
            go_enter Tryz.func110, Tryz.ntmps110
            go_wp2_with fail
            go_quiet (fail)
            go_wp2
            go_ret2
            exact ⟨rfl, by first | exact bel1' _ _ | exact bel_drewN (bel1' _ _) _⟩
        · have hE : sidesB (bl k) l = (0, l) := by unfold sidesB; simp only [tests_bl h1, tests_bl h2, tests_bl h3, tests_bl h4, if_true]; try rfl
          rw [hE]; clear hE
          go_enter Tryz.func110, Tryz.ntmps110
          go_wp2_with fail
          go_quiet (fail)
          go_wp2
          go_ret2
          exact ⟨rfl, by first | exact bel1' _ _ | exact bel_drewN (bel1' _ _) _⟩
      · have hE : sidesB (bl k) l = (l, wrap64 (l - 1)) := by unfold sidesB; simp only [tests_bl h1, tests_bl h2, tests_bl h3, if_true]; try rfl
        rw [hE]; clear hE
        go_enter Tryz.func110, Tryz.ntmps110
        go_wp2_with fail
        go_quiet (fail)
        go_wp2
        go_ret2
        exact ⟨rfl, by first | exact bel1' _ _ | exact bel_drewN (bel1' _ _) _⟩
    · have hE : sidesB (bl k) l = (wrap64 (l - 1), l) := by unfold sidesB; simp only [tests_bl h1, tests_bl h2, if_true]; try rfl
      rw [hE]; clear hE
      go_enter Tryz.func110, Tryz.ntmps110
      go_wp2_with fail
      go_quiet (fail)
      go_wp2
      go_ret2
      exact ⟨rfl, by first | exact bel1' _ _ | exact bel_drewN (bel1' _ _) _⟩
  · have hE : sidesB (bl k) l = (wrap64 (l - 1), wrap64 (l - 1)) := by unfold sidesB; simp only [tests_bl h1, if_true]; try rfl
    rw [hE]; clear hE
    go_enter Tryz.func110, Tryz.ntmps110
    go_wp2_with fail
    go_quiet (fail)
    go_wp2
    go_ret2
    exact ⟨rfl, by first | exact bel1' _ _ | exact bel_drewN (bel1' _ _) _⟩
end Go.Proofs.YtobdhcaoeholhaaGreatDoor
/- Letter by letter, as chapter 6 says it, over lists of bytes: what stands next. Nothing here is walked. -/
namespace Go.Proofs.YtobdhcaoeholhaaGreatDoor

def smallB (c : UInt8) : Bool := decide (97 ≤ c) && decide (c ≤ 122)
def greatB (c : UInt8) : Bool := (decide (65 ≤ c) && decide (c ≤ 90)) || c == 95
def digitB (c : UInt8) : Bool := decide (48 ≤ c) && decide (c ≤ 57)
def wordB (c : UInt8) : Bool := smallB c || greatB c || digitB c
def blankB (c : UInt8) : Bool := c == 32 || c == 9 || c == 10 || c == 13
def symB (c : UInt8) : Bool := [43, 45, 42, 47, 92, 94, 60, 62, 61, 126, 58, 46, 63, 64, 35, 38, 36].contains c
/-- What stands behind a full stop that is an end. -/
def endB (r : List UInt8) : Bool := match r with | [] => true | c :: _ => blankB c || c == 37
def openB (r : List UInt8) : Bool := match r with | [] => false | c :: _ => c == 40
/-- As many symbols as follow. -/
def symRun : List UInt8 → Nat
  | [] => 0
  | c :: r => if symB c && !(c == 46 && endB r) then symRun r + 1 else 0
/-- What a letter behind a '\' stands for. -/
def escB (c : UInt8) : Option UInt8 := if c == 110 then some 10 else if c == 116 then some 9 else if c == 92 then some 92 else if c == 39 then some 39 else none
/-- Behind the first quote: what it stands for, how many bytes to behind the last quote. -/
def quoB : List UInt8 → Option (List UInt8 × Nat)
  | [] => none
  | [c] => if c == 39 then some ([], 1) else none
  | c :: d :: r =>
    if c == 39 then (if d == 39 then (quoB r).map fun p => (39 :: p.1, p.2 + 2) else some ([], 1))
    else if c == 92 then (match escB d with | none => none | some e => (quoB r).map fun p => (e :: p.1, p.2 + 2))
    else if decide (32 ≤ c) && decide (c ≤ 126) then (quoB (d :: r)).map fun p => (c :: p.1, p.2 + 1) else none
def numB (l : List UInt8) : Nat := l.foldl (fun n c => n * 10 + (c.toNat - 48)) 0

structure TokB where
  kind : Nat
  text : List UInt8
  n : Nat
  len : Nat
  opens : Bool
/-- What stands next: so many bytes are passed over; a token; nothing that may be. -/
inductive NextB where
  | skip (k : Nat)
  | tok (t : TokB)
  | bad (over : Bool)

def tokB (kind : Nat) (text : List UInt8) (n k : Nat) (s : List UInt8) : NextB := .tok ⟨kind, text, n, k, openB (s.drop k)⟩
def nameB (k : Nat) (s : List UInt8) : NextB := if decide (k ≤ 64) then tokB 1 (s.take k) 0 k s else .bad true
def nextC (c : UInt8) (r : List UInt8) : NextB :=
    if blankB c then .skip 1
    else if c == 37 then .skip ((r.takeWhile fun x => x != 10).length + 1)
    else if smallB c then nameB ((r.takeWhile wordB).length + 1) (c :: r)
    else if greatB c then tokB 3 ((c :: r).take ((r.takeWhile wordB).length + 1)) 0 ((r.takeWhile wordB).length + 1) (c :: r)
    else if digitB c then
      if decide (numB ((c :: r).take ((r.takeWhile digitB).length + 1)) ≤ 9223372036854775807) then tokB 4 [] (numB ((c :: r).take ((r.takeWhile digitB).length + 1))) ((r.takeWhile digitB).length + 1) (c :: r) else .bad true
    else if c == 39 then
      match quoB r with
      | none => .bad false
      | some p => if decide (p.1.length ≤ 64) then tokB 2 p.1 0 (p.2 + 1) (c :: r) else .bad true
    else if c == 46 && endB r then tokB 6 [] 0 1 (c :: r)
    else if symB c then nameB (symRun (c :: r)) (c :: r)
    else if c == 59 || c == 33 then nameB 1 (c :: r)
    else if (c == 91 && r.head? == some 93) || (c == 123 && r.head? == some 125) then nameB 2 (c :: r)
    else if [40, 41, 91, 93, 123, 125, 44, 124].contains c then tokB 5 [c] 0 1 (c :: r)
    else .bad false
/-! A line's end behind the text changes nothing. -/
theorem tw_le (p : UInt8 → Bool) : ∀ r : List UInt8, (r.takeWhile p).length ≤ r.length
  | [] => by simp
  | c :: r => by
    rw [List.takeWhile_cons]
    split
    · have := tw_le p r
      simp
      omega
    · simp
theorem sym_le : ∀ r : List UInt8, symRun r ≤ r.length
  | [] => Nat.le_refl _
  | c :: r => by
    rw [symRun]
    split
    · have := sym_le r
      simp
      omega
    · simp
theorem quo_nl (b : List UInt8) : ∀ (n : Nat) (r : List UInt8), r.length ≤ n → ∀ p, quoB r = some p → quoB (r ++ 10 :: b) = some p ∧ p.2 ≤ r.length
  | 0, r, hn => fun p h => by
    obtain rfl : r = [] := List.length_eq_zero_iff.1 (by omega)
    simp [quoB] at h
  | n + 1, [], hn => fun p h => by simp [quoB] at h
  | n + 1, [c], hn => fun p h => by
    rw [quoB] at h
    split at h
    · rename_i hc
      cases h
      refine ⟨?_, by simp⟩
      show quoB (c :: 10 :: b) = _
      rw [quoB, if_pos hc]
      rfl
    · cases h
  | n + 1, c :: d :: r, hn => fun p h => by
    have hr : r.length ≤ n := by simp at hn; omega
    have hd : (d :: r).length ≤ n := by simp at hn ⊢; omega
    rw [quoB] at h
    show quoB (c :: d :: (r ++ 10 :: b)) = _ ∧ _
    rw [quoB]
    split at h
    · rename_i hc
      rw [if_pos hc]
      split at h
      · rename_i hd'
        rw [if_pos hd']
        obtain ⟨q, hq, rfl⟩ := Option.map_eq_some_iff.1 h
        obtain ⟨h1, h2⟩ := quo_nl b n r hr q hq
        rw [h1]
        exact ⟨rfl, by simp; omega⟩
      · rename_i hd'
        rw [if_neg hd']
        cases h
        exact ⟨rfl, by simp⟩
    · rename_i hc
      rw [if_neg hc]
      split at h
      · rename_i hc2
        rw [if_pos hc2]
        cases he : escB d with
        | none => rw [he] at h; cases h
        | some e =>
          rw [he] at h
          obtain ⟨q, hq, rfl⟩ := Option.map_eq_some_iff.1 h
          obtain ⟨h1, h2⟩ := quo_nl b n r hr q hq
          simp only [h1]
          exact ⟨rfl, by simp; omega⟩
      · rename_i hc2
        rw [if_neg hc2]
        split at h
        · rename_i hc3
          rw [if_pos hc3]
          obtain ⟨q, hq, rfl⟩ := Option.map_eq_some_iff.1 h
          obtain ⟨h1, h2⟩ := quo_nl b n (d :: r) hd q hq
          rw [List.cons_append] at h1
          rw [h1]
          exact ⟨rfl, by simp at h2 ⊢; omega⟩
        · cases h
end Go.Proofs.YtobdhcaoeholhaaGreatDoor
