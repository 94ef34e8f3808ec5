import Derived.Test.YtljgkfdnmikpfaaGreatDoorHgfah
import Derived.Deep.RegionLaw
import Derived.Deep.AppendLies
import Derived.Test.YtljgkfdnmikpfaaGreatDoorHgfaj
import Derived.Test.YtljgkfdnmikpfaaGreatDoorHgfad
set_option linter.unusedVariables false
set_option linter.unusedSimpArgs false
/- The project's reader: between. -/
namespace Go.Proofs.YtljgkfdnmikpfaaGreatDoor
open Go.RowKit
set_option linter.unusedVariables false

theorem Below.set3 {B : Nat} {w w' : World} (h : Below B w w') {b : Nat} (hb : B ≤ b) (u0 u1 u2 : Value) : Below B w (Go.Proofs.YtljgkfdnmikpfaaGreatDoor.set3 w' b u0 u1 u2) :=
  ((h.setCell (p := ⟨b, 0, none⟩) hb _).setCell (p := ⟨b, 1, none⟩) hb _).setCell (p := ⟨b, 2, none⟩) hb _
theorem Below.set4 {B : Nat} {w w' : World} (h : Below B w w') {b : Nat} (hb : B ≤ b) (u0 u1 u2 u3 : Value) : Below B w (Go.Proofs.YtljgkfdnmikpfaaGreatDoor.set4 w' b u0 u1 u2 u3) :=
  (Below.set3 h hb u0 u1 u2).setCell (p := ⟨b, 3, none⟩) hb _
theorem far3 {w : World} {b j c : Nat} {v : Value} (h : w.cell? ⟨b, j, none⟩ = some v) (hne : b ≠ c) (u0 u1 u2 : Value) : (set3 w c u0 u1 u2).cell? ⟨b, j, none⟩ = some v := by
  rw [far_cell hne, far_cell hne, far_cell hne]; exact h
end Go.Proofs.YtljgkfdnmikpfaaGreatDoor
/- The project's reader: variable. -/
namespace Go.Proofs.YtljgkfdnmikpfaaGreatDoor
open Go.Shelf Go.RowKit
set_option linter.unusedVariables false

def withB (D : Nat → Bool) (v : Value) : Nat → Bool := fun k => D k || v.ownBlock == some k
theorem withB_of {D : Nat → Bool} {v : Value} {k : Nat} (h : D k = true) : withB D v k = true := by simp [withB, h]
theorem withB_own {D : Nat → Bool} {v : Value} {k : Nat} (h : v.ownBlock = some k) : withB D v k = true := by simp [withB, h]
theorem withB_no {D : Nat → Bool} {v : Value} {k : Nat} (h : v.ownBlock ≠ some k) : withB D v k = D k := by simp [withB, h]
theorem Box.block {w w' : World} {b : Nat} {vs : List Value} (h : Box w b vs) (hb : w'.heap[b]? = w.heap[b]?) (hlt : b < w'.heap.size) : Box w' b vs :=
  ⟨fun j u hu => by rw [World.cell?_of_block hb]; exact h.cells j u hu, fun j => by rw [World.frozen?_of_block hb]; exact h.fz j, hlt⟩
end Go.Proofs.YtljgkfdnmikpfaaGreatDoor
/- The project's reader: what a call leaves; a row of terms that grows while the reader goes on. -/
namespace Go.Proofs.YtljgkfdnmikpfaaGreatDoor
open Go.Shelf Go.RowKit
set_option linter.unusedVariables false

def Okd (D M : Nat → Bool) (w : World) : Prop := (∀ k, M k = true → D k = true) ∧ Old D w
/-- Of the new blocks only those of M are not looked at. -/
def Fin (D M' : Nat → Bool) (n : Nat) : Nat → Bool := fun k => if k < n then D k else M' k
theorem fin_old {D M' : Nat → Bool} {n k : Nat} (h : k < n) : Fin D M' n k = D k := if_pos h
theorem fin_new {D M' : Nat → Bool} {n k : Nat} (h : n ≤ k) : Fin D M' n k = M' k := if_neg (by omega)
theorem fin_less {D M D1 M' : Nat → Bool} {w w' : World} (ht : Turn D M D1 M' w w') (ho : Okd D1 M' w') {k : Nat} (h : D1 k = false) : Fin D M' w.heap.size k = false := by
  by_cases hk : k < w.heap.size
  · rw [fin_old hk, ← ht.dd k hk]; exact h
  · rw [fin_new (by omega)]
    cases hm : M' k with
    | false => rfl
    | true => rw [ho.1 k hm] at h; cases h
theorem TmV.fin {D M D1 M' : Nat → Bool} {w w' : World} {t : Tm} {v : Value} (h : TmV (hide D1 w') t v) (ht : Turn D M D1 M' w w') (ho : Okd D1 M' w') : TmV (hide (Fin D M' w.heap.size) w') t v :=
  TmV.stay (Stays.less fun k hk => fin_less ht ho hk) t v h
theorem grown_stays {D : Nat → Bool} {W w' : World} {v v' : Value} (hg : W.grownBy w' v.ownBlock) (hD : ∀ g, v.ownBlock = some g → D g = true) (hv : v'.ownBlock = v.ownBlock ∨ v'.ownBlock = some W.heap.size) : Stays (hide D W) (hide (withB D v') w') :=
  Stays.hide hg.size fun k hk hd => ⟨by
    rw [withB_no]
    · exact hd
    · intro e
      rcases hv with hv | hv
      · rw [hD k (hv.symm.trans e)] at hd; cases hd
      · rw [hv] at e; injection e with e; omega, hg.block k hk (fun e => by rw [hD k e.symm] at hd; cases hd)⟩
theorem Turn.grown {D M D1 M1 : Nat → Bool} {w W w' : World} {v v' : Value} (ht : Turn D M D1 M1 w W) (hg : W.grownBy w' v.ownBlock) (hb : ∀ g, v.ownBlock = some g → w.heap.size ≤ g) (hv : v'.ownBlock = v.ownBlock ∨ v'.ownBlock = some W.heap.size) : Turn D M (withB D1 v') M1 w w' :=
  ⟨Nat.le_trans ht.size hg.size, fun k hk => by
    rw [withB_no]
    · exact ht.dd k hk
    · intro e
      rcases hv with hv | hv
      · have := hb k (hv.symm.trans e); omega
      · rw [hv] at e; injection e with e; have := ht.size; omega, ht.mm, fun k hk hm => (hg.block k (Nat.lt_of_lt_of_le hk ht.size) (fun e => by have := hb k e.symm; omega)).trans (ht.kept k hk hm), ht.ot.grown hg (Nat.zero_le _) (fun _ _ => Nat.zero_le _)⟩
end Go.Proofs.YtljgkfdnmikpfaaGreatDoor
/- The project's reader: items. -/
namespace Go.Proofs.YtljgkfdnmikpfaaGreatDoor
open Go.Shelf Go.RowKit
set_option linter.unusedVariables false

theorem four_of {w : World} {t : Tm} {v : Value} (h : TmV w t v) : ∃ k n s a m c, v = .agg #[.int .i64 k, .int .i64 n, .string s, .slice a m c] ∧ t.k = k ∧ t.n = n ∧ t.s = s ∧ v = pVal (t, .slice a m c) := by
  cases t with
  | mk k n s ts =>
    obtain ⟨u, rfl, _, _, _, hu⟩ := tmV_iff.1 h
    obtain ⟨a, c, rfl, _⟩ := hu.len
    exact ⟨k, n, s, a, _, c, rfl, rfl, rfl, rfl, rfl⟩
end Go.Proofs.YtljgkfdnmikpfaaGreatDoor
/- The project's reader: what is left in the end; list. -/
namespace Go.Proofs.YtljgkfdnmikpfaaGreatDoor
open Go.Shelf Go.RowKit
set_option linter.unusedVariables false
theorem Okd.later {D M : Nat → Bool} {w w' : World} (h : Okd D M w) (hb : w.heap.size ≤ w'.heap.size) : Okd D M w' := ⟨h.1, h.2.mono hb⟩
theorem Okd.put4 {D M : Nat → Bool} {w : World} (h : Okd D M w) (b : Nat) (u0 u1 u2 u3 : Value) : Okd D M (set4 w b u0 u1 u2 u3) := h.later (by simp [World.setCell])
theorem Okd.box {D M : Nat → Bool} {w w' : World} (h : Okd D M w) (hb : w.heap.size ≤ w'.heap.size) {b : Nat} (hlt : b < w'.heap.size) : Okd (plusB D b) M w' :=
  ⟨fun k hk => plusB_of (h.1 k hk), fun k hk => (plusB_ne (by omega)).trans (h.2 k (Nat.le_trans hb hk))⟩
section
variable {D M D1 M1 : Nat → Bool} {w w1 : World} {rb b : Nat} {xs : List O} {t : Tm} {v u0 u1 u2 u3 : Value}
end
end Go.Proofs.YtljgkfdnmikpfaaGreatDoor
/- What is written is read as it was: every term. Pure. -/
namespace Go.Proofs.YtljgkfdnmikpfaaGreatDoor
open Go.RowKit
set_option linter.unusedVariables false

mutual
def inV (vs : List Int) : Tm → Prop
  | .mk k n _ ts => (k = 0 → n ∈ vs) ∧ inVs vs ts
def inVs (vs : List Int) : List Tm → Prop
  | [] => True
  | x :: r => inV vs x ∧ inVs vs r
end
mutual
theorem inV_of {vs : List Int} : ∀ (t : Tm) (acc : List Int), formedT t = true → (∀ n ∈ varsT t acc, n ∈ vs) → inV vs t
  | .mk k n s ts, acc, hf, h => by
    rw [formedT, Bool.and_eq_true] at hf
    rw [inV]
    by_cases hk : k = 0
    · subst hk
      have hts : ts = [] := by
        have := hf.1
        unfold plainT at this
        rw [if_pos rfl] at this
        simp only [Bool.and_eq_true, decide_eq_true_eq] at this
        exact List.length_eq_zero_iff.1 this.2
      subst hts
      refine ⟨fun _ => ?_, by rw [inVs]; trivial⟩
      apply h
      rw [varsT, if_pos rfl]
      split
      · rename_i hc; simpa using hc
      · simp
    · rw [varsT, if_neg hk] at h
      exact ⟨fun e => absurd e hk, inVs_of ts acc hf.2 h⟩
theorem inVs_of {vs : List Int} : ∀ (ts : List Tm) (acc : List Int), formedL ts = true → (∀ n ∈ varsL ts acc, n ∈ vs) → inVs vs ts
  | [], acc, hf, h => by rw [inVs]; trivial
  | x :: r, acc, hf, h => by
    rw [formedL, Bool.and_eq_true] at hf
    rw [varsL] at h
    rw [inVs]
    exact ⟨inV_of x acc hf.1 (fun n hn => h n ((varss_pre r _).subset hn)), inVs_of r _ hf.2 h⟩
end
theorem inVs_mem {vs : List Int} : ∀ {l : List Tm} {x : Tm}, inVs vs l → x ∈ l → inV vs x
  | y :: r, x, h, hx => by
    rw [inVs] at h
    rcases List.mem_cons.1 hx with rfl | hx
    · exact h.1
    · exact inVs_mem h.2 hx
theorem items_all (P : Tm → Prop) (hP : ∀ k n s ts, P (.mk k n s ts) → ∀ y ∈ ts, P y) : ∀ (m : Nat) (t : Tm), sizeN t ≤ m → P t → (∀ y ∈ (itemsT t).1, P y) ∧ P (itemsT t).2
  | 0, t, h, _ => by have := size_pos t; omega
  | m + 1, t, h, hp => by
    cases hq : pairT t with
    | none => rw [items_none hq]; exact ⟨fun y hy => (by cases hy), hp⟩
    | some q =>
      obtain ⟨a, b⟩ := q
      obtain ⟨h1, h2, h3, h4⟩ := pair_size hq
      rw [items_some hq]
      cases t with
      | mk k n s ts =>
        have h2' : ts = [a, b] := h2
        subst h2'
        have ha := hP k n s _ hp a (by simp)
        have hb := hP k n s _ hp b (by simp)
        have ih := items_all P hP m b (by omega) hb
        refine ⟨fun y hy => ?_, ih.2⟩
        rcases List.mem_cons.1 hy with rfl | hy
        · exact ha
        · exact ih.1 y hy
section
variable {pre bet : List UInt8 → O × Bool} {vs : List Int}
end
/-- A good term's text. -/
abbrev writeT (xs : List O) (x : Tm) : List UInt8 := WRITE (varsT x []) (preO xs) (betO xs) x
end Go.Proofs.YtljgkfdnmikpfaaGreatDoor
/- The project's writer: plain; Plain. -/
namespace Go.Proofs.YtljgkfdnmikpfaaGreatDoor
open Go.RowKit
set_option linter.unusedVariables false
set_option maxRecDepth 100000

set_option maxHeartbeats 2000000 in
theorem plain_step {wb : Nat} {xs : List O} {vs : List Int} {n : Nat} (ih : ArgC 57 (PLAIN vs) n wb xs vs) : ArgC 57 (PLAIN vs) (n + 1) wb xs vs := by
  intro y hy hf M w out v h hv hz
  obtain ⟨k, nn, s, a, m, c, rfl⟩ := hv.full
  obtain ⟨w1, hw1, hb1, hz1, hx1⟩ := box_new w #[.int .i64 k, .int .i64 nn, .string s, .slice a m c] 27
  obtain ⟨b0, b1, b2, b3, bf⟩ := hx1.four
  have HC := Lib.hid (called_plain ih hf (fun z hz => by have := arg_size hz; omega) (h.later hb1) (TmV.later hb1 hv) (by rw [← PLAIN_eq]; exact hz))
  rw [← PLAIN_eq] at HC
  have HT1 := Lib.hid (show Turn M M M M w w1 from Turn.below hb1)
  clear h hv hz hb1 hx1 hz1
  go_enter Tryz.func57, Tryz.ntmps57
  go_wp2_with fail
  (try rw [hw1])
  clear hw1
  (go_wp2_with fail; go_fit (HC.out); rintro e w2 ⟨rfl, M2, g1, g2⟩)
  have G1 := Lib.hid g1
  have G2 := Lib.hid (HT1.out.trans g2)
  clear g1 g2
  go_wp2
  go_end0
  exact ⟨rfl, M2, G1.out, G2.out⟩
theorem plain_all {wb : Nat} {xs : List O} {vs : List Int} : ∀ n, ArgC 57 (PLAIN vs) n wb xs vs
  | 0 => fun y hy => by omega
  | n + 1 => plain_step (plain_all n)
end Go.Proofs.YtljgkfdnmikpfaaGreatDoor
