import Derived.Test.YtchbbaehdcmcfaaHzrab
import Derived.Test.YtchbbaehdcmcfaaHzraa
import Derived.Laws.StructEq
import Derived.Deep.Cut
import Derived.Deep.CutRange
import Derived.WideKeyEntry
set_option linter.unusedVariables false
set_option linter.unusedSimpArgs false
/- Package index: Of, May, plain; the document's own May; the law's key. -/
namespace Go.Proofs.Ytchbbaehdcmcfaa
open Go.RowKit
set_option linter.unusedVariables false
theorem sameKey_l (a b : KeyM) : (a.k == b.k && (a.n == b.n && (a.s.toList == b.s.toList && a.ar == b.ar))) = sameKey a b := by
 unfold sameKey
 rw [Lib.toList_data, Lib.toList_data, Bool.and_assoc, Bool.and_assoc]
theorem ixEq (a b : KeyM) (w : World) : (Op.equalIn 10000 76 (ixV a) (ixV b)).run Try.prog w = .ok (sameKey a b) w := by
 have u2 := Try.underlying2
 have a2 := Try.isAgg2
 have z2 := Try.sizeOf2
 have u3 := Try.underlying3
 have a3 := Try.isAgg3
 have z3 := Try.sizeOf3
 have u9 := Try.underlying9
 have a9 := Try.isAgg9
 have z9 := Try.sizeOf9
 have hS : Try.prog.underlying 76 = some (.struct (Try.prog.fieldsOf 76)) := by kernel_rfl
 have hp : Try.prog.stoodInHeld 76 = false := by kernel_rfl
 rw [← sameKey_l, show (10000 : Nat) = 9999 + 1 from rfl, run_equalIn_agg w 9999 76 _ _ hS hp]
 simp only [Program.fieldsOf, Try.underlying76]
 go_simp
 by_cases h0 : a.k = b.k <;> by_cases h1 : a.n = b.n <;> by_cases h2 : a.s.toList = b.s.toList <;> by_cases h3 : a.ar = b.ar <;> simp [h0, h1, h2, h3]
theorem rxEq (a b : KeyM) (w : World) : (Op.equalIn 10000 91 (ixV a) (ixV b)).run Try.prog w = .ok (sameKey a b) w := by
 have u2 := Try.underlying2
 have a2 := Try.isAgg2
 have z2 := Try.sizeOf2
 have u3 := Try.underlying3
 have a3 := Try.isAgg3
 have z3 := Try.sizeOf3
 have u9 := Try.underlying9
 have a9 := Try.isAgg9
 have z9 := Try.sizeOf9
 have hS : Try.prog.underlying 91 = some (.struct (Try.prog.fieldsOf 91)) := by kernel_rfl
 have hp : Try.prog.stoodInHeld 91 = false := by kernel_rfl
 rw [← sameKey_l, show (10000 : Nat) = 9999 + 1 from rfl, run_equalIn_agg w 9999 91 _ _ hS hp]
 simp only [Program.fieldsOf, Try.underlying91]
 go_simp
 by_cases h0 : a.k = b.k <;> by_cases h1 : a.n = b.n <;> by_cases h2 : a.s.toList = b.s.toList <;> by_cases h3 : a.ar = b.ar <;> simp [h0, h1, h2, h3]
set_option maxHeartbeats 2000000 in
theorem ixMay_at (a b : KeyM) (w : World) : Calls Try.prog 47 #[ixV a, ixV b] w fun e w' => e = .returned (.bool (mayK a b)) ∧ Below w.heap.size w w' := by
 obtain ⟨w1, e1, B1, z1, X1⟩ := box_new w #[.int .i64 a.k, .int .i64 a.n, .string a.s, .int .i64 a.ar] 76
 obtain ⟨w2, e2, B2, z2, X2⟩ := box_new w1 #[.int .i64 b.k, .int .i64 b.n, .string b.s, .int .i64 b.ar] 76
 have hB := Ext.trans' B1 B2
 rw [z1] at X2
 obtain ⟨x0, x1, x2, x3, _⟩ := (X1.ext B2).four
 obtain ⟨y0, y1, y2, y3, _⟩ := X2.four
 have HE := Lib.hid (And.intro e1 e2)
 obtain ⟨r, hr⟩ : ∃ r, mayK a b = r := ⟨_, rfl⟩
 have HR := Lib.hid hr
 rw [hr]
 unfold mayK at hr
 clear e1 e2 B1 B2 z1 z2 X1 X2
 go_enter Try.func47, Try.ntmps47
 go_upto_region 1 with fail
 (try rw [HE.out.1])
 (try rw [HE.out.2])
 by_cases h1 : a.k = 0
 ·obtain rfl : r = true := by rw [← hr]; simp [h1]
  have h1' : (a.k == 0) = true := by simpa using h1
  clear HE
  go_wp2
  go_ret
  exact ⟨rfl, hB⟩
 have h1' : (a.k == 0) = false := by simpa using h1
 by_cases h2 : b.k = 0
 ·obtain rfl : r = true := by rw [← hr]; simp [h2]
  have h2' : (b.k == 0) = true := by simpa using h2
  clear HE
  go_wp2
  go_ret
  exact ⟨rfl, hB⟩
 have h2' : (b.k == 0) = false := by simpa using h2
 have hsk : sameKey a b = r := by rw [← hr, h1', h2']; simp
 have he : ∀ wq : World, (Op.equalIn 10000 76 (.agg #[.int .i64 a.k, .int .i64 a.n, .string a.s, .int .i64 a.ar]) (.agg #[.int .i64 b.k, .int .i64 b.n, .string b.s, .int .i64 b.ar])).run Try.prog wq = .ok r wq := fun wq => by rw [← hsk]; exact ixEq a b wq
 clear hsk hr
 clear HE
 go_wp2
 go_ret
 exact ⟨rfl, hB⟩
set_option maxHeartbeats 2000000 in
theorem rxMay_at (a b : KeyM) (w : World) : Calls Try.prog 48 #[ixV a, ixV b] w fun e w' => e = .returned (.bool (mayK a b)) ∧ Below w.heap.size w w' := by
 obtain ⟨w1, e1, B1, z1, X1⟩ := box_new w #[.int .i64 a.k, .int .i64 a.n, .string a.s, .int .i64 a.ar] 91
 obtain ⟨w2, e2, B2, z2, X2⟩ := box_new w1 #[.int .i64 b.k, .int .i64 b.n, .string b.s, .int .i64 b.ar] 91
 have hB := Ext.trans' B1 B2
 rw [z1] at X2
 obtain ⟨x0, x1, x2, x3, _⟩ := (X1.ext B2).four
 obtain ⟨y0, y1, y2, y3, _⟩ := X2.four
 have HE := Lib.hid (And.intro e1 e2)
 obtain ⟨r, hr⟩ : ∃ r, mayK a b = r := ⟨_, rfl⟩
 have HR := Lib.hid hr
 rw [hr]
 unfold mayK at hr
 clear e1 e2 B1 B2 z1 z2 X1 X2
 go_enter Try.func48, Try.ntmps48
 go_upto_region 1 with fail
 (try rw [HE.out.1])
 (try rw [HE.out.2])
 by_cases h1 : a.k = 0
 ·obtain rfl : r = true := by rw [← hr]; simp [h1]
  have h1' : (a.k == 0) = true := by simpa using h1
  clear HE
  go_wp2
  go_ret
  exact ⟨rfl, hB⟩
 have h1' : (a.k == 0) = false := by simpa using h1
 by_cases h2 : b.k = 0
 ·obtain rfl : r = true := by rw [← hr]; simp [h2]
  have h2' : (b.k == 0) = true := by simpa using h2
  clear HE
  go_wp2
  go_ret
  exact ⟨rfl, hB⟩
 have h2' : (b.k == 0) = false := by simpa using h2
 have hsk : sameKey a b = r := by rw [← hr, h1', h2']; simp
 have he : ∀ wq : World, (Op.equalIn 10000 91 (.agg #[.int .i64 a.k, .int .i64 a.n, .string a.s, .int .i64 a.ar]) (.agg #[.int .i64 b.k, .int .i64 b.n, .string b.s, .int .i64 b.ar])).run Try.prog wq = .ok r wq := fun wq => by rw [← hsk]; exact rxEq a b wq
 clear hsk hr
 clear HE
 go_wp2
 go_ret
 exact ⟨rfl, hB⟩
theorem ixKey_at (a : KeyM) (w : World) : Calls Try.prog 49 #[ixV a] w fun e w' => e = .returned (ixV a) ∧ Below w.heap.size w w' := by
 obtain ⟨w1, e1, B1, z1, X1⟩ := box_new w #[.int .i64 a.k, .int .i64 a.n, .string a.s, .int .i64 a.ar] 76
 obtain ⟨x0, x1, x2, x3, _⟩ := X1.four
 have HE := Lib.hid e1
 have HZ := Lib.hid z1
 have hB := B1
 clear e1 B1 z1 X1
 go_enter Try.func49, Try.ntmps49
 go_upto_region 1 with fail
 (try rw [HE.out])
 obtain ⟨w2, e2, B2, z2, X2⟩ := box_new w1 #[.int .i64 0, .int .i64 0, .string ⟨#[]⟩, .int .i64 0] 91
 (try rw [e2])
 rw [HZ.out] at X2
 obtain ⟨y0, y1, y2, y3, yf⟩ := X2.four
 replace x0 := cell_later B2 x0
 replace x1 := cell_later B2 x1
 replace x2 := cell_later B2 x2
 replace x3 := cell_later B2 x3
 have hs := hB.size
 have hs' : w.heap.size ≤ w.heap.size + 1 := by omega
 have hb2 := Below.set4 (b := w.heap.size + 1) (Ext.trans' hB B2) hs' (.int .i64 a.k) (.int .i64 a.n) (.string a.s) (.int .i64 a.ar)
 clear HE e2 X2 z2 B2
 go_wp2
 refine bodyPost_ret (v := ixV a) (by rw [results_cell1 rfl]; go_simp) rfl ⟨rfl, hb2⟩
theorem ixPlain_at (a : KeyM) (w : World) : Calls Try.prog 79 #[ixV a] w fun e w' => e = .returned (ixV (plainK a)) ∧ Below w.heap.size w w' := by
 obtain ⟨w1, e1, B1, z1, X1⟩ := box_new w #[.int .i64 a.k, .int .i64 a.n, .string a.s, .int .i64 a.ar] 76
 obtain ⟨x0, x1, x2, x3, _⟩ := X1.four
 have HE := Lib.hid e1
 have HZ := Lib.hid z1
 have hB := B1
 clear e1 B1 z1 X1
 go_enter Try.func79, Try.ntmps79
 go_upto_region 1 with fail
 (try rw [HE.out])
 obtain ⟨w2, e2, B2, z2, X2⟩ := box_new w1 #[.int .i64 0, .int .i64 0, .string ⟨#[]⟩, .int .i64 0] 76
 (try rw [e2])
 rw [HZ.out] at X2
 obtain ⟨y0, y1, y2, y3, yf⟩ := X2.four
 replace x0 := cell_later B2 x0
 replace x1 := cell_later B2 x1
 replace x2 := cell_later B2 x2
 replace x3 := cell_later B2 x3
 have hs := hB.size
 have hs' : w.heap.size ≤ w.heap.size + 1 := by omega
 have hb1 := Ext.trans' hB B2
 clear HE e2 X2 z2 B2
 by_cases h1 : a.k = 0
 ·have h1' : (a.k == 0) = true := by simpa using h1
  have hb2 := Below.set4 (b := w.heap.size + 1) hb1 hs' (.int .i64 0) (.int .i64 0) (.string ⟨#[]⟩) (.int .i64 0)
  have hp : plainK a = zeroKey := if_pos h1
  go_wp2
  refine bodyPost_ret (v := .agg #[.int .i64 0, .int .i64 0, .string ⟨#[]⟩, .int .i64 0]) (by rw [results_cell1 rfl]; go_simp) rfl ⟨by rw [hp]; rfl, hb2⟩
 ·have h1' : (a.k == 0) = false := by simpa using h1
  have hb2 := Below.set4 (b := w.heap.size + 1) hb1 hs' (.int .i64 a.k) (.int .i64 a.n) (.string a.s) (.int .i64 a.ar)
  have hp : plainK a = a := if_neg h1
  go_wp2
  refine bodyPost_ret (v := .agg #[.int .i64 a.k, .int .i64 a.n, .string a.s, .int .i64 a.ar]) (by rw [results_cell1 rfl]; go_simp) rfl ⟨by rw [hp], hb2⟩
end Go.Proofs.Ytchbbaehdcmcfaa
/- An index in memory: its box, its map of keys, its rows. -/
namespace Go.Proofs.Ytchbbaehdcmcfaa
open Go.RowKit Go.Maps Go.Sort
set_option linter.unusedVariables false
def keepV (v : Value) : Option (DataW Value × List MemPlace) := some (.held v, [])
theorem num_cells (L : List Int) : L.flatMap numCells = L.map encZ := by
 induction L with
 | nil => rfl
 | cons a r ih => rw [List.flatMap_cons, ih]; rfl
structure IxRep (w : World) (F : List Nat) (ks : List (KeyM × Bool)) (xb kb rb : Nat) (D1 D2 : DataW Value) (rv : KeyM → Value) : Prop where
 box : Box w xb [.int .i64 (ks.length : Nat), .map (some kb), .map (some rb)]
 own1 : w.ownsMap Try.prog 3 keepV kb ks.length D1
 has1 : ∀ i : Int, Maps.has D1 (.int .i64 i) = true ↔ i ∈ allI ks
 at1 : ∀ (i : Nat) x, ks[i]? = some x → x.2 = true → ∀ z, D1.atKey (.int .i64 (i : Int)) z = .held (ixV x.1)
 own2 : w.ownsMap Try.prog 76 keepV rb ks.length D2
 has2 : ∀ k, ixOk k → (Maps.has D2 (ixLit k) = true ↔ rowI k ks ≠ [])
 at2 : ∀ k, ixOk k → rowI k ks ≠ [] → ∀ z, D2.atKey (ixLit k) z = .held (rv k)
 row : ∀ k, ixOk k → rowI k ks ≠ [] → w.ownsRow 0 3 1 (rv k) (rowI k ks).length ((rowI k ks).flatMap numCells)
 blk : ∀ k, ixOk k → rowI k ks ≠ [] → ∀ g, (rv k).ownBlock = some g → g ∈ F ∧ g ≠ xb ∧ g ≠ kb ∧ g ≠ rb
 sep : ∀ k k', ixOk k → ixOk k' → rowI k ks ≠ [] → rowI k' ks ≠ [] → k ≠ k' → ∀ g, (rv k).ownBlock = some g → (rv k').ownBlock ≠ some g
 inF : xb ∈ F ∧ kb ∈ F ∧ rb ∈ F
 lt : ∀ g ∈ F, g < w.heap.size
 ne : xb ≠ kb ∧ xb ≠ rb ∧ kb ≠ rb
 kept : KeptK ks
 oks : ∀ x ∈ ks, ixOk x.1
def IsX (w : World) (F : List Nat) (p : Value) (ks : List (KeyM × Bool)) : Prop :=
 ∃ xb kb rb D1 D2 rv, p = .pointer (some ⟨xb, 0, none⟩) ∧ IxRep w F ks xb kb rb D1 D2 rv
section
variable {w w' : World} {F : List Nat} {p : Value} {ks : List (KeyM × Bool)}
theorem owns_mapN {H : Type} {k : TypeId} {R : Value → Option (DataW H × List MemPlace)} {b n : Nat} {D : DataW H} (h : w.ownsMap Try.prog k R b n D) (e : w'.heap[b]? = w.heap[b]?) : w'.ownsMap Try.prog k R b n D := by
 obtain ⟨es, clock, h1, h2⟩ := h
 exact ⟨es, clock, e.trans h1, h2⟩
theorem IsX.keep (h : IsX w F p ks) (hb : ∀ g ∈ F, w'.heap[g]? = w.heap[g]?) (hs : w.heap.size ≤ w'.heap.size) : IsX w' F p ks := by
 obtain ⟨xb, kb, rb, D1, D2, rv, rfl, h⟩ := h
 exact ⟨xb, kb, rb, D1, D2, rv, rfl, h.box.block (hb xb h.inF.1) (Nat.lt_of_lt_of_le h.box.lt hs), owns_mapN h.own1 (hb kb h.inF.2.1), h.has1, h.at1, owns_mapN h.own2 (hb rb h.inF.2.2), h.has2, h.at2,
  fun k hk hr => row_at (h.row k hk hr) (fun g hg => hb g (h.blk k hk hr g hg).1), h.blk, h.sep, h.inF, fun g hg => Nat.lt_of_lt_of_le (h.lt g hg) hs, h.ne, h.kept, h.oks⟩
theorem IsX.lt (h : IsX w F p ks) : ∀ g ∈ F, g < w.heap.size := by
 obtain ⟨xb, kb, rb, D1, D2, rv, rfl, h⟩ := h
 exact h.lt
theorem IsX.ext (h : IsX w F p ks) (hb : Below w.heap.size w w') : IsX w' F p ks := h.keep (fun g hg => hb.block g (h.lt g hg)) hb.size
end
theorem sortN_at {w : World} {B : Nat} {v : Value} {l : List Int} (h : w.ownsRow B 3 1 v l.length (l.flatMap numCells)) (hl : l.length < 4611686018427387904) :
  Calls Try.prog 83 #[v] w fun e w' => e = .returned (.tuple #[]) ∧ w'.ownsRow B 3 1 v l.length ((l.mergeSort fun x y => decide (x ≤ y)).flatMap numCells) ∧ w.grownBy w' v.ownBlock := by
 rw [num_cells] at h ⊢
 rcases h.2 with ⟨rfl, hz⟩ | ⟨g, cap, cur, rfl, hbase, hg, r1, r2, r3, r4⟩
 ·obtain rfl : l = [] := List.eq_nil_of_length_eq_zero hz
  refine (Try.slices_Sort_int_none none 0 w).mono ?_
  rintro e w' ⟨rfl, rfl⟩
  exact ⟨rfl, by simpa using h, ⟨rfl, rfl, rfl, Nat.le_refl _, fun _ _ _ => rfl⟩⟩
 ·have hH : Holds encZ w g 0 l.toArray := holds_of_block_i hg (by simpa using r4)
  refine (Try.slices_Sort_int g 0 cap l w hH (Array.getElem?_eq_some_iff.1 hg).1 hl).mono ?_
  rintro e w' ⟨rfl, n, os, rfl⟩
  exact ⟨rfl, ownsRow_sorted_i (by simp) hbase hg r1 r2 r3, grownBy_sorted_i _⟩
theorem ixNew_at (w : World) : Calls Try.prog 42 #[] w fun e w' => ∃ p F, e = .returned p ∧ IsX w' F p [] ∧ Below w.heap.size w w' ∧ ∀ g ∈ F, w.heap.size ≤ g := by
  have hmm := @run_makeMap Try.prog
  go_enter Try.func42, Try.ntmps42
  go_wp2
  go_ret
  obtain ⟨w1, e1⟩ : ∃ w1, w.alloc (.map #[] 0) = w1 := ⟨_, rfl⟩
  have z1 : w1.heap.size = w.heap.size + 1 := by rw [← e1]; simp
  have b1 : Below w.heap.size w w1 := by rw [← e1]; exact bel1' _ _
  have o1 : w1.ownsMap Try.prog 3 keepV w.heap.size 0 (.map []) := by rw [← e1]; exact World.ownsMap_made w _ _ _
  obtain ⟨w2, e2⟩ : ∃ w2, w1.alloc (.map #[] 0) = w2 := ⟨_, rfl⟩
  have z2 : w2.heap.size = w1.heap.size + 1 := by rw [← e2]; simp
  have b2 : Below w1.heap.size w1 w2 := by rw [← e2]; exact bel1' _ _
  have o2 : w2.ownsMap Try.prog 76 keepV w1.heap.size 0 (.map []) := by rw [← e2]; exact World.ownsMap_made w1 _ _ _
  have o3 : w2.ownsMap Try.prog 3 keepV w.heap.size 0 (.map []) := by rw [← e2]; exact o1.alloc _
  obtain ⟨w3, e3, b3, z3, X3⟩ := box_new w2 #[.int .i64 0, .map (some w.heap.size), .map (some (w.heap.size + 1))] 131
  rw [e1, e2, e3]
  rw [z1] at o2
  have hz : w2.heap.size = w.heap.size + 2 := by omega
  rw [hz] at X3
  refine ⟨_, [w.heap.size, w.heap.size + 1, w.heap.size + 2], rfl, ⟨w.heap.size + 2, w.heap.size, w.heap.size + 1, .map [], .map [], fun _ => .slice none 0 0, by simp, ?_⟩, Ext.trans' (Ext.trans' b1 b2) b3, fun g hg => by simp at hg; omega⟩
  have hno : ∀ k, rowI k [] = [] := fun k => rfl
  exact { box := X3
          own1 := by rw [← e3]; exact o3.alloc _
          has1 := fun i => by simp [Maps.has, selI]
          at1 := fun i x h => by simp at h
          own2 := by rw [← e3]; exact o2.alloc _
          has2 := fun k _ => by simp [Maps.has, hno]
          at2 := fun k _ h => absurd (hno k) h
          row := fun k _ h => absurd (hno k) h
          blk := fun k _ h => absurd (hno k) h
          sep := fun k _ _ _ h => absurd (hno k) h
          inF := by simp
          lt := fun g hg => by simp at hg; omega
          ne := by omega
          kept := fun x hx => by cases hx
          oks := fun x hx => by cases hx }
section
variable {w : World} {F : List Nat} {ks : List (KeyM × Bool)} {xb kb rb : Nat} {D1 D2 : DataW Value} {rv : KeyM → Value}
theorem zeroInts (w : World) : (zeroValue 81).run Try.prog w = .ok (.slice none 0 0) w := by
 have := Try.zeroValue81
 exact this w
theorem IxRep.look (H : IxRep w F ks xb kb rb D1 D2 rv) {k : KeyM} (hk : ixOk k) : ∃ v, (∀ w' : World, w'.heap[rb]? = w.heap[rb]? → (Instr.lookup 129 (.map (some rb)) (.agg #[.int .i64 k.k, .int .i64 k.n, .string k.s, .int .i64 k.ar]) false).run Try.prog w' = .ok v w') ∧
  ((rowI k ks = [] ∧ v = .slice none 0 0) ∨ (rowI k ks ≠ [] ∧ v = rv k)) := by
 have hd : ∀ w' : World, w'.heap[rb]? = w.heap[rb]? → (Instr.lookup 129 (.map (some rb)) (.agg #[.int .i64 k.k, .int .i64 k.n, .string k.s, .int .i64 k.ar]) false).run Try.prog w' = .ok (if rowI k ks = [] then .slice none 0 0 else rv k) w' := fun w' hw' => by
  obtain ⟨v, ps, hrun, hv⟩ := (owns_mapN H.own2 hw').lookup ixLaw Try.underlying129 (zeroInts w') (show keepV (.slice none 0 0) = some (.held (.slice none 0 0), []) from rfl) (ixKeyOf hk)
  have hv1 := (Prod.mk.inj (Option.some.inj hv)).1
  by_cases he : rowI k ks = []
  ·rw [if_pos he]
   have hno : Maps.has D2 (ixLit k) = false := by
    cases hh : Maps.has D2 (ixLit k) with
    | false => rfl
    | true => exact absurd he ((H.has2 k hk).1 hh)
   rw [atKey_of_not_has hno] at hv1
   have hv2 := DataW.held.inj hv1
   rw [hv2] at hrun
   exact hrun
  ·rw [if_neg he]
   rw [H.at2 k hk he] at hv1
   have hv2 := DataW.held.inj hv1
   rw [hv2] at hrun
   exact hrun
 refine ⟨_, hd, ?_⟩
 by_cases he : rowI k ks = []
 ·exact Or.inl ⟨he, if_pos he⟩
 ·exact Or.inr ⟨he, if_neg he⟩
theorem IxRep.nums (H : IxRep w F ks xb kb rb D1 D2 rv) {k : KeyM} (hk : ixOk k) {v : Value} (h : (rowI k ks = [] ∧ v = .slice none 0 0) ∨ (rowI k ks ≠ [] ∧ v = rv k)) : Nums w v (rowI k ks) := by
 rcases h with ⟨h1, rfl⟩ | ⟨h1, rfl⟩
 ·rw [h1]; exact Nums.nil w
 ·exact Elems.owned (cells := numCells) (fun _ => rfl) (H.row k hk h1)
theorem IxRep.all (H : IxRep w F ks xb kb rb D1 D2 rv) {ss : List Int} (h : ss.Perm (intKeys D1)) : ss.mergeSort (fun x y => decide (x ≤ y)) = allI ks := by
 have hp : (allI ks).Perm (intKeys D1) := CollectedI.perm (left := fun _ => false) ⟨selI_nodup, fun x => by rw [← H.has1]; simp⟩ H.own1 (int_keyed Try.underlying3) Try.underlying3 (fun _ => rfl)
 exact selI_sort (h.trans hp.symm)
end
end Go.Proofs.Ytchbbaehdcmcfaa
/- The index's map of rows: an entry asked for and stored. -/
namespace Go.Proofs.Ytchbbaehdcmcfaa
open Go.RowKit Go.Maps Go.WideMaps Go.WideElems
set_option linter.unusedVariables false
set_option maxRecDepth 100000 in
theorem ixKL : KeyLaw Try.prog 76 := deep_law_laid ixLaid (m := 2) (by omega) ixRow (by kernel_rfl) ixWide
theorem turned_touch {w w' : World} {b : Nat} (h : w.mapTurned w' b) : Touch [b] w w' := by
 obtain ⟨g1, g2, g3, g4, g5⟩ := h.grown
 exact ⟨g1, g2, g3, g4, fun k hk hne => g5 k hk (fun e => hne (by simp at e; simp [e]))⟩
theorem set_touch {w : World} {b : Nat} {es : Array MapEntry} {clock : Nat} {o' : Obj} (h : w.heap[b]? = some (.map es clock)) : Touch [b] w (Go.ChangeMaps.setBlock w b o') := by
 refine ⟨rfl, rfl, rfl, by simp [Go.ChangeMaps.setBlock], fun k hk hne => Go.ChangeMaps.heap_setBlock_other h _ (fun e => hne (by simp [e]))⟩
theorem ixEntry {w : World} {rb n : Nat} {D : DataW Value} (h : w.ownsMap Try.prog 76 keepV rb n D) (hn : n < maxLen) {k : KeyM} (hk : ixOk k) {v : Value}
  (hv : (Instr.lookup 129 (.map (some rb)) (ixV k) false).run Try.prog w = .ok v w) :
  ∃ (st : Int) (w1 : World), (Instr.mapEntry 129 (.map (some rb)) (ixV k)).run Try.prog w = .ok (.tuple #[v, .int .i64 st]) w1 ∧ Touch [rb] w w1 ∧
   ∀ (w2 : World) (val : Value), w2.heap[rb]? = w1.heap[rb]? → ∃ w3, (Instr.entryStore 129 (.map (some rb)) (.int .i64 st) val).run Try.prog w2 = .ok () w3 ∧ Touch [rb] w2 w3 ∧
    w3.ownsMap Try.prog 76 keepV rb (n + 1) (D.put (ixLit k) (.held val)) := by
 have hst := fun val => h.store (val := val) ixLaw Try.underlying129 hn (ixKeyOf hk) (show keepV val = some (.held val, []) from rfl)
 obtain ⟨es, clock, hb, Ft, hs, hD⟩ := id h
 obtain ⟨v0, st, es1, clock1, hrun, hor, hgo⟩ := entry_then_store ixKL Try.underlying129 (z := .slice none 0 0) (fun u => zeroInts u) hb Ft (ixKeyOf hk)
 have hvv : v0 = v := by
  obtain ⟨s1, s2, s3⟩ := (MapKept.stamped_iff es clock).1 Ft.stamped
  have ue : (es.isEmpty = true) ∨ (es.isEmpty = false) := by cases es.isEmpty <;> simp
  rcases ixLaw.find w (ixKeyOf hk) es.toList Ft.keys with ⟨h1, h2⟩ | ⟨j, e, h1, h2, h3⟩
  ·rcases hor with ⟨e0, he, hk0, _⟩ | ⟨_, hz⟩
   ·exact absurd hk0 (h2 e0 he)
   ·rw [hz]
    have hr : (Instr.lookup 129 (.map (some rb)) (ixV k) false).run Try.prog w = .ok (.slice none 0 0) w := by
     simp [Instr.lookup, run_underlying Try.underlying129, MapKept.run_getObj_map hb, ixLaw.check w es.isEmpty (ixKeyOf hk), h1, zeroInts, Result.andThen]
    rw [hr] at hv
    injection hv
  ·rcases hor with ⟨e0, he, hk0, rfl⟩ | ⟨hno, _⟩
   ·have hee : e = e0 := entry_eq_of_key s3 (List.mem_of_getElem? h2) he (h3.trans hk0.symm)
    subst hee
    have hr : (Instr.lookup 129 (.map (some rb)) (ixV k) false).run Try.prog w = .ok e.val w := by
     simp [Instr.lookup, run_underlying Try.underlying129, MapKept.run_getObj_map hb, ixLaw.check w es.isEmpty (ixKeyOf hk), h1, Result.andThen]
    rw [hr] at hv
    injection hv
   ·exact absurd h3 (hno e (List.mem_of_getElem? h2))
 subst hvv
 refine ⟨st, _, hrun, set_touch hb, fun w2 val h2 => ?_⟩
 have h2' : w2.heap[rb]? = some (.map es1 clock1) := h2.trans (Go.ChangeMaps.heap_setBlock_same hb _)
 obtain ⟨es', clock', r1, r2⟩ := hgo w2 val h2'
 obtain ⟨w', q1, q2, _⟩ := hst val
 rw [q1] at r2
 injection r2 with _ r2
 subst r2
 refine ⟨_, r1, set_touch h2', ?_⟩
 obtain ⟨es2, clock2, p1, p2⟩ := q2
 rw [Go.ChangeMaps.heap_setBlock_same hb] at p1
 exact ⟨es2, clock2, (Go.ChangeMaps.heap_setBlock_same h2' _).trans p1, p2⟩
end Go.Proofs.Ytchbbaehdcmcfaa
/- An index that gets one more key: what holds then. -/
namespace Go.Proofs.Ytchbbaehdcmcfaa
open Go.RowKit Go.Maps
set_option linter.unusedVariables false
theorem Touch.wide {F F' : List Nat} {w w' : World} (h : Touch F w w') (hs : ∀ k ∈ F, k ∈ F') : Touch F' w w' := ⟨h.os, h.tape, h.output, h.size, fun k hk hn => h.block k hk (fun hm => hn (hs k hm))⟩
theorem Touch.on {F : List Nat} {a b c : World} (h : Touch F a b) (h' : Touch F b c) : Touch F a c := h.trans h' (fun k hk => Or.inl hk)
theorem ixInj {a b : KeyM} (ha : ixOk a) (hb : ixOk b) (h : ixLit a = ixLit b) : a = b := by
 have e := ixLaw.inj (ixKeyOf ha) (h ▸ ixKeyOf hb)
 obtain ⟨a1, a2, a3, a4⟩ := a
 obtain ⟨b1, b2, b3, b4⟩ := b
 simp at e
 simp [e]
theorem ixIs (k : KeyM) : WideAt.IsKeyLit (ixLit k) := trivial
theorem plain_plain (k : KeyM) : plainK (plainK k) = plainK k := by
 by_cases h : k.k = 0
 ·rw [show plainK k = zeroKey from if_pos h]; rfl
 ·rw [show plainK k = k from if_neg h]; exact if_neg h
theorem plain_ok {k : KeyM} (h : ixOk k) : ixOk (plainK k) := by
 unfold plainK
 split
 ·exact ixZero
 ·exact h
theorem rowI_same {k k' : KeyM} (ks : List (KeyM × Bool)) (h : k ≠ k') : rowI k (ks ++ [(k', true)]) = rowI k ks := by
 show selI _ _ _ = _
 rw [selI_snoc, if_neg (fun e => h (isK_iff.1 e).1.symm), List.append_nil]
theorem rowI_more (k : KeyM) (ks : List (KeyM × Bool)) : rowI k (ks ++ [(k, true)]) = rowI k ks ++ [(ks.length : Int)] := by
 show selI _ _ _ = _
 rw [selI_snoc, if_pos (show isK k (k, true) = true from isK_iff.2 ⟨rfl, rfl⟩)]
theorem allI_more (k : KeyM) (ks : List (KeyM × Bool)) : allI (ks ++ [(k, true)]) = allI ks ++ [(ks.length : Int)] := by
 show selI _ _ _ = _
 rw [selI_snoc, if_pos rfl]
section
variable {w w' : World} {F : List Nat} {ks : List (KeyM × Bool)} {xb kb rb : Nat} {D1 D2 : DataW Value} {rv : KeyM → Value}
theorem IxRep.added (H : IxRep w F ks xb kb rb D1 D2 rv) {k : KeyM} {v v' : Value} (hk : ixOk k) (hp : plainK k = k) (hv : (rowI k ks = [] ∧ v = .slice none 0 0) ∨ (rowI k ks ≠ [] ∧ v = rv k)) (ht : Touch ([xb, kb, rb] ++ v.ownBlock.toList) w w')
  (hbox : Box w' xb [.int .i64 ((ks.length + 1 : Nat) : Int), .map (some kb), .map (some rb)])
  (ho1 : w'.ownsMap Try.prog 3 keepV kb (ks.length + 1) (D1.put (.int .i64 (ks.length : Int)) (.held (ixV k))))
  (ho2 : w'.ownsMap Try.prog 76 keepV rb (ks.length + 1) (D2.put (ixLit k) (.held v')))
  (hrow : w'.ownsRow 0 3 1 v' ((rowI k ks).length + 1) ((rowI k ks ++ [(ks.length : Int)]).flatMap numCells))
  (hat : v'.ownBlock = v.ownBlock ∨ ∃ g, v'.ownBlock = some g ∧ w.heap.size ≤ g) :
  ∃ F', IsX w' F' (.pointer (some ⟨xb, 0, none⟩)) (ks ++ [(k, true)]) ∧ ∀ g ∈ F', g ∈ F ∨ w.heap.size ≤ g := by
 have hvb : ∀ g, v.ownBlock = some g → rowI k ks ≠ [] ∧ v = rv k := fun g hg => by
  rcases hv with ⟨_, rfl⟩ | h
  ·cases hg
  ·exact h
 obtain ⟨g0, hg0, hg1⟩ : ∃ g0, v'.ownBlock = some g0 ∧ g0 < w'.heap.size := by
  rcases hrow.2 with ⟨_, hz⟩ | ⟨g, cap, cur, rfl, _, hg, _⟩
  ·omega
  ·exact ⟨g, rfl, (Array.getElem?_eq_some_iff.1 hg).1⟩
 have hg0F : g0 ∈ F ∨ w.heap.size ≤ g0 := by
  rcases hat with e | ⟨g, e, h⟩
  ·obtain ⟨h1, h2⟩ := hvb g0 (e ▸ hg0)
   exact Or.inl (H.blk k hk h1 g0 (by rw [← h2, ← e]; exact hg0)).1
  ·rw [hg0] at e
   injection e with e
   exact Or.inr (by omega)
 have hg0N : g0 ≠ xb ∧ g0 ≠ kb ∧ g0 ≠ rb := by
  rcases hat with e | ⟨g, e, h⟩
  ·obtain ⟨h1, h2⟩ := hvb g0 (e ▸ hg0)
   exact (H.blk k hk h1 g0 (by rw [← h2, ← e]; exact hg0)).2
  ·rw [hg0] at e
   injection e with e
   have h1 := H.lt xb H.inF.1
   have h2 := H.lt kb H.inF.2.1
   have h3 := H.lt rb H.inF.2.2
   omega
 have hother : ∀ j, ixOk j → rowI j ks ≠ [] → j ≠ k → ∀ g, (rv j).ownBlock = some g → g ≠ g0 ∧ w'.heap[g]? = w.heap[g]? := fun j hj hr hjk g hg => by
  obtain ⟨b1, b2, b3, b4⟩ := H.blk j hj hr g hg
  have hvg : v.ownBlock ≠ some g := fun e => by
   obtain ⟨h1, h2⟩ := hvb g e
   exact H.sep j k hj hk hr h1 hjk g hg (by rw [← h2]; exact e)
  refine ⟨fun e => ?_, ht.block g (H.lt g b1) (fun hm => ?_)⟩
  ·subst e
   rcases hat with e | ⟨g', e, h⟩
   ·exact hvg (e ▸ hg0)
   ·rw [hg0] at e
    injection e with e
    have := H.lt g b1
    omega
  ·simp at hm
   rcases hm with hm | hm | hm | hm
   ·exact b2 hm
   ·exact b3 hm
   ·exact b4 hm
   ·exact hvg hm
 have hsame : ∀ j, j ≠ k → rowI j (ks ++ [(k, true)]) = rowI j ks := fun j hj => rowI_same ks hj
 have hne : rowI k (ks ++ [(k, true)]) ≠ [] := by rw [rowI_more]; simp
 refine ⟨g0 :: F, ⟨xb, kb, rb, D1.put (.int .i64 (ks.length : Int)) (.held (ixV k)), D2.put (ixLit k) (.held v'), fun j => if sameKey j k = true then v' else rv j, rfl, ?_⟩, fun g hg => ?_⟩
 ·have hrv : ∀ j, j ≠ k → (if sameKey j k = true then v' else rv j) = rv j := fun j hj => if_neg (fun e => hj (sameKey_iff.1 e))
  have hrk : (if sameKey k k = true then v' else rv k) = v' := if_pos (sameKey_self k)
  have hlen : (ks ++ [(k, true)]).length = ks.length + 1 := by rw [List.length_append]; rfl
  exact {
   box := by rw [hlen]; exact hbox
   own1 := by rw [hlen]; exact ho1
   has1 := fun i => by
    rw [allI_more, List.mem_append, List.mem_singleton]
    by_cases e : i = (ks.length : Int)
    ·subst e
     rw [has_put_same H.own1.isMap (by trivial)]
     simp
    ·rw [has_put_other (fun e' => e (by injection e' with _ e'))]
     rw [H.has1 i]
     simp [e]
   at1 := fun i x hx h2 z => by
    by_cases e : i < ks.length
    ·rw [List.getElem?_append_left e] at hx
     rw [atKey_put_other (fun e' => by injection e' with _ e'; omega)]
     exact H.at1 i x hx h2 z
    ·rw [List.getElem?_append_right (by omega)] at hx
     have hi : i = ks.length := by
      have := (List.getElem?_eq_some_iff.1 hx).1
      simp at this
      omega
     subst hi
     simp at hx
     subst hx
     exact atKey_put_same H.own1.isMap (by trivial) _ _
   own2 := by rw [hlen]; exact ho2
   has2 := fun j hj => by
    by_cases e : j = k
    ·subst e
     rw [has_put_same H.own2.isMap (ixIs _)]
     simp [hne]
    ·rw [has_put_other (fun e' => e (ixInj hj hk e')), hsame j e]
     exact H.has2 j hj
   at2 := fun j hj hr z => by
    by_cases e : j = k
    ·subst e
     show _ = DataW.held (if sameKey j j = true then v' else rv j)
     rw [hrk]
     exact atKey_put_same H.own2.isMap (ixIs _) _ _
    ·show _ = DataW.held (if sameKey j k = true then v' else rv j)
     rw [atKey_put_other (fun e' => e (ixInj hj hk e')), hrv j e]
     rw [hsame j e] at hr
     exact H.at2 j hj hr z
   row := fun j hj hr => by
    by_cases e : j = k
    ·subst e
     show w'.ownsRow 0 _ 1 (if sameKey j j = true then v' else rv j) _ _
     rw [hrk, rowI_more, List.length_append]
     exact hrow
    ·show w'.ownsRow 0 _ 1 (if sameKey j k = true then v' else rv j) _ _
     rw [hsame j e] at hr ⊢
     rw [hrv j e]
     exact row_at (H.row j hj hr) (fun g hg => (hother j hj hr e g hg).2)
   blk := fun j hj hr g hg => by
    by_cases e : j = k
    ·subst e
     have hg' : (if sameKey j j = true then v' else rv j).ownBlock = some g := hg
     rw [hrk, hg0] at hg'
     injection hg' with e
     subst e
     exact ⟨by simp, hg0N⟩
    ·have hg' : (if sameKey j k = true then v' else rv j).ownBlock = some g := hg
     rw [hrv j e] at hg'
     rw [hsame j e] at hr
     obtain ⟨b1, b2⟩ := H.blk j hj hr g hg'
     exact ⟨by simp [b1], b2⟩
   sep := fun i j hi hj hri hrj hij g hg hg2 => by
    have hg' : (if sameKey i k = true then v' else rv i).ownBlock = some g := hg
    have hg2' : (if sameKey j k = true then v' else rv j).ownBlock = some g := hg2
    by_cases e : i = k
    ·subst e
     rw [hrk, hg0] at hg'
     injection hg' with e
     subst e
     have hj' : j ≠ i := fun e => hij e.symm
     rw [hrv j hj'] at hg2'
     rw [hsame j hj'] at hrj
     exact (hother j hj hrj hj' g0 hg2').1 rfl
    ·rw [hrv i e] at hg'
     rw [hsame i e] at hri
     by_cases e2 : j = k
     ·subst e2
      rw [hrk, hg0] at hg2'
      injection hg2' with e3
      subst e3
      exact (hother i hi hri e g0 hg').1 rfl
     ·rw [hrv j e2] at hg2'
      rw [hsame j e2] at hrj
      exact H.sep i j hi hj hri hrj hij g hg' hg2'
   inF := ⟨by simp [H.inF.1], by simp [H.inF.2.1], by simp [H.inF.2.2]⟩
   lt := fun g hg => by
    rcases List.mem_cons.1 hg with rfl | hg
    ·exact hg1
    ·exact Nat.lt_of_lt_of_le (H.lt g hg) ht.size
   ne := H.ne
   kept := fun x hx => by
    rcases List.mem_append.1 hx with hx | hx
    ·exact H.kept x hx
    ·simp at hx; subst hx; exact hp
   oks := fun x hx => by
    rcases List.mem_append.1 hx with hx | hx
    ·exact H.oks x hx
    ·simp at hx; subst hx; exact hk }
 ·rcases List.mem_cons.1 hg with rfl | hg
  ·exact hg0F
  ·exact Or.inl hg
end
end Go.Proofs.Ytchbbaehdcmcfaa
/- An index that has one less: what holds then. -/
namespace Go.Proofs.Ytchbbaehdcmcfaa
open Go.RowKit Go.Maps Go.WideElems Go.WideMaps
set_option linter.unusedVariables false
theorem owns_size {H : Type} {w : World} {k : TypeId} {R : Value → Option (DataW H × List MemPlace)} {b n n' : Nat} {D : DataW H} (h : w.ownsMap Try.prog k R b n D) (hs : Maps.size D ≤ n') : w.ownsMap Try.prog k R b n' D := by
 obtain ⟨es, clock, hb, F, hsz, rfl⟩ := h
 refine ⟨es, clock, hb, F, ?_, rfl⟩
 have e1 : Maps.size (DataW.map ((es.toList.map (rg Try.prog k R)).foldr DataW.insert [])) = es.size := by simp [Maps.size, length_sorted]
 omega
section
variable {w w' : World} {F : List Nat} {ks : List (KeyM × Bool)} {xb kb rb : Nat} {D1 D2 : DataW Value} {rv : KeyM → Value}
theorem rowI_other {j : Nat} {k i : KeyM} (hj : ks[j]? = some (k, true)) (hi : i ≠ k) : rowI i (ks.set j (k, false)) = rowI i ks :=
 selI_same hj (by
  have h1 : isK i (k, true) = false := by
   cases h : isK i (k, true) with
   | false => rfl
   | true => exact absurd (isK_iff.1 h).1.symm hi
  rw [h1]
  unfold isK
  simp)
theorem rowI_cut {j : Nat} {k : KeyM} (hj : ks[j]? = some (k, true)) : ∃ A B, rowI k ks = A ++ (j : Int) :: B ∧ rowI k (ks.set j (k, false)) = A ++ B ∧ (∀ m ∈ A, m < (j : Int)) ∧ ∀ m ∈ B, (j : Int) < m :=
 selI_cut hj (isK_iff.2 ⟨rfl, rfl⟩) (by unfold isK; simp)
theorem allI_cut {j : Nat} {k : KeyM} (hj : ks[j]? = some (k, true)) (i : Int) : i ∈ allI (ks.set j (k, false)) ↔ i ∈ allI ks ∧ i ≠ (j : Int) := by
 obtain ⟨A, B, h1, h2, h3, h4⟩ := selI_cut (p := fun x : KeyM × Bool => x.2) (y := (k, false)) hj rfl rfl
 show i ∈ selI _ _ _ ↔ i ∈ selI _ _ _ ∧ _
 rw [h1, h2, List.mem_append, List.mem_append, List.mem_cons]
 constructor
 ·rintro (h | h)
  ·exact ⟨Or.inl h, fun e => by have := h3 i h; omega⟩
  ·exact ⟨Or.inr (Or.inr h), fun e => by have := h4 i h; omega⟩
 ·rintro ⟨h | h | h, hne⟩
  ·exact Or.inl h
  ·exact absurd h hne
  ·exact Or.inr h
theorem IxRep.dropped (H : IxRep w F ks xb kb rb D1 D2 rv) {j : Nat} {k : KeyM} {v' : Value} {D2' : DataW Value} {n1 n2 : Nat} (hj : ks[j]? = some (k, true)) (ht : Touch ([kb, rb] ++ (rv k).ownBlock.toList) w w')
  (ho1 : w'.ownsMap Try.prog 3 keepV kb n1 (D1.del (.int .i64 (j : Int))))
  (ho2 : w'.ownsMap Try.prog 76 keepV rb n2 D2')
  (hD : (rowI k (ks.set j (k, false)) = [] ∧ D2' = D2.del (ixLit k)) ∨ (rowI k (ks.set j (k, false)) ≠ [] ∧ D2' = D2.put (ixLit k) (.held v') ∧ v'.ownBlock = (rv k).ownBlock ∧ w'.ownsRow 0 3 1 v' (rowI k (ks.set j (k, false))).length ((rowI k (ks.set j (k, false))).flatMap numCells))) :
  IsX w' F (.pointer (some ⟨xb, 0, none⟩)) (ks.set j (k, false)) := by
 have hk : ixOk k := H.oks _ (List.mem_of_getElem? hj)
 have hkk : plainK k = k := H.kept _ (List.mem_of_getElem? hj)
 have hjl := (List.getElem?_eq_some_iff.1 hj).1
 have hrk : rowI k ks ≠ [] := by
  obtain ⟨A, B, h, _⟩ := rowI_cut hj
  rw [h]
  simp
 have hsz1 := H.own1.size_le
 have hsz2 := H.own2.size_le
 have hhas : Maps.has D2 (ixLit k) = true := (H.has2 k hk).2 hrk
 have td1 := size_del (k := .int .i64 (j : Int)) (H.own1.tidy (int_keyed Try.underlying3))
 have td2 := size_del (k := ixLit k) (H.own2.tidy ixLaw)
 have tp2 := size_put (k := ixLit k) (H.own2.tidy ixLaw) (.held v')
 rw [hhas] at td2 tp2
 rw [if_pos rfl] at td2 tp2
 have hset : (ks.set j (k, false)).length = ks.length := List.length_set
 have hdisj : ∀ i, ixOk i → rowI i ks ≠ [] → i ≠ k → ∀ g, (rv i).ownBlock = some g → w'.heap[g]? = w.heap[g]? := fun i hi hr hik g hg => by
  obtain ⟨b1, b2, b3, b4⟩ := H.blk i hi hr g hg
  refine ht.block g (H.lt g b1) (fun hm => ?_)
  simp at hm
  rcases hm with hm | hm | hm
  ·exact b3 hm
  ·exact b4 hm
  ·exact H.sep i k hi hk hr hrk hik g hg hm
 have hbx : w'.heap[xb]? = w.heap[xb]? := ht.block xb (H.lt xb H.inF.1) (fun hm => by
  simp at hm
  rcases hm with hm | hm | hm
  ·exact H.ne.1 hm
  ·exact H.ne.2.1 hm
  ·exact (H.blk k hk hrk xb hm).2.1 rfl)
 have hput : ∀ i, ixOk i → i ≠ k → Maps.has D2' (ixLit i) = Maps.has D2 (ixLit i) ∧ ∀ z, D2'.atKey (ixLit i) z = D2.atKey (ixLit i) z := fun i hi hik => by
  rcases hD with ⟨_, rfl⟩ | ⟨_, rfl, _⟩
  ·exact ⟨has_del_other (fun e => hik (ixInj hi hk e)), fun z => atKey_del_other (fun e => hik (ixInj hi hk e)) z⟩
  ·exact ⟨has_put_other (fun e => hik (ixInj hi hk e)) _, fun z => atKey_put_other (fun e => hik (ixInj hi hk e)) _ z⟩
 have hrv : ∀ i, i ≠ k → (if sameKey i k = true then v' else rv i) = rv i := fun i hi => if_neg (fun e => hi (sameKey_iff.1 e))
 have hrvk : (if sameKey k k = true then v' else rv k) = v' := if_pos (sameKey_self k)
 have hyes : rowI k (ks.set j (k, false)) ≠ [] → D2' = D2.put (ixLit k) (.held v') ∧ v'.ownBlock = (rv k).ownBlock ∧ w'.ownsRow 0 3 1 v' (rowI k (ks.set j (k, false))).length ((rowI k (ks.set j (k, false))).flatMap numCells) := fun h => by
  rcases hD with ⟨h1, _⟩ | ⟨_, h2⟩
  ·exact absurd h1 h
  ·exact h2
 refine ⟨xb, kb, rb, D1.del (.int .i64 (j : Int)), D2', fun i => if sameKey i k = true then v' else rv i, rfl, ?_⟩
 exact {
  box := by rw [hset]; exact H.box.block hbx (Nat.lt_of_lt_of_le H.box.lt ht.size)
  own1 := by rw [hset]; exact owns_size ho1 (by omega)
  has1 := fun i => by
   rw [allI_cut hj]
   by_cases e : i = (j : Int)
   ·subst e
    rw [has_del_same]
    simp
   ·rw [has_del_other (fun e' => e (by injection e' with _ e'))]
    rw [H.has1 i]
    simp [e]
  at1 := fun i x hx h2 z => by
   by_cases e : i = j
   ·subst e
    rw [List.getElem?_set_self hjl] at hx
    injection hx with hx
    subst hx
    cases h2
   ·rw [List.getElem?_set_ne (fun e' => e e'.symm)] at hx
    rw [atKey_del_other (fun e' => by injection e' with _ e'; omega)]
    exact H.at1 i x hx h2 z
  own2 := by
   rw [hset]
   refine owns_size ho2 ?_
   rcases hD with ⟨_, rfl⟩ | ⟨_, rfl, _⟩
   ·omega
   ·rw [tp2]; exact hsz2
  has2 := fun i hi => by
   by_cases e : i = k
   ·subst e
    rcases hD with ⟨h1, rfl⟩ | ⟨h1, rfl, _⟩
    ·rw [has_del_same, h1]; simp
    ·rw [has_put_same H.own2.isMap (ixIs _)]; simp [h1]
   ·rw [(hput i hi e).1, rowI_other hj e]
    exact H.has2 i hi
  at2 := fun i hi hr z => by
   by_cases e : i = k
   ·subst e
    obtain ⟨h1, _⟩ := hyes hr
    show D2'.atKey _ z = DataW.held (if sameKey i i = true then v' else rv i)
    rw [hrvk, h1]
    exact atKey_put_same H.own2.isMap (ixIs _) _ _
   ·show D2'.atKey _ z = DataW.held (if sameKey i k = true then v' else rv i)
    rw [hrv i e, (hput i hi e).2]
    rw [rowI_other hj e] at hr
    exact H.at2 i hi hr z
  row := fun i hi hr => by
   by_cases e : i = k
   ·subst e
    show w'.ownsRow 0 _ 1 (if sameKey i i = true then v' else rv i) _ _
    rw [hrvk]
    exact (hyes hr).2.2
   ·show w'.ownsRow 0 _ 1 (if sameKey i k = true then v' else rv i) _ _
    rw [rowI_other hj e] at hr ⊢
    rw [hrv i e]
    exact row_at (H.row i hi hr) (fun g hg => hdisj i hi hr e g hg)
  blk := fun i hi hr g hg => by
   by_cases e : i = k
   ·subst e
    have hg' : (if sameKey i i = true then v' else rv i).ownBlock = some g := hg
    rw [hrvk, (hyes hr).2.1] at hg'
    exact H.blk i hi hrk g hg'
   ·have hg' : (if sameKey i k = true then v' else rv i).ownBlock = some g := hg
    rw [hrv i e] at hg'
    rw [rowI_other hj e] at hr
    exact H.blk i hi hr g hg'
  sep := fun i i2 hi hi2 hr hr2 hne g hg hg2 => by
   have hg' : (if sameKey i k = true then v' else rv i).ownBlock = some g := hg
   have hg2' : (if sameKey i2 k = true then v' else rv i2).ownBlock = some g := hg2
   by_cases e : i = k
   ·subst e
    have e2 : i2 ≠ i := fun e => hne e.symm
    rw [hrvk, (hyes hr).2.1] at hg'
    rw [hrv i2 e2] at hg2'
    rw [rowI_other hj e2] at hr2
    exact H.sep i i2 hi hi2 hrk hr2 hne g hg' hg2'
   ·rw [hrv i e] at hg'
    rw [rowI_other hj e] at hr
    by_cases e2 : i2 = k
    ·subst e2
     rw [hrvk, (hyes hr2).2.1] at hg2'
     exact H.sep i i2 hi hi2 hr hrk hne g hg' hg2'
    ·rw [hrv i2 e2] at hg2'
     rw [rowI_other hj e2] at hr2
     exact H.sep i i2 hi hi2 hr hr2 hne g hg' hg2'
  inF := H.inF
  lt := fun g hg => Nat.lt_of_lt_of_le (H.lt g hg) ht.size
  ne := H.ne
  kept := fun x hx => by
   rcases List.mem_or_eq_of_mem_set hx with h | rfl
   ·exact H.kept x h
   ·exact hkk
  oks := fun x hx => by
   rcases List.mem_or_eq_of_mem_set hx with h | rfl
   ·exact H.oks x h
   ·exact hk }
end
end Go.Proofs.Ytchbbaehdcmcfaa
