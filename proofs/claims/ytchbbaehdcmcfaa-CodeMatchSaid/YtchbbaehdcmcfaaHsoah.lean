import Derived.Test.YtchbbaehdcmcfaaHsoag
import Derived.Maps.OwnSet
import Derived.Maps.OwnOps
import Derived.Maps.Views
import Derived.Test.YtchbbaehdcmcfaaHsoae
import Derived.Shelf.Small.Bits
import Derived.Shelf.Small.Wraps
import Derived.Shelf.Strconv.Itoa0
import Derived.Shelf.Sort.Plain
import Derived.Ground.Names2Prog
import Derived.Shelf.Slices.SearchI
import Derived.Shelf.Slices.Delete
import Derived.Shelf.Slices.Cells
import Derived.Shelf.Slices.In.SortNone
import Derived.Shelf.Slices.Empties
import Derived.Ground.SlgnProg
import Derived.Shelf.SlicesE.Reverse
import Derived.Test.YtchbbaehdcmcfaaProg
import Derived.Shelf.SlGeneric
import Derived.Lib.OwnBridge
import Derived.Lib.RowBridge
set_option linter.unusedVariables false
set_option linter.unusedSimpArgs false
/- Package bind: New, Fresh. -/
namespace Go.Proofs.Ytchbbaehdcmcfaa
open Go.RowKit
set_option linter.unusedVariables false
theorem getB_nil (m : Int) : getB [] m = none := rfl
section
variable {V w : World} {F : List Nat} {p : Value} {N : Nat} {R : List (Int × Tm)}
set_option maxHeartbeats 1000000 in
theorem New_at (hs : Stays V w) : Calls Try.prog 20 #[] w fun e w' => ∃ p F, e = .returned p ∧ IsB V F w' p 0 [] ∧ Below w.heap.size w w' ∧ ∀ k ∈ F, w.heap.size ≤ k := by
 have C := newL 65536 65536 (by omega) w
 have HS := Lib.hid hs
 clear hs
 go_enter Try.func20, Try.ntmps20
 (go_wp2_with fail; go_fit (C); rintro e w1 ⟨q, rfl, G, h1, h2, h3⟩)
 obtain ⟨bs, rfl⟩ : ∃ bs, q = .pointer (some ⟨bs, 0, none⟩) := by obtain ⟨bs, _, rfl, _⟩ := h1; exact ⟨bs, rfl⟩
 have hs1 : ∀ k ∈ G, k < w1.heap.size := h1.lt
 have HF : ∀ o, o = Obj.cells #[.slice none 0 0, .pointer (some ⟨bs, 0, none⟩)] 110 → IsB V (w1.heap.size :: G) (w1.alloc o) (.pointer (some ⟨w1.heap.size, 0, none⟩)) 0 [] ∧ Below w.heap.size w (w1.alloc o) ∧ ∀ k ∈ (w1.heap.size :: G), w.heap.size ≤ k := by
  intro o ho
  subst ho
  have hnew : ∀ k ∈ (w1.heap.size :: G), w.heap.size ≤ k := by
   intro k hk
   rcases List.mem_cons.1 hk with rfl | hk
   ·exact h2.size
   ·exact h3 k hk
  have hb := h2.trans ((bel1' w1 (Obj.cells #[.slice none 0 0, .pointer (some ⟨bs, 0, none⟩)] 110)).mono h2.size)
  refine ⟨⟨w1.heap.size, .slice none 0 0, _, G, [], rfl, by simp [Value.ownBlock], by simp [Value.ownBlock], fun hm => by have := hs1 _ hm; omega, fun k hk => (by cases hk), heap_alloc_new w1 _, rfl, World.ownsRow_nil _ _ _ _, h1.ext (bel1' w1 _), ⟨fun i hi _ => by simp at hi, fun i t hi => by rw [getB_nil] at hi; cases hi⟩, trivial, by omega, HS.out.later hb, Blind.new HS.out hnew⟩, hb, hnew⟩
 have HH := Lib.hid HF
 clear h1 h2 h3 hs1 HF C
 go_wp2
 go_ret
 obtain ⟨a1, a2, a3⟩ := HH.out _ rfl
 exact ⟨_, _, rfl, a1, a2, a3⟩
theorem IsB.grow (h : IsB V F w p N R) (hN : N < 65536) {bt : Nat} (hp : p = .pointer (some ⟨bt, 0, none⟩)) {a : Option Addr} {c : Nat} (hc : w.cell? ⟨bt, 0, none⟩ = some (.slice a N c)) :
  ∃ xs, w.ownsRow 0 112 5 (.slice a N c) N xs ∧ (∀ k, (Value.slice a N c).ownBlock = some k → k < w.heap.size ∧ k ≠ bt ∧ k ∈ F) ∧
   ∀ (w2 w3 : World) (v' : Value), Below w.heap.size w w2 → w2.grownBy w3 (Value.slice a N c).ownBlock → (v'.ownBlock = (Value.slice a N c).ownBlock ∨ v'.ownBlock = some w2.heap.size) → w3.ownsRow 0 112 5 v' (N + 1) (xs ++ slCells none) →
    w3.cell? ⟨bt, 0, none⟩ = some (.slice a N c) ∧ w3.frozen? ⟨bt, 0, none⟩ = false ∧ ∃ F', IsB V F' (w3.setCell ⟨bt, 0, none⟩ v') p (N + 1) R ∧ Touch F w (w3.setCell ⟨bt, 0, none⟩ v') ∧ ∀ k ∈ F', k ∈ F ∨ w2.heap.size ≤ k := by
 have hF := h.lt
 obtain ⟨bt', v, q, G, sl, rfl, rfl, h1, h2, h3, h4, h5, h6, h7, h8, h9, h10, h11, h12⟩ := h
 cases hp
 have hv : v = .slice a N c := by
  have : w.cell? ⟨bt, 0, none⟩ = some v := by simp [blk_cell h4]
  rw [hc] at this
  exact (Option.some.inj this).symm
 subst hv
 refine ⟨_, h6, fun k hk => ⟨(h6.lt k hk).2, fun e => h1 (by rw [hk, e]), by simp [hk]⟩, fun w2 w3 v' hb hg hat hr => ?_⟩
 have hs := hb.size
 have hbl := hF bt (by simp)
 have b3 : w3.heap[bt]? = some (.cells #[.slice a N c, q] 110 (0, 0)) := (hg.block bt (by omega) (fun e => h1 e.symm)).trans ((hb.block bt hbl).trans h4)
 have hne : v'.ownBlock ≠ some bt := by
  rcases hat with e | e <;> rw [e]
  ·exact h1
  ·intro e'; simp at e'; omega
 have hin : ∀ k ∈ bt :: (v'.ownBlock.toList ++ G), k ∈ bt :: ((Value.slice a N c).ownBlock.toList ++ G) ∨ w2.heap.size ≤ k := by
  intro k hk
  simp only [List.mem_cons, List.mem_append, Option.mem_toList] at hk ⊢
  rcases hk with rfl | hk | hk
  ·exact Or.inl (Or.inl rfl)
  ·rcases hat with e | e
   ·rw [e] at hk; exact Or.inl (Or.inr (Or.inl hk))
   ·rw [e] at hk; simp at hk; exact Or.inr (by omega)
  ·exact Or.inl (Or.inr (Or.inr hk))
 have tw : Touch (bt :: ((Value.slice a N c).ownBlock.toList ++ G)) w (w3.setCell ⟨bt, 0, none⟩ v') := by
  refine ⟨hg.os.trans hb.os, hg.tape.trans hb.tape, hg.output.trans hb.output, by have := hg.size; simp [World.setCell]; omega, fun j hj hn => ?_⟩
  simp only [List.mem_cons, List.mem_append, Option.mem_toList, not_or] at hn
  exact (Below.heap_setCell w3 ⟨bt, 0, none⟩ v' j hn.1).trans ((hg.block j (by omega) (fun e => hn.2.1 e.symm)).trans (hb.block j hj))
 have hG : ∀ k ∈ G, (w3.setCell ⟨bt, 0, none⟩ v').heap[k]? = w.heap[k]? := fun k hk =>
  (Below.heap_setCell w3 ⟨bt, 0, none⟩ v' k (fun e => h2 (by have e' : k = bt := e; rw [← e']; exact hk))).trans ((hg.block k (by have := hF k (by simp [hk]); omega) (fun e => h3 k e.symm hk)).trans (hb.block k (hF k (by simp [hk]))))
 refine ⟨by simp [blk_cell b3], blk_froz b3 0, _, ⟨bt, v', q, G, sl ++ [none], rfl, rfl, hne, h2, fun k hk hm => ?_, ?_, by simp [h5], ?_, h7.keep hG, ?_, h9.more, by omega, h11.touch h12 tw, h12.some h11 (fun k hk => (hin k hk).imp id (fun e => by omega))⟩, tw, hin⟩
 ·rcases hat with e | e
  ·rw [e] at hk; exact h3 k hk hm
  ·rw [e] at hk; simp at hk; have := hF k (by simp [hm]); omega
 ·have := hb
  simp [World.setCell, Array.getElem?_modify, b3]
 ·rw [List.flatMap_append]
  have hr2 : w3.ownsRow 0 112 5 v' (N + 1) (sl.flatMap slCells ++ [none].flatMap slCells) := by simpa using hr
  exact row_at hr2 (fun g hg' => Below.heap_setCell w3 ⟨bt, 0, none⟩ v' g (fun e => hne (by rw [hg']; exact congrArg some e)))
 ·refine ⟨fun i hi hget => ?_, fun i t hi => ?_⟩
  ·by_cases hlt : i < sl.length
   ·rw [List.getElem?_append_left hlt]; exact h8.free i hlt hget
   ·have : i = sl.length := by simp at hi; omega
    subst this
    simp
  ·obtain ⟨u, e1, e2⟩ := h8.held i t hi
   exact ⟨u, by rw [List.getElem?_append_left (List.getElem?_eq_some_iff.1 e1).1]; exact e1, e2⟩
set_option maxHeartbeats 4000000 in
set_option maxRecDepth 100000 in
theorem Fresh_at (h : IsB V F w p N R) (hN : N < 65536) :
  Calls Try.prog 21 #[p] w fun e w' => ∃ F', e = .returned (.tuple #[.agg #[.int .i64 0, .int .i64 N, .string ⟨#[]⟩, .slice none 0 0], .bool true]) ∧ IsB V F' w' p (N + 1) R ∧ Touch F w w' ∧ ∀ k ∈ F', k ∈ F ∨ w.heap.size ≤ k := by
 have HS := Lib.hid h.see
 have HLT := Lib.hid h.lt
 obtain ⟨bt, a, c, bs, rfl, hlt, c0, c1, h1, h2, _⟩ := h.open
 obtain ⟨xs, hrow, hown, hgrow⟩ := h.grow hN rfl c0
 obtain ⟨i0, hi0, hz0, hs0, hb0⟩ := info_parts infoSlot
 have hne : (N : Int) ≠ 65536 := by omega
 have hne' : ((N : Int) == 65536) = false := by simpa using hne
 have hwr : IntKind.i64.wrap (((N + 1 : Nat) : Int) - 1) = (N : Int) := by rw [IntKind.wrap_i64]; omega
 have HR := Lib.hid hrow
 have HO := Lib.hid hown
 have HG := Lib.hid hgrow
 have HH := Lib.hid h
 unfold maxLen at h2
 obtain ⟨w1, e1, B1, z1, X1⟩ := box_new w #[.int .i64 0, .int .i64 0, .string ⟨#[]⟩, .slice none 0 0] 31
 have d0 := cell_later B1 c0
 have d1 := cell_later B1 c1
 obtain ⟨y0, y1, y2, y3, yf⟩ := X1.four
 have HB1 := Lib.hid (And.intro B1 X1)
 have HR1 := Lib.hid (row_ext hrow B1)
 have hs1 : w.heap.size < w1.heap.size := by omega
 clear h hrow hown hgrow B1 X1 c0 c1 z1
 go_enter Try.func21, Try.ntmps21
 go_wp2_with (at_builtin; refine wpList_append_k rfl _ _ 108 rfl 0 112 i0 (.agg #[.bool false, .int .i64 0, .int .i64 0, .string ⟨#[]⟩, .slice none 0 0]) 5 64 Try.underlying108 hi0 hz0 hs0 (by decide) hb0 rfl (.slice a N c) N xs rfl (HR1.out.alloc _) _ 1 1 (slCells none) rfl rfl (Or.inr ⟨⟨w1.heap.size, 0, none⟩, rfl, fun j u hu => cell_new w1 #[.bool false, .int .i64 0, .int .i64 0, .string ⟨#[]⟩, .slice none 0 0] 112 j u hu⟩) (fun u hu => by simp [slCells] at hu; rcases hu with rfl | rfl | rfl | rfl | rfl <;> rfl) (by unfold maxLen; omega) (by omega) (Nat.zero_le _) (N + 1) (xs ++ slCells none) rfl rfl ?_; intro a4 c4 w3 hown4 hgrow4 hat4; obtain ⟨hc3, hf3, F', hI, hT, hin⟩ := HG.out _ w3 (.slice a4 (N + 1) c4) (Ext.trans' HB1.out.1 (bel1' w1 _)) hgrow4 hat4 hown4; have HFIN := Lib.hid (And.intro hI (And.intro hT hin)); have HGR := Lib.hid hgrow4; clear hI hT hin hown4 hgrow4 hat4)
 obtain ⟨wS, eS⟩ : ∃ wS, w3.setCell ⟨bt, 0, none⟩ (.slice a4 (N + 1) c4) = wS := ⟨_, rfl⟩
 have g0 : wS.cell? ⟨bt, 0, none⟩ = some (.slice a4 (N + 1) c4) := by rw [← eS]; exact css hc3
 have hbox : Box wS w.heap.size [.int .i64 0, .int .i64 0, .string ⟨#[]⟩, .slice none 0 0] := by
  have hb2 : Box (w1.alloc (.cells #[.bool false, .int .i64 0, .int .i64 0, .string ⟨#[]⟩, .slice none 0 0] 112)) w.heap.size _ := HB1.out.2.ext (bel1' w1 _)
  have hne : (Value.slice a N c).ownBlock ≠ some w.heap.size := fun e => by have := (HO.out _ e).1; omega
  have hb3 : Box w3 w.heap.size _ := hb2.block (HGR.out.block _ hb2.lt (fun e => hne e.symm)) (Nat.lt_of_lt_of_le hb2.lt HGR.out.size)
  rw [← eS]
  exact hb3.far (by omega)
 have HBX := Lib.hid hbox
 clear hbox
 (try rw [eS])
 rw [eS] at HFIN
 clear eS hc3 hf3
 go_fit (var_at wS N)
 rintro e w5 ⟨rfl, b5⟩
 obtain ⟨x0, x1, x2, x3, xf⟩ := (HBX.out.ext b5).four
 have hI := (HFIN.out.1.ext b5)
 have hFr : ∀ k ∈ [w.heap.size], ¬ k ∈ F' := fun k hk hm => by
  simp at hk
  subst hk
  rcases HFIN.out.2.2 _ hm with h | h
  ·have := HLT.out _ h; omega
  ·simp at h; omega
 have hBl : Blind V [w.heap.size] := Blind.new HS.out.1 (fun k hk => by simp at hk; omega)
 have HEND := Lib.hid (show ∀ u0 u1 u2 u3, IsB V F' (set4 w5 w.heap.size u0 u1 u2 u3) (.pointer (some ⟨bt, 0, none⟩)) (N + 1) R ∧ Touch F w (set4 w5 w.heap.size u0 u1 u2 u3) ∧ ∀ k ∈ F', k ∈ F ∨ w.heap.size ≤ k from fun u0 u1 u2 u3 => by
  have ht : Touch [w.heap.size] w5 (set4 w5 w.heap.size u0 u1 u2 u3) := ⟨rfl, rfl, rfl, Nat.le_of_eq (set4_size _ _ _ _ _ _).symm, fun j hj hn => set4_other _ _ _ _ _ _ j (by simpa using hn)⟩
  refine ⟨hI.touch ht hFr hBl, (HFIN.out.2.1.then b5).four (Nat.le_refl _) _ _ _ _, fun k hk => (HFIN.out.2.2 k hk).imp id (fun h => ?_)⟩
  have := (bel1' w1 (.cells #[.bool false, .int .i64 0, .int .i64 0, .string ⟨#[]⟩, .slice none 0 0] 112)).size
  omega)
 clear b5 hI hFr hBl
 go_wp2
 refine bodyPost_ret (v := .tuple #[.agg #[.int .i64 0, .int .i64 N, .string ⟨#[]⟩, .slice none 0 0], .bool true]) (by rw [results_cell_tmp rfl]; go_simp) rfl ?_
 obtain ⟨q1, q2, q3⟩ := HEND.out (.int .i64 0) (.int .i64 N) (.string ⟨#[]⟩) (.slice none 0 0)
 exact ⟨F', rfl, q1, q2, q3⟩
end
end Go.Proofs.Ytchbbaehdcmcfaa
/- Package bind: reaches. -/
namespace Go.Proofs.Ytchbbaehdcmcfaa
open Go.RowKit Go.Maps
set_option linter.unusedVariables false
theorem lKeyed : Keyed Try.prog 2 := int_keyed Try.underlying2
theorem zeroU (w : World) : (zeroValue 211).run Try.prog w = .ok (.agg #[]) w := by kernel_rfl
theorem wf_i64 {n : Int} (h : I64 n) : (Lit.int .i64 n).wf = true := WalkArith.wf_i64 h
theorem lKey {n : Int} (h : I64 n) : keyOf Try.prog 2 (.int .i64 n) = some (.int .i64 n) := keyOf_int_mk Try.underlying2 (wf_i64 h)
def SeenM (w : World) (bm : Nat) (seen : List Int) : Prop := ∃ D : DataW Unit, w.ownsMap Try.prog 2 unitElem bm seen.length D ∧ Tidy D ∧ ∀ v, Maps.has D (.int .i64 v) = true ↔ v ∈ seen
theorem SeenM.nil (w : World) : SeenM (w.alloc (.map #[] 0)) w.heap.size [] := ⟨.map [], World.ownsMap_made w _ _ _, tidy_empty, fun v => by simp [Maps.has]⟩
theorem SeenM.put {w' : World} {bm : Nat} {seen : List Int} {v : Int} {D : DataW Unit} (h1 : Tidy D) (h2 : ∀ v, Maps.has D (.int .i64 v) = true ↔ v ∈ seen) (h : w'.ownsMap Try.prog 2 unitElem bm (seen.length + 1) (D.put (.int .i64 v) (.agg []))) : SeenM w' bm (seen ++ [v]) := by
 refine ⟨_, by rw [List.length_append]; exact h, h1.put (by trivial) _, fun u => ?_⟩
 by_cases e : u = v
 ·subst e
  rw [has_put_same h1.isMap (by trivial)]
  simp
 ·rw [has_put_other (fun e' => e (by injection e')), h2 u]
  simp [e]
theorem bel_grown {w w' : World} (b : Below w.heap.size w w') : w.grownBy w' none := ⟨b.os, b.tape, b.output, b.size, fun k hk _ => b.block k hk⟩
theorem SeenM.ext {w w' : World} {bm : Nat} {seen : List Int} (h : SeenM w bm seen) (b : Below w.heap.size w w') : SeenM w' bm seen := by
 obtain ⟨D, q1, q2, q3⟩ := h
 exact ⟨D, q1.kept (bel_grown b) (by simp), q2, q3⟩
theorem SeenM.block {w w' : World} {bm : Nat} {seen : List Int} (h : SeenM w bm seen) (e : w'.heap[bm]? = w.heap[bm]?) : SeenM w' bm seen := by
 obtain ⟨D, ⟨es, clock, h1, h2⟩, q2, q3⟩ := h
 exact ⟨D, ⟨es, clock, e.trans h1, h2⟩, q2, q3⟩
theorem SeenM.lt {w : World} {bm : Nat} {seen : List Int} (h : SeenM w bm seen) : bm < w.heap.size := by
 obtain ⟨D, q1, q2, q3⟩ := h
 exact q1.lt
theorem row_map {w : World} {base g k c bm : Nat} {l : List Int} {seen : List Int} (h : RowN w base (.slice (some ⟨g, 0, none⟩) k c) l) (hs : SeenM w bm seen) : g ≠ bm := by
 intro e
 subst e
 obtain ⟨D, ⟨es, clock, h1, _⟩, _, _⟩ := hs
 rcases h.2 with ⟨e, _⟩ | ⟨g', cap, cur, e, _, hh, _⟩
 ·cases e
 ·cases e
  rw [h1] at hh
  cases hh
theorem RowN.cut {w : World} {base : Nat} {a : Option Addr} {m c k : Nat} {l : List Int} {x : Int} (h : RowN w base (.slice a m c) (l ++ [x])) (hk : l.length = k) : m = k + 1 ∧ RowN w base (.slice a k c) l ∧ ∃ g, a = some ⟨g, 0, none⟩ ∧ base ≤ g ∧ w.cell? ⟨g, k, none⟩ = some (.int .i64 x) := by
 unfold RowN at h ⊢
 have hf : ∀ l : List Int, (l.flatMap numCells).length = l.length := fun l => by rw [flat_len (S := 1) (fun _ => rfl)]; omega
 obtain ⟨h0, h1⟩ := h
 rcases h1 with ⟨e, h1⟩ | ⟨g, cap, cur, e, hg, hh, q1, q2, q3, q4⟩
 ·simp at h1
 ·injection e with e1 e2 e3
  subst e1 e2 e3
  rw [List.length_append, List.length_singleton] at q1 q4 h0
  have hl2 : (l.flatMap numCells).length = l.length := hf l
  have q4' : cur.toList.take (l.length + 1) = l.flatMap numCells ++ [.int .i64 x] := by
   have := q4
   rw [List.flatMap_append, Nat.mul_one] at this
   exact this
  refine ⟨by simp [hk], ⟨by rw [hl2]; simp, Or.inr ⟨g, _, cur, by rw [hk], hg, hh, by omega, q2, q3, ?_⟩⟩, g, rfl, hg, ?_⟩
  ·rw [Nat.mul_one]
   have := congrArg (List.take l.length) q4'
   rw [List.take_take, Nat.min_eq_left (by omega), List.take_append_of_le_length (by omega), show List.take l.length (l.flatMap numCells) = l.flatMap numCells from List.take_of_length_le (by omega)] at this
   exact this
  ·subst hk
   have : cur.toList[l.length]? = some (.int .i64 x) := by
    have h5 : (cur.toList.take (l.length + 1))[l.length]? = some (.int .i64 x) := by
     rw [q4', List.getElem?_append_right (by omega), hl2]
     simp
    rwa [List.getElem?_take, if_pos (by omega)] at h5
   simp only [World.cell?, hh, Option.isSome_none]
   simpa using this
section
variable {V w : World} {F : List Nat} {p : Value} {N : Nat} {R : List (Int × Tm)}
set_option maxHeartbeats 8000000 in
set_option maxRecDepth 100000 in
theorem reaches_at (h : IsB V F w p N R) {n : Int} {x : Tm} {v : Value} (hv : TmV V x v) (hg : goodT x = true) (ho : ∀ m ∈ occT x, 0 ≤ m ∧ m < N) (hn : getB R n = none) {A : Bool} (hA : A = true ↔ n ∈ occT (subT (fullB R) x)) :
    Calls Try.prog 143 #[p, .int .i64 n, v] w fun e w' => e = .returned (.bool A) ∧ Below w.heap.size w w' := by
  obtain ⟨hT, hN⟩ := h.tri
  obtain ⟨r, hr⟩ := high hN hT
  have hmm := @run_makeMap Try.prog
  have AV := fun (w1 : World) (hb : Below w.heap.size w w1) => badd_at _ x (Nat.le_refl _) w w1 v (.slice none 0 0) [] (TmV.stay h.see.1 _ _ hv) hb (RowN.nil _ _) (by have := (good_parts hg).1; simp; omega)
  obtain ⟨kx, nx, sx, ax, mx, cx, rfl⟩ := hv.full
  obtain ⟨w1, e1, B1, z1, X1⟩ := box_new w #[.int .i64 kx, .int .i64 nx, .string sx, .slice ax mx cx] 31
  obtain ⟨w2, e2⟩ : ∃ w2, w1.alloc (.map #[] 0) = w2 := ⟨_, rfl⟩
  have B2 : Below w1.heap.size w1 w2 := by rw [← e2]; exact bel1' _ _
  have S2 : SeenM w2 w1.heap.size [] := by rw [← e2]; exact SeenM.nil w1
  have X1 := X1.ext B2
  have B12 := Ext.trans' B1 B2
  have C := AV w2 B12
  obtain ⟨a0, a1, a2, a3, af⟩ := X1.four
  have HB := Lib.hid (And.intro B12 (And.intro X1 S2))
  obtain ⟨bt, av, cv, bs, rfl, hblt, hbc0, _, hNc, hcm, hslots⟩ := h.open
  have HSL := Lib.hid (And.intro hbc0 (And.intro hblt hslots))
  have HI := Lib.hid h
  have HV := Lib.hid (And.intro hv (And.intro hg ho))
  have HT := Lib.hid (And.intro hT (And.intro hN hr))
  have HA := Lib.hid hA
  have HN := Lib.hid hn
  unfold maxLen at hcm
  clear h hv hg ho hT hN hr hA hn hslots hbc0 hblt AV B1 B2 S2 X1 B12
  go_enter Try.func143, Try.ntmps143
  go_wp2_with fail
  go_fit (C)
  rintro e w3 ⟨z3, rfl, hr3, b3, m3⟩
  rw [List.nil_append] at hr3
  have HR3 := Lib.hid hr3
  have HB3 := Lib.hid (show Below w.heap.size w w3 ∧ SeenM w3 (w.heap.size + 1) [] from ⟨b3, by
    rw [← z1]
    exact HB.out.2.2.block (m3.1.2 _ HB.out.2.2.lt (by simp [Value.ownBlock]))⟩)
  clear e1 e2 C a0 a1 a2 a3 af b3 z1 hr3 m3
  go_wp2_with fail
  go_loopg [8] ((occT x).length + left [] R) (fun g z wr => ∃ (pl seen : List Int), Hid (RowN wr w.heap.size z pl ∧ SeenM wr (w.heap.size + 1) seen ∧ Below w.heap.size w wr) ∧ Hid (Reach R r n (n ∈ occT (subT (fullB R) x)) pl seen ∧ (∀ u ∈ pl, 0 ≤ u ∧ u < N) ∧ g = pl.length + left seen R ∧ seen.length + g ≤ 140000000))
  case atStart =>
    refine ⟨occT x, [], Lib.hid ⟨HR3.out, HB3.out.2, HB3.out.1⟩, Lib.hid ⟨Reach.start R r n x, HV.out.2.2, rfl, ?_⟩⟩
    have h1 := occ_len x
    have h2 := (good_parts HV.out.2.1).1
    have h3 := left_le (seen := []) HT.out.1
    have h4 := dom_len HT.out.1
    have h5 := HT.out.2.1
    simp only [List.length_nil]
    omega
  case round =>
    obtain ⟨pl, seen, HM, HQ⟩ := hrel
    rcases List.eq_nil_or_concat pl with rfl | ⟨pl', u, rfl⟩
    · obtain ⟨hrow, hseen, hbw⟩ := HM.out
      obtain ⟨az, cz, rfl, _⟩ := row_formk hrow
      have hno : A = false := by
        cases A
        · rfl
        · exact absurd (HA.out.1 rfl) HQ.out.1.done
      subst hno
      clear hrow hseen hbw
      go_wp2
      go_ret
      exact ⟨rfl, HM.out.2.2⟩
    · rw [List.concat_eq_append] at HM HQ
      obtain ⟨hrow, hseen, hbw⟩ := HM.out
      obtain ⟨az, cz, rfl, hcz⟩ := row_formk hrow
      obtain ⟨k, hk⟩ : ∃ k, pl'.length = k := ⟨_, rfl⟩
      obtain ⟨m, hm⟩ : ∃ m, (pl' ++ [u]).length = m := ⟨_, rfl⟩
      rw [hm] at hrow hcz HM ⊢
      obtain ⟨hmk, hcut, g, rfl, hgB, hcell⟩ := RowN.cut hrow hk
      have hm0 : (0 : Int) < m := by omega
      have hm1 : (m : Int) - 1 = k := by omega
      have hkm : k < m := by omega
      have hCUT := Lib.hid hcut
      have hu := HQ.out.2.1 u (by simp)
      obtain ⟨ui, hui⟩ : ∃ ui : Nat, u = (ui : Int) := ⟨u.toNat, by omega⟩
      subst hui
      have huN : ui < N := by omega
      have hmb : m ≤ 140000000 := by have h1 := HQ.out.2.2.1; have h2 := HQ.out.2.2.2; rw [hm] at h1; omega
      clear hrow hcut hmk hm
      by_cases hun : (ui : Int) = n
      · have htrue : A = true := HA.out.2 (HQ.out.1.back ui (by simp) (by rw [hun, full_free (get_none.1 HN.out), occ_varV]; simp))
        subst htrue
        subst hun
        clear hseen hbw
        go_wp2
        go_ret
        exact ⟨rfl, HM.out.2.2⟩
      · have hun' : ((ui : Int) == n) = false := beq_false_of_ne hun
        obtain ⟨D, hown, htidy, hhas⟩ := hseen
        have hkey := lKey (n := (ui : Int)) (by unfold I64; omega)
        by_cases hin : (ui : Int) ∈ seen
        · have hD : Maps.has D (.int .i64 (ui : Int)) = true := (hhas ui).2 hin
          have HOWN := Lib.hid (And.intro hown (And.intro htidy hhas))
          have HIN := Lib.hid hin
          clear hown htidy hhas hin hbw hun
          go_wp2_with (first
            | (at_lookup; refine wpList_lookup_own_unit _ rfl _ _ 210 rfl 2 211 lKeyed Try.underlying210 (zeroU _) (w.heap.size + 1) seen.length _ rfl HOWN.out.1 _ _ rfl hkey ?_)
            | fail)
          go_roundg (pl'.length + left seen R)
          case measure => have := HQ.out.2.2.1; simp at this; omega
          case rel =>
            have b1 := bel1' wr (.cells #[] 211)
            refine ⟨pl', seen, Lib.hid ⟨row_ext hCUT.out b1, HM.out.2.1.ext b1, HM.out.2.2.trans (b1.mono HM.out.2.2.size)⟩, Lib.hid ⟨HQ.out.1.skip (Or.inl HIN.out), fun u hu => HQ.out.2.1 u (by simp [hu]), rfl, ?_⟩⟩
            have h1 := HQ.out.2.2.1
            have h2 := HQ.out.2.2.2
            simp at h1
            omega
        · have hD : Maps.has D (.int .i64 (ui : Int)) = false := by
            cases h : Maps.has D (.int .i64 (ui : Int))
            · rfl
            · exact absurd ((hhas ui).1 h) hin
          have HOWN := Lib.hid (And.intro hown (And.intro htidy hhas))
          have HIN := Lib.hid hin
          have HUN := Lib.hid hun
          obtain ⟨gs, rfl, hsl⟩ := HSL.out.2.2 ui huN
          have hb0 : ∀ o, Below w.heap.size w (wr.alloc o) := fun o => hbw.trans ((bel1' wr o).mono hbw.size)
          have d0 := cell_later (hb0 (.cells #[] 211)) HSL.out.1
          rcases hsl with ⟨hg, s0⟩ | ⟨t, tk, tm, ts, ta, tl, tc, hg, s0, s1, s2, s3, s4, htm⟩
          · have d1 := cell_later (hb0 (.cells #[] 211)) s0
            have HG := Lib.hid hg
            clear hown htidy hhas hin hbw hun hb0 s0 hg
            go_wp2_with (first
              | (at_lookup; refine wpList_lookup_own_unit _ rfl _ _ 210 rfl 2 211 lKeyed Try.underlying210 (zeroU _) (w.heap.size + 1) seen.length _ rfl HOWN.out.1 _ _ rfl hkey ?_)
              | fail)
            go_roundg (pl'.length + left seen R)
            case measure => have := HQ.out.2.2.1; simp at this; omega
            case rel =>
              have b1 := bel1' wr (.cells #[] 211)
              refine ⟨pl', seen, Lib.hid ⟨row_ext hCUT.out b1, HM.out.2.1.ext b1, HM.out.2.2.trans (b1.mono HM.out.2.2.size)⟩, Lib.hid ⟨HQ.out.1.skip (Or.inr ?_), fun u hu => HQ.out.2.1 u (by simp [hu]), rfl, ?_⟩⟩
              · rw [full_free (get_none.1 HG.out), occ_varV]
                intro hm
                simp at hm
                exact HUN.out hm.symm
              · have h1 := HQ.out.2.2.1
                have h2 := HQ.out.2.2.2
                simp at h1
                omega
          · have d1 := cell_later (hb0 (.cells #[] 211)) s0
            have HS14 := Lib.hid (And.intro s1 (And.intro s2 (And.intro s3 (And.intro s4 htm))))
            have HG := Lib.hid hg
            have HBW := Lib.hid hbw
            have HKEEP : ∀ w5 : World, w5.ownsMap Try.prog 2 (unitElem (H := Unit)) (w.heap.size + 1) (seen.length + 1) (D.put (.int .i64 (ui : Int)) (.agg [])) → (wr.alloc (.cells #[] 211)).grownBy w5 (some (w.heap.size + 1)) →
                Below w.heap.size w w5 ∧ RowN w5 w.heap.size (.slice (some ⟨g, 0, none⟩) k cz) pl' ∧ SeenM w5 (w.heap.size + 1) (seen ++ [(ui : Int)]) := by
              intro w5 hown5 hgrow5
              refine ⟨(hbw.trans ((bel1' wr (.cells #[] 211)).mono hbw.size)).grown hgrow5 (by have := hbw.size; simp; omega) (fun q hq => by injection hq with hq; omega), ?_, SeenM.put htidy hhas hown5⟩
              have hne := row_map hCUT.out HM.out.2.1
              exact row_at hCUT.out (fun g' e' => by injection e' with e'; subst e'; exact (hgrow5.block g (Nat.lt_of_lt_of_le (row_in hCUT.out rfl).2 (bel1' wr _).size) (fun e => by injection e with e; exact hne e)).trans ((bel1' wr _).block g (row_in hCUT.out rfl).2))
            have HC5 := fun (w5 : World) (hb5 : Below w.heap.size w w5) (hr5 : RowN w5 w.heap.size (.slice (some ⟨g, 0, none⟩) k cz) pl') => badd_at _ t (Nat.le_refl _) w w5 _ _ pl' (TmV.stay HI.out.see.1 _ _ htm) hb5 hr5 (by have h1 := (good_parts (HT.out.1.mem (get_mem hg)).2.2.1).1; have h1 : sizeN t ≤ 2000 := h1; omega)
            have HKK := Lib.hid HKEEP
            have HCC := Lib.hid HC5
            clear HKEEP HC5
            have hseenlt : seen.length < maxLen := by have := HQ.out.2.2.2; unfold maxLen; omega
            clear hown htidy hhas hin hbw hun hb0 s0 s1 s2 s3 s4 htm hg
            go_wp2_with (first
              | (at_lookup; refine wpList_lookup_own_unit _ rfl _ _ 210 rfl 2 211 lKeyed Try.underlying210 (zeroU _) (w.heap.size + 1) seen.length _ rfl HOWN.out.1 _ _ rfl hkey ?_)
              | (at_mapUpdate; refine wpList_mapUpdate_own _ rfl _ _ _ 210 rfl 2 211 lKeyed Try.underlying210 (unitElem (H := Unit)) (w.heap.size + 1) seen.length _ rfl (HOWN.out.1.alloc _) hseenlt _ _ _ rfl rfl hkey _ [] unitElem_mk ?_; intro w5 hown5 hgrow5; obtain ⟨hb5, hr5, hs5⟩ := HKK.out w5 hown5 hgrow5; have e0 := cell_later hb5 HSL.out.1; have e1 := cell_later hb5 HS14.out.1; have e2 := cell_later hb5 HS14.out.2.1; have e3 := cell_later hb5 HS14.out.2.2.1; have e4 := cell_later hb5 HS14.out.2.2.2.1; have HP5 := Lib.hid (And.intro hb5 (And.intro hr5 hs5)); clear hown5 hgrow5 hb5 hr5 hs5)
              | fail)
            go_fit (HCC.out _ HP5.out.1 HP5.out.2.1)
            rintro e w6 ⟨z6, rfl, hr6, b6, m6⟩
            have HP6 := Lib.hid (And.intro hr6 (And.intro b6 m6))
            clear hr6 b6 m6 e0 e1 e2 e3 e4
            go_wp2_with fail
            have hm := get_mem HG.out
            have hleft := left_less HIN.out HT.out.1 hm
            go_roundg ((pl' ++ occT t).length + left (seen ++ [(ui : Int)]) R)
            case measure =>
              have h1 := HQ.out.2.2.1
              simp at h1 ⊢
              omega
            case rel =>
              have hbm : w.heap.size + 1 < w5.heap.size := HP5.out.2.2.lt
              refine ⟨pl' ++ occT t, seen ++ [(ui : Int)], Lib.hid ⟨HP6.out.1, HP5.out.2.2.block (HP6.out.2.2.1.2 _ hbm (fun e => ?_)), HP6.out.2.1⟩, Lib.hid ⟨HQ.out.1.into HT.out.2.1 HT.out.1 HT.out.2.2 hm, fun u hu => ?_, rfl, ?_⟩⟩
              · have e' : g = w.heap.size + 1 := by injection e
                exact row_map HP5.out.2.1 HP5.out.2.2 e'
              · rcases List.mem_append.1 hu with hu | hu
                · exact HQ.out.2.1 u (by simp [hu])
                · exact (HT.out.1.mem hm).2.2.2 u hu
              · have h1 := HQ.out.2.2.1
                have h2 := HQ.out.2.2.2
                simp at h1 ⊢
                omega
end
end Go.Proofs.Ytchbbaehdcmcfaa
/- Stacks of int64: Pop, Push, from, All, Undo. -/
namespace Go.Proofs.Ytchbbaehdcmcfaa
open Go.RowKit
section
variable {F : List Nat} {w : World} {p : Value} {R : Nat} {xs : List Value}
theorem push_grownL {w w2 w3 : World} {bt : Nat} {x v v' : Value} (hB : Below w.heap.size w w2) (hbt : bt < w.heap.size) (h1 : v.ownBlock ≠ some bt) (hb : w.heap[bt]? = some (.cells #[x, v] 150 (0, 0)))
  (hg : w2.grownBy w3 v.ownBlock) (hat : v'.ownBlock = v.ownBlock ∨ v'.ownBlock = some w2.heap.size) :
  w3.heap[bt]? = some (.cells #[x, v] 150 (0, 0)) ∧ v'.ownBlock ≠ some bt ∧ Touch (bt :: v.ownBlock.toList) w w3 ∧ ∀ k ∈ (bt :: v'.ownBlock.toList), k ∈ (bt :: v.ownBlock.toList) ∨ w.heap.size ≤ k := by
 have hs := hB.size
 refine ⟨(hg.block bt (by omega) (fun h => h1 h.symm)).trans ((hB.block bt hbt).trans hb), ?_, ⟨hg.os.trans hB.os, hg.tape.trans hB.tape, hg.output.trans hB.output, by have := hg.size; omega, fun j hj hn => ?_⟩, fun k hk => ?_⟩
 ·rcases hat with e | e <;> rw [e]
  ·exact h1
  ·intro e'; simp at e'; omega
 ·simp only [List.mem_cons, Option.mem_toList, not_or] at hn
  exact (hg.block j (by omega) (fun e => hn.2 e.symm)).trans (hB.block j hj)
 ·simp only [List.mem_cons, Option.mem_toList] at hk ⊢
  rcases hk with rfl | hk
  ·exact Or.inl (Or.inl rfl)
  ·rcases hat with e | e
   ·exact Or.inl (Or.inr (e ▸ hk))
   ·rw [e] at hk; right; simp at hk; omega
set_option maxHeartbeats 400000 in
theorem push_yesL (h : StkL F w p R xs) (ao : Option Addr) (m c : Nat) (news : List Value) (hl : news.length = m) (hsrc : m = 0 ∨ ∃ ad, ao = some ad ∧ ∀ j u, news[j]? = some u → w.cell? (ad.add j) = some u) (h1c : ∀ u ∈ news, u.oneCell' = true) (hfit : xs.length + m ≤ R) :
    Calls Try.prog 144 #[p, .slice ao m c] w fun e w' => e = .returned (.bool true) ∧ ∃ F', StkL F' w' p R (xs ++ news) ∧ Touch F w w' ∧ ∀ k ∈ F', k ∈ F ∨ w.heap.size ≤ k := by
  have hroom := h.room
  obtain ⟨bt, v, rfl, h1, rfl, hbt, hr, hN, hR⟩ := h
  have c0 : w.cell? ⟨bt, 0, none⟩ = some (.int .i64 (R : Int)) := by simp [blk_cell hbt]
  have c1 : w.cell? ⟨bt, 1, none⟩ = some v := by simp [blk_cell hbt]
  obtain ⟨i0, hi, hz0, hz1, hz2⟩ := info_parts infoL
  obtain ⟨a, c', rfl, _⟩ := row_form hr
  have hge : decide ((R : Int) - (xs.length : Int) < (m : Int)) = false := by simp; omega
  have hge' : ¬ ((R : Int) - (xs.length : Int) < (m : Int)) := by omega
  have hbl := (Array.getElem?_eq_some_iff.1 hbt).1
  have HB := Lib.hid hbt
  have HR := Lib.hid hr
  have HN := Lib.hid hN
  have HX := Lib.hid h1
  have HS := Lib.hid hsrc
  clear hbt hN hr h1 hsrc
  go_enter Try.func144, Try.ntmps144
  go_wp2_with fail
  go_quiet (fail)
  have c1 : (w.drewN nq).cell? ⟨bt, 1, none⟩ = some (.slice a xs.length c') := by simp [blk_cell (show (w.drewN nq).heap[bt]? = _ from HB.out)]
  go_wp2_with (first
    | (at_builtin
       go_loud (refine wpList_append_any rfl _ _ 57 rfl 0 2 i0 (.int .i64 0) 8 Try.underlying57 hi hz0 hz1 hz2 rfl _ xs.length xs rfl (show (w.drewN nq).ownsRow _ _ _ _ _ _ from HR.out) ao m c news rfl hl HS.out h1c (by unfold maxLen; omega) (by omega) (Nat.zero_le _) (xs.length + m) (xs ++ news) rfl rfl ?_)
       intro a3 c3 w3 hown hgrow hat
       obtain ⟨hb3, hx3, hT3, hF3⟩ := push_grownL (w := w) (belN (Below.refl _ _) nq) hbl HX.out HB.out hgrow hat
       have d1 : w3.cell? ⟨bt, 1, none⟩ = some (.slice a xs.length c') := by simp [blk_cell hb3]
       have d3 : w3.frozen? ⟨bt, 1, none⟩ = false := blk_froz hb3 1
       have HD := Lib.hid (show StkL _ (w3.setCell ⟨bt, 1, none⟩ (.slice a3 (xs.length + m) c3)) (.pointer (some ⟨bt, 0, none⟩)) R (xs ++ news) from
         ⟨bt, _, rfl, hx3, rfl, blk_set hb3 _, owns_row_block (by simpa [hl] using hown) (fun k hk => heap_set_other _ _ _ _ (fun e => hx3 (by rw [hk, e]))), (fun x hx => by rcases List.mem_append.1 hx with h | h; exact HN.out x h; exact h1c x h), hR.1, hR.2.1, by simp; omega⟩)
       have HT := Lib.hid (And.intro hT3 hF3)
       clear hown hgrow hat hb3 hx3 hT3 hF3)
    | go_in)
  go_ret
  exact ⟨rfl, _, HD.out, HT.out.1.trans (F' := [bt]) touch_set (fun k hk => Or.inl (by simp at hk; simp [hk])), HT.out.2⟩
end
end Go.Proofs.Ytchbbaehdcmcfaa
/- Stacks of int64: from, All, Undo. -/
namespace Go.Proofs.Ytchbbaehdcmcfaa
open Go.RowKit
section
variable {F : List Nat} {w : World} {p : Value} {R : Nat} {xs : List Value}
theorem copiedL {w3 : World} {g m : Nat} {cs : List Value} (hm : cs.length = m) (h : w3.heap[g]? = some (.cells (splice (madeCells #[(.int .i64 0 : Value)] m).toList 0 cs).toArray 2 (0, 0))) : w3.heap[g]? = some (.cells cs.toArray 2 (0, 0)) := by
 rw [h]
 simp [splice, madeCells, hm]
set_option maxHeartbeats 400000 in
theorem fromL (h : StkL F w p R xs) (n : Nat) (hn : n ≤ xs.length) (m : Nat) (hm : xs.length = n + m) :
  Calls Try.prog 119 #[p, .int .i64 n] w fun e w' => e = .returned (.slice (some ⟨w.heap.size, 0, none⟩) m m) ∧ Below w.heap.size w w' ∧ w'.heap[w.heap.size]? = some (.cells (xs.drop n).toArray 2 (0, 0)) := by
 have hroom := h.room
 obtain ⟨bt, v, rfl, h1, rfl, hbt, hr, hN, hR⟩ := h
 have c1 : w.cell? ⟨bt, 1, none⟩ = some v := by simp [blk_cell hbt]
 have c1' : ∀ o, (w.alloc o).cell? ⟨bt, 1, none⟩ = some v := fun o => Lib.cell?_alloc_some _ c1
 obtain ⟨i0, hi, hz0, hz1, hz2⟩ := info_parts infoL
 have hmm : (xs.length : Int) - (n : Int) = (m : Int) := by omega
 have hdl : (xs.drop n).length = m := by simp; omega
 have HN := Lib.hid (fun x (hx : x ∈ xs.drop n) => hN x (List.mem_of_mem_drop hx))
 have HM := Lib.hid hdl
 have HQ := Lib.hid hm
 rcases row_cells hr with ⟨rfl, rfl⟩ | ⟨g, c, cur, rfl, hg, hc1, hc2, hc3, hc4⟩
 ·obtain rfl : n = 0 := by simpa using hn
  obtain rfl : m = 0 := by simpa using hm.symm
  clear hbt hN hr h1
  go_enter Try.func119, Try.ntmps119
  go_wp2_with (first
   | (at_make; refine wpList_make_row _ rfl _ _ 57 rfl 2 i0 (.int .i64 0) Try.underlying57 hi hz0 hz1 rfl .i64 .i64 0 rfl rfl (by rw [hz2]; omega) (by omega) ?_)
   | (refine wpList_copy_splice rfl _ _ 57 57 rfl 2 Try.underlying57 (by rw [hi]; simp [hz1]) _ _ _ _ _ _ rfl rfl w.heap.size 0 (madeCells #[(.int .i64 0 : Value)] 0).toList 2 (by rw [Array.toArray_toList]; exact heap_alloc_new w _) [] (by simp) (fun h0 => absurd h0 (by simp)) (by simp [madeCells]) (by simp [Value.oneCell']) w.heap.size w ((Below.refl _ _).alloc (Nat.le_refl _) _) (Nat.le_refl _) ?_; intro w3 HG3 HB3)
   | go_in)
  go_ret
  exact ⟨rfl, HB3, copiedL rfl HG3.out⟩
 by_cases hlt : n < xs.length
 ·have HC := Lib.hid (show ∀ o, ∀ j u, (xs.drop n)[j]? = some u → (w.alloc o).cell? ((⟨g, n, none⟩ : Addr).add j) = some u from fun o j u hu => by
   rw [add_plain]
   refine Lib.cell?_alloc_some _ ?_
   rw [blk_cell hg]
   exact cur_at hc4 (by rw [List.getElem?_drop] at hu; exact hu))
  clear hbt hN hr h1 hg hc4 hdl hm
  unfold maxLen at hc2
  go_enter Try.func119, Try.ntmps119
  go_wp2_with (first
   | (at_make; go_loud (refine wpList_make_row _ rfl _ _ 57 rfl 2 i0 (.int .i64 0) Try.underlying57 hi hz0 hz1 rfl .i64 .i64 m (by first | rfl | exact congrArg (Value.int .i64) hmm) (by first | rfl | exact congrArg (Value.int .i64) hmm) (by rw [hz2]; omega) (by omega) ?_))
   | (refine wpList_copy_splice rfl _ _ 57 57 rfl 2 Try.underlying57 (by rw [hi]; simp [hz1]) _ _ _ _ _ _ rfl rfl w.heap.size 0 (madeCells #[(.int .i64 0 : Value)] m).toList 2 (by rw [Array.toArray_toList]; exact heap_alloc_new w _) (xs.drop n) (by rw [HM.out]; have := HQ.out; show m = min (xs.length - n) m; omega) (fun h0 => ⟨rfl, _, rfl, HC.out _⟩) (by rw [HM.out]; simp [madeCells]) HN.out w.heap.size w ((Below.refl _ _).alloc (Nat.le_refl _) _) (Nat.le_refl _) ?_; intro w3 HG3 HB3)
   | go_in)
  go_ret
  exact ⟨rfl, HB3, copiedL HM.out HG3.out⟩
 have hm0 : m = 0 := by omega
 rw [List.drop_eq_nil_of_le (by omega)]
 have H0 := Lib.hid hm0
 have hnl : xs.length ≤ n := by omega
 clear hbt hN hr h1 hg hc4 hdl HN HM hR hm hm0 HQ hlt
 unfold maxLen at hc2
 generalize xs.length = L at *
 by_cases hcap : c ≤ n
 ·go_enter Try.func119, Try.ntmps119
  go_wp2_with (first
   | (at_make; go_loud (refine wpList_make_row _ rfl _ _ 57 rfl 2 i0 (.int .i64 0) Try.underlying57 hi hz0 hz1 rfl .i64 .i64 m (by first | rfl | exact congrArg (Value.int .i64) hmm) (by first | rfl | exact congrArg (Value.int .i64) hmm) (by rw [hz2]; omega) (by omega) ?_))
   | (refine wpList_copy_splice rfl _ _ 57 57 rfl 2 Try.underlying57 (by rw [hi]; simp [hz1]) _ _ _ _ _ _ rfl rfl w.heap.size 0 (madeCells #[(.int .i64 0 : Value)] m).toList 2 (by rw [Array.toArray_toList]; exact heap_alloc_new w _) [] (by rw [H0.out]; simp) (fun h0 => absurd h0 (by simp)) (by simp [madeCells]) (by simp [Value.oneCell']) w.heap.size w ((Below.refl _ _).alloc (Nat.le_refl _) _) (Nat.le_refl _) ?_; intro w3 HG3 HB3)
   | go_in)
  go_ret
  exact ⟨rfl, HB3, copiedL H0.out.symm HG3.out⟩
 have hcap' : n < c := by omega
 ·go_enter Try.func119, Try.ntmps119
  go_wp2_with (first
   | (at_make; go_loud (refine wpList_make_row _ rfl _ _ 57 rfl 2 i0 (.int .i64 0) Try.underlying57 hi hz0 hz1 rfl .i64 .i64 m (by first | rfl | exact congrArg (Value.int .i64) hmm) (by first | rfl | exact congrArg (Value.int .i64) hmm) (by rw [hz2]; omega) (by omega) ?_))
   | (refine wpList_copy_splice rfl _ _ 57 57 rfl 2 Try.underlying57 (by rw [hi]; simp [hz1]) _ _ _ _ _ _ rfl rfl w.heap.size 0 (madeCells #[(.int .i64 0 : Value)] m).toList 2 (by rw [Array.toArray_toList]; exact heap_alloc_new w _) [] (by rw [H0.out]; simp) (fun h0 => absurd h0 (by simp)) (by simp [madeCells]) (by simp [Value.oneCell']) w.heap.size w ((Below.refl _ _).alloc (Nat.le_refl _) _) (Nat.le_refl _) ?_; intro w3 HG3 HB3)
   | go_in)
  go_ret
  exact ⟨rfl, HB3, copiedL H0.out.symm HG3.out⟩
end
end Go.Proofs.Ytchbbaehdcmcfaa
/-
 DERIVED: THE SHELF's CONTRACTS AT THIS DUMP, IN PLAIN WORDS (tools/lay-plain.mjs out of 'TryLayXt.lean', which tools/lay-shelf.mjs wrote): THE SAME DECLARATIONS UNDER THE SAME NAMES: 'import', 'namespace', 'open', 'def', 'theorem' AND NOTHING ELSE: no command of the shelf's: FOR A HAND-IN. Each laying: the table of numbers ('.._ren') and one theorem, a field a fact of the dump's own or the kernel's comparison; each contract: ONE APPLICATION.
-/
namespace Go.Proofs
open Go.Shelf
def Try.revLay_ren : Go.Shelf.Ren := ⟨fun | 35 => 120 | n => n, fun | 22 => 57 | 23 => 2 | 3 => 3 | 4 => 4 | 0 => 0 | n => n, fun | n => n⟩
theorem Try.revLay : Go.Proofs.SlLaysE.n35 Try.prog Try.revLay_ren := {
 mixed := by kernel_rfl
 f35 := ⟨Try.f120.name, by decide, Try.func120.trans (congrArg some (by kernel_rfl))⟩
 t0 := Try.underlying0
 a0 := Try.isAgg0
 z0 := Try.sizeOf0
 v0 := Try.zeroValue0
 t3 := Try.underlying3
 a3 := Try.isAgg3
 z3 := Try.sizeOf3
 v3 := Try.zeroValue3
 t4 := Try.underlying4
 a4 := Try.isAgg4
 z4 := Try.sizeOf4
 v4 := Try.zeroValue4
 t22 := Try.underlying57
 a22 := Try.isAgg57
 z22 := Try.sizeOf57
 v22 := Try.zeroValue57
 a23 := Try.isAgg2
 z23 := Try.sizeOf2 }
end Go.Proofs
/- slices.Reverse of a block of int64 of the call's own. -/
namespace Go.Proofs.Ytchbbaehdcmcfaa
open Go.RowKit Go.Sort
theorem revL (B g m : Nat) (ys : List Int) (w : World) (hblk : w.heap[g]? = some (.cells (ys.map (Value.int .i64)).toArray 2 (0, 0))) (hB : B ≤ g) (hm : ys.length = m) (hl : m ≤ 65536) :
  Calls Try.prog 120 #[.slice (some ⟨g, 0, none⟩) m m] w fun e w' => e = .returned (.tuple #[]) ∧ Below B w w' ∧ ∀ j u, (ys.map (Value.int .i64)).reverse[j]? = some u → w'.cell? ⟨g, j, none⟩ = some u := by
 subst hm
 have hH : Holds (Value.int .i64) w g 0 ys.toArray := fun j hj => ⟨by
  rw [Nat.zero_add, blk_cell hblk]
  simp at hj
  simp [hj], by rw [Nat.zero_add]; exact blk_froz hblk j⟩
 refine (AnyE.slices_Reverse Try.revLay (Value.int .i64) (fun _ => rfl) g 0 ys.length ys w hH (by omega)).mono ?_
 rintro e w' ⟨rfl, q, rfl⟩
 refine ⟨rfl, Lib.below_putRow (Below.refl _ _) hB, fun j u hu => ?_⟩
 have hj := (List.getElem?_eq_some_iff.1 hu).1
 rw [← List.map_reverse, List.getElem?_map] at hu
 obtain ⟨x, hx, rfl⟩ := Option.map_eq_some_iff.1 hu
 have hs : ys.reverse.toArray.size = ys.toArray.size := by simp
 have hlt : j < ys.reverse.toArray.size := by simpa using hj
 have hc := cell?_putRow (Value.int .i64) (Sort.ahead w q) g 0 ys.toArray ys.reverse.toArray hH hs j hlt
 rw [Nat.zero_add] at hc
 rw [hc]
 congr 2
 rw [getElem!_pos ys.reverse.toArray j hlt]
 obtain ⟨h1, h2⟩ := List.getElem?_eq_some_iff.1 hx
 simpa using h2
end Go.Proofs.Ytchbbaehdcmcfaa
/- Stacks of int64: All, Undo; and all calls apart from what else a law has. -/
namespace Go.Proofs.Ytchbbaehdcmcfaa
open Go.RowKit
section
variable {F : List Nat} {w : World} {p : Value} {R : Nat} {xs : List Value}
set_option maxHeartbeats 400000 in
theorem undo_yesL {zs : List Int} (h : StkL F w p R (zs.map (Value.int .i64))) (n m : Nat) (hm : zs.length = n + m) :
  Calls Try.prog 96 #[p, .int .i64 n] w fun e w' => e = .returned (.tuple #[.slice (some ⟨w.heap.size, 0, none⟩) m m, .bool true]) ∧ StkL F w' p R ((zs.take n).map (Value.int .i64)) ∧ Touch F w w' ∧
   w.heap.size < w'.heap.size ∧ ∀ j u, ((zs.drop n).map (Value.int .i64)).reverse[j]? = some u → w'.cell? ⟨w.heap.size, j, none⟩ = some u := by
 have HS := Lib.hid h
 have hlt := h.lt
 have hroom := h.room
 rw [List.length_map] at hroom
 obtain ⟨bt, v, rfl, h1, rfl, hbt, hr, hN, hR⟩ := h
 have c1 : w.cell? ⟨bt, 1, none⟩ = some v := by simp [blk_cell hbt]
 obtain ⟨a, c, rfl, _⟩ := row_form hr
 rw [List.length_map] at c1
 have HL := Lib.hid hlt
 have HM := Lib.hid hm
 have hn0 : decide ((n : Int) < 0) = false := by simp
 have hnl : (n : Int) ≤ (zs.length : Int) := by omega
 have hnl' : ¬ ((zs.length : Int) < (n : Int)) := by omega
 have hnl2 : decide (zs.length < n) = false := by simp; omega
 clear hbt hN hr h1 hR hlt hm
 go_enter Try.func96, Try.ntmps96
 (go_wp2_with fail; go_fit (fromL HS.out n (by rw [List.length_map]; omega) m (by rw [List.length_map]; exact HM.out)); rintro e w1 ⟨rfl, h2, h3⟩)
 rw [← List.map_drop] at h3
 have H2 := Lib.hid h2
 have H3 := Lib.hid h3
 clear h2 h3
 (go_wp2_with fail; go_fit (revL w.heap.size w.heap.size m (zs.drop n) w1 H3.out (Nat.le_refl _) (by rw [List.length_drop]; have := HM.out; omega) (by have := HM.out; omega)); rintro e w2 ⟨rfl, h4, h5⟩)
 have HS2 := Lib.hid (HS.out.ext (H2.out.trans h4))
 have hs1 : w.heap.size < w2.heap.size := Nat.lt_of_lt_of_le (Array.getElem?_eq_some_iff.1 H3.out).1 h4.size
 have H4 := Lib.hid (H2.out.trans h4)
 have H5 := Lib.hid h5
 clear h4 h5
 (go_wp2_with fail; go_fit (cutL HS2.out n (by rw [List.length_map]; have := HM.out; omega)); rintro e w3 ⟨rfl, h6, h7⟩)
 rw [← List.map_take] at h6
 have H6 := Lib.hid (show _ ∧ Touch _ w w3 ∧ w.heap.size < w3.heap.size ∧ ∀ j u, ((zs.drop n).map (Value.int .i64)).reverse[j]? = some u → w3.cell? ⟨w.heap.size, j, none⟩ = some u from
  ⟨h6, (Touch.of_below H4.out _).trans h7 (fun k hk => Or.inl hk), Nat.lt_of_lt_of_le hs1 h7.size, fun j u hu => by
   rw [World.cell?_of_block (w := w2) (a := ⟨w.heap.size, j, none⟩) (h7.block _ hs1 (fun hk => absurd (HL.out _ hk) (Nat.lt_irrefl _)))]
   exact H5.out j u hu⟩)
 clear h6 h7
 go_wp2
 go_ret2
 exact ⟨rfl, H6.out⟩
end
/-! The calls of a stack that a law made. -/
section
variable {W w : World} {p : Value} {R : Nat} {xs : List Value} {G : List Nat}
end
end Go.Proofs.Ytchbbaehdcmcfaa
/- Package bind: a slot that is set anew. -/
namespace Go.Proofs.Ytchbbaehdcmcfaa
open Go.RowKit
set_option linter.unusedVariables false
abbrev put5 (w : World) (g o : Nat) (a0 a1 a2 a3 a4 : Value) : World :=
 ((((w.setCell ⟨g, o, none⟩ a0).setCell ⟨g, o + 1, none⟩ a1).setCell ⟨g, o + 2, none⟩ a2).setCell ⟨g, o + 3, none⟩ a3).setCell ⟨g, o + 4, none⟩ a4
theorem blk_setc {w : World} {g e : Nat} {cur : Array Value} {fz : Nat × Nat} (h : w.heap[g]? = some (.cells cur e fz)) (q : Nat) (u : Value) : (w.setCell ⟨g, q, none⟩ u).heap[g]? = some (.cells (cur.setIfInBounds q u) e fz) := by
 simp [World.setCell, Array.getElem?_modify, h]
theorem put5_touch (w : World) (g o : Nat) (a0 a1 a2 a3 a4 : Value) : Touch [g] w (put5 w g o a0 a1 a2 a3 a4) :=
 ((((touch_one w g o a0).trans (touch_one _ g (o + 1) a1) (fun k hk => Or.inl hk)).trans (touch_one _ g (o + 2) a2) (fun k hk => Or.inl hk)).trans (touch_one _ g (o + 3) a3) (fun k hk => Or.inl hk)).trans (touch_one _ g (o + 4) a4) (fun k hk => Or.inl hk)
theorem flat_cell {α : Type} {S : Nat} {cells : α → List Value} (hc : ∀ x, (cells x).length = S) (hS : 0 < S) (L : List α) (q : Nat) : (L.flatMap cells)[q]? = (L[q / S]?).bind fun x => (cells x)[q % S]? := by
 have hq : q = q / S * S + q % S := by rw [Nat.mul_comm]; exact (Nat.div_add_mod q S).symm
 cases h : L[q / S]? with
 | some x =>
  have := flat_get hc L (q / S) x h (q % S) (Nat.mod_lt _ hS)
  rw [← hq] at this
  rw [this]; rfl
 | none =>
  have hl := flat_len hc L
  have hle := List.getElem?_eq_none_iff.1 h
  rw [List.getElem?_eq_none]
  ·rfl
  ·rw [hl]
   have := Nat.mul_le_mul_right S hle
   omega
theorem slots_set (sl : List SlP) (i : Nat) (hi : i < sl.length) (s : SlP) (a0 a1 a2 a3 a4 : Value) (hs : slCells s = [a0, a1, a2, a3, a4]) (q : Nat) :
  ((sl.set i s).flatMap slCells)[q]? = if i * 5 ≤ q ∧ q < i * 5 + 5 then [a0, a1, a2, a3, a4][q - i * 5]? else (sl.flatMap slCells)[q]? := by
 rw [flat_cell slCells_len (by omega), flat_cell slCells_len (by omega)]
 by_cases h : i * 5 ≤ q ∧ q < i * 5 + 5
 ·rw [if_pos h]
  have e : q / 5 = i := by omega
  rw [e, List.getElem?_set_self hi]
  show (slCells s)[q % 5]? = _
  rw [hs]
  congr 1
  omega
 ·rw [if_neg h]
  have e : q / 5 ≠ i := by omega
  rw [List.getElem?_set_ne (Ne.symm e)]
theorem put5_row {w : World} {g c N i : Nat} {sl : List SlP} {s : SlP} {a0 a1 a2 a3 a4 : Value} (h : w.ownsRow 0 112 5 (.slice (some ⟨g, 0, none⟩) N c) N (sl.flatMap slCells)) (hN : sl.length = N) (hi : i < N) (hs : slCells s = [a0, a1, a2, a3, a4]) :
  (put5 w g (i * 5) a0 a1 a2 a3 a4).ownsRow 0 112 5 (.slice (some ⟨g, 0, none⟩) N c) N ((sl.set i s).flatMap slCells) := by
 obtain ⟨h0, h1⟩ := h
 have hfl : ((sl.set i s).flatMap slCells).length = N * 5 := by rw [flat_len slCells_len, List.length_set, hN]
 have hfl0 : (sl.flatMap slCells).length = N * 5 := by rw [flat_len slCells_len, hN]
 refine ⟨hfl, ?_⟩
 rcases h1 with ⟨e, _⟩ | ⟨g', cap, cur, e, hg, hh, q1, q2, q3, q4⟩
 ·cases e
 ·cases e
  refine Or.inr ⟨g, c, _, rfl, Nat.zero_le _, blk_setc (blk_setc (blk_setc (blk_setc (blk_setc hh _ _) _ _) _ _) _ _) _ _, q1, q2, by simpa using q3, ?_⟩
  apply List.ext_getElem?
  intro q
  rw [slots_set sl i (by omega) s a0 a1 a2 a3 a4 hs q, ← q4]
  rw [List.getElem?_take, List.getElem?_take]
  by_cases hq : q < N * 5
  ·rw [if_pos hq, if_pos hq]
   simp only [Array.getElem?_toList, Array.getElem?_setIfInBounds, Array.size_setIfInBounds]
   have hsz : cur.size = c * 5 := by rw [q3]
   by_cases hb : i * 5 ≤ q ∧ q < i * 5 + 5
   ·rw [if_pos hb]
    obtain ⟨j, hj⟩ : ∃ j, q = i * 5 + j := ⟨q - i * 5, by omega⟩
    have hj5 : j < 5 := by omega
    subst hj
    have hin : i * 5 + j < cur.size := by rw [hsz]; omega
    rw [Nat.add_sub_cancel_left]
    match j, hj5 with
    | 0, _ => simp; omega
    | 1, _ => simp; omega
    | 2, _ => simp; omega
    | 3, _ => simp; omega
    | 4, _ => simp; omega
   ·rw [if_neg hb, if_neg (by omega), if_neg (by omega), if_neg (by omega), if_neg (by omega), if_neg (by omega)]
  ·rw [if_neg hq, if_neg hq]
   have hb : ¬ (i * 5 ≤ q ∧ q < i * 5 + 5) := by omega
   rw [if_neg hb]
end Go.Proofs.Ytchbbaehdcmcfaa
/- Package bind: Set. -/
namespace Go.Proofs.Ytchbbaehdcmcfaa
open Go.RowKit
set_option linter.unusedVariables false
def setB (N : Nat) (R : List (Int × Tm)) (n : Int) (x : Tm) : Int :=
 if (decide (0 ≤ n) && decide (n < (N : Int)) && fitsB N x) = true then (if (getB R n).isSome = true then 8 else if n ∈ occT (subT (fullB R) x) then 5 else 0) else 1
theorem trail_cons (R : List (Int × Tm)) (n : Int) (y : Tm) : trailV ((n, y) :: R) = trailV R ++ [Value.int .i64 n] := by
 unfold trailV
 rw [List.reverse_cons, List.map_append]
 rfl
theorem SlOK.set {V : World} {R : List (Int × Tm)} {sl : List SlP} (h : SlOK V R sl) {i : Nat} (hi : i < sl.length) {y : Tm} {u : Value} (hy : TmV V y (pVal (y, u))) : SlOK V (((i : Int), y) :: R) (sl.set i (some (y, u))) := by
 refine ⟨fun j hj hn => ?_, fun j t ht => ?_⟩
 ·rw [get_cons] at hn
  by_cases e : (i : Int) = j
  ·rw [if_pos e] at hn; cases hn
  ·rw [if_neg e] at hn
   rw [List.getElem?_set_ne (by omega)]
   exact h.free j (by simpa using hj) hn
 ·rw [get_cons] at ht
  by_cases e : (i : Int) = j
  ·rw [if_pos e] at ht
   cases ht
   have : i = j := by omega
   subst this
   exact ⟨u, by rw [List.getElem?_set_self hi], hy⟩
  ·rw [if_neg e] at ht
   obtain ⟨u', e1, e2⟩ := h.held j t ht
   exact ⟨u', by rw [List.getElem?_set_ne (by omega)]; exact e1, e2⟩
section
variable {V w : World} {F : List Nat} {p : Value} {N : Nat} {R : List (Int × Tm)}
theorem IsB.store (h : IsB V F w p N R) {n : Nat} (hn : n < N) (hfree : getB R n = none) {y : Tm} {k m : Int} {s : ByteArray} {a : Option Addr} {l c : Nat} (hy : TmV V y (.agg #[.int .i64 k, .int .i64 m, .string s, .slice a l c])) (hg : goodT y = true) (hr : ∀ j ∈ occT y, 0 ≤ j ∧ j < N) (hno : ¬ (n : Int) ∈ occT (subT (fullB R) y)) :
  ∃ bt g bs cv G, p = .pointer (some ⟨bt, 0, none⟩) ∧ bt < w.heap.size ∧ g < w.heap.size ∧ g ∈ F ∧ bt ∈ F ∧ w.cell? ⟨bt, 0, none⟩ = some (.slice (some ⟨g, 0, none⟩) N cv) ∧ w.cell? ⟨bt, 1, none⟩ = some (.pointer (some ⟨bs, 0, none⟩)) ∧ N ≤ cv ∧ cv ≤ maxLen ∧
   (∀ j, j < 5 → ∃ u, w.cell? ⟨g, n * 5 + j, none⟩ = some u) ∧ (∀ q, w.frozen? ⟨g, q, none⟩ = false) ∧
   StkL G (put5 w g (n * 5) (.bool true) (.int .i64 k) (.int .i64 m) (.string s) (.slice a l c)) (.pointer (some ⟨bs, 0, none⟩)) 65536 (trailV R) ∧
   (put5 w g (n * 5) (.bool true) (.int .i64 k) (.int .i64 m) (.string s) (.slice a l c)).cell? ⟨bt, 1, none⟩ = some (.pointer (some ⟨bs, 0, none⟩)) ∧
   Touch F w (put5 w g (n * 5) (.bool true) (.int .i64 k) (.int .i64 m) (.string s) (.slice a l c)) ∧
   ∀ (w7 w8 : World) (G' : List Nat), Below w.heap.size (put5 w g (n * 5) (.bool true) (.int .i64 k) (.int .i64 m) (.string s) (.slice a l c)) w7 → StkL G' w8 (.pointer (some ⟨bs, 0, none⟩)) 65536 (trailV R ++ [.int .i64 n]) → Touch G w7 w8 → (∀ k ∈ G', k ∈ G ∨ w7.heap.size ≤ k) →
    ∃ F', IsB V F' w8 p N (((n : Int), y) :: R) ∧ Touch F w w8 ∧ ∀ k ∈ F', k ∈ F ∨ w.heap.size ≤ k := by
 have hF := h.lt
 obtain ⟨bt, v, q, G, sl, rfl, rfl, h1, h2, h3, h4, h5, h6, h7, h8, h9, h10, h11, h12⟩ := h
 obtain ⟨bs, hq⟩ : ∃ bs, q = .pointer (some ⟨bs, 0, none⟩) := by obtain ⟨bs, _, rfl, _⟩ := h7; exact ⟨bs, rfl⟩
 subst hq
 rcases h6.2 with ⟨_, h0⟩ | ⟨g, cv, cur, rfl, _, hh, q1, q2, q3, q4⟩
 ·omega
 have hgF : g < w.heap.size := (Array.getElem?_eq_some_iff.1 hh).1
 have hgbt : g ≠ bt := fun e => h1 (by rw [e]; rfl)
 have hgG : ¬ g ∈ G := h3 g rfl
 obtain ⟨w5, hw5⟩ : ∃ w5, put5 w g (n * 5) (.bool true) (.int .i64 k) (.int .i64 m) (.string s) (.slice a l c) = w5 := ⟨_, rfl⟩
 have t5 : Touch [g] w w5 := by rw [← hw5]; exact put5_touch _ _ _ _ _ _ _ _
 have hyp : ∃ u, pVal (y, u) = Value.agg #[.int .i64 k, .int .i64 m, .string s, .slice a l c] := by
  obtain ⟨u, hu⟩ := hy.pair
  exact ⟨u, hu.symm⟩
 obtain ⟨u, hu⟩ := hyp
 have hsc : slCells (some (y, u)) = [.bool true, .int .i64 k, .int .i64 m, .string s, .slice a l c] := by
  simp only [pVal, Value.agg.injEq] at hu
  exact congrArg (List.cons (Value.bool true)) (congrArg Array.toList hu)
 have hr5 := put5_row (s := some (y, u)) h6 h5 hn hsc
 rw [hw5] at hr5
 have kept : ∀ j, j ≠ g → j < w.heap.size → w5.heap[j]? = w.heap[j]? := fun j hj hlt => t5.block j hlt (by simpa using hj)
 have hs5 : StkL G w5 (.pointer (some ⟨bs, 0, none⟩)) 65536 (trailV R) := h7.keep (fun j hj => kept j (fun e => hgG (e ▸ hj)) (hF j (by simp [hj])))
 have b5 : w5.heap[bt]? = some (.cells #[.slice (some ⟨g, 0, none⟩) N cv, .pointer (some ⟨bs, 0, none⟩)] 110 (0, 0)) := (kept bt (fun e => hgbt e.symm) (hF bt (by simp))).trans h4
 have tF : Touch (bt :: ((Value.slice (some ⟨g, 0, none⟩) N cv).ownBlock.toList ++ G)) w w5 := t5.sub (fun j hj => by simp at hj; subst hj; simp [Value.ownBlock])
 refine ⟨bt, g, bs, cv, G, rfl, ?_⟩
 rw [hw5]
 refine ⟨hF bt (by simp), hgF, by simp [Value.ownBlock], by simp, by simp [blk_cell h4], by simp [blk_cell h4], q1, q2, fun j hj => ?_, fun q => by simp [World.frozen?, hh], hs5, by simp [blk_cell b5], tF, fun w7 w8 G' hb7 hs8 ht8 hG' => ?_⟩
 ·rw [blk_cell hh]
  have hlt : n * 5 + j < cur.size := by rw [q3]; omega
  exact ⟨_, Array.getElem?_eq_getElem hlt⟩
 have hsz : w.heap.size ≤ w7.heap.size := Nat.le_trans t5.size hb7.size
 have k7 : ∀ j, j < w.heap.size → w7.heap[j]? = w5.heap[j]? := fun j hj => hb7.block j hj
 have k8 : ∀ j, j < w.heap.size → ¬ j ∈ G → w8.heap[j]? = w5.heap[j]? := fun j hj hn => (ht8.block j (by omega) hn).trans (k7 j hj)
 have hin : ∀ j ∈ bt :: ((Value.slice (some ⟨g, 0, none⟩) N cv).ownBlock.toList ++ G'), j ∈ bt :: ((Value.slice (some ⟨g, 0, none⟩) N cv).ownBlock.toList ++ G) ∨ w.heap.size ≤ j := by
  intro j hj
  simp only [List.mem_cons, List.mem_append] at hj ⊢
  rcases hj with hj | hj | hj
  ·exact Or.inl (Or.inl hj)
  ·exact Or.inl (Or.inr (Or.inl hj))
  ·rcases hG' j hj with e | e
   ·exact Or.inl (Or.inr (Or.inr e))
   ·exact Or.inr (by omega)
 have tA : Touch (bt :: ((Value.slice (some ⟨g, 0, none⟩) N cv).ownBlock.toList ++ G)) w w8 := by
  refine ⟨ht8.os.trans (hb7.os.trans t5.os), ht8.tape.trans (hb7.tape.trans t5.tape), ht8.output.trans (hb7.output.trans t5.output), Nat.le_trans hsz ht8.size, fun j hj hn => ?_⟩
  simp only [List.mem_cons, List.mem_append, not_or] at hn
  exact (k8 j hj hn.2.2).trans (kept j (fun e => hn.2.1 (by simp [Value.ownBlock, e])) hj)
 refine ⟨_, ⟨bt, .slice (some ⟨g, 0, none⟩) N cv, .pointer (some ⟨bs, 0, none⟩), G', sl.set n (some (y, u)), rfl, rfl, h1, fun hm => ?_, fun j hj hm => ?_, (k8 bt (hF bt (by simp)) h2).trans b5, by rw [List.length_set]; exact h5, row_at hr5 (fun j hj => by cases hj; exact k8 g hgF hgG), by rw [trail_cons]; exact hs8, h8.set (by omega) (by rw [hu]; exact hy), ⟨h9, by omega, by omega, get_none.1 hfree, hg, hr, hno⟩, h10, h11.touch h12 tA, h12.some h11 hin⟩, tA, hin⟩
 ·rcases hG' bt hm with e | e
  ·exact h2 e
  ·have := hF bt (by simp); omega
 ·cases hj
  rcases hG' g hm with e | e
  ·exact hgG e
  ·omega
end
end Go.Proofs.Ytchbbaehdcmcfaa
