import Derived.Test.YtchbbaehdcmcfaaHsozz
import Derived.Test.YtchbbaehdcmcfaaHsoap
import Derived.Test.YtchbbaehdcmcfaaHsoae
import Derived.Test.YtchbbaehdcmcfaaHsoai
import Derived.Test.YtchbbaehdcmcfaaHsoan
import Derived.Test.YtchbbaehdcmcfaaHsoah
set_option linter.unusedVariables false
set_option linter.unusedSimpArgs false
/- The document's side of chapter 11: Undo, walked. -/
namespace Go.Proofs.Ytchbbaehdcmcfaa
open Go.RowKit
set_option linter.unusedVariables false
section
variable {V w : World} {F : List Nat} {p : Value} {N : Nat} {R : List (Int × Tm)} {cb : Nat}
theorem IsR.undoing (h : IsR V F w p N R) {bt : Nat} (hp : p = .pointer (some ⟨bt, 0, none⟩)) {a2 a3 : Option Addr} {c2 c3 : Nat} (d1 : w.cell? ⟨bt, 1, none⟩ = some (.slice a2 N c2)) (d2 : w.cell? ⟨bt, 2, none⟩ = some (.slice a3 R.length c3)) {n i : Nat} {wr : World} (hr : RUI N (namesR R) n (.slice a2 N c2) w i wr) :
  wr.cell? ⟨bt, 1, none⟩ = some (.slice a2 N c2) ∧ wr.cell? ⟨bt, 2, none⟩ = some (.slice a3 R.length c3) ∧ ∀ j, j < R.length → ∃ (x g2 g3 : Nat), a2 = some ⟨g2, 0, none⟩ ∧ a3 = some ⟨g3, 0, none⟩ ∧ x < N ∧ (namesR R)[j]? = some (x : Int) ∧ wr.cell? ⟨g3, j, none⟩ = some (.int .i64 x) ∧ (∃ u, wr.cell? ⟨g2, x, none⟩ = some u) ∧ wr.frozen? ⟨g2, x, none⟩ = false := by
 have hF := h.lt
 obtain ⟨bt', v1, v2, v3, ts, bs, rfl, rfl, hn, h1, hl1, hl2, h4, h5, h6, h7, h8, h9, h10, h11⟩ := h
 cases hp
 have hv : v2 = .slice a2 N c2 := by
  have : w.cell? ⟨bt, 1, none⟩ = some v2 := by simp [blk_cell h1]
  rw [d1] at this
  exact (Option.some.inj this).symm
 subst hv
 have hv : v3 = .slice a3 R.length c3 := by
  have : w.cell? ⟨bt, 2, none⟩ = some v3 := by simp [blk_cell h1]
  rw [d2] at this
  exact (Option.some.inj this).symm
 subst hv
 obtain ⟨bs', e1, e2, e3, e4⟩ := hr
 have hnb := List.nodup_cons.1 hn
 have hbt : bt < w.heap.size := hF bt (by simp)
 have hbt2 : ¬ bt ∈ (Value.slice a2 N c2).ownBlock.toList := fun e => hnb.1 (by simp at e ⊢; simp [e])
 have hb := e4.block bt hbt hbt2
 refine ⟨(World.cell?_of_block hb).trans d1, (World.cell?_of_block hb).trans d2, fun j hj => ?_⟩
 obtain ⟨x, hx⟩ : ∃ x, (namesR R)[j]? = some x := ⟨_, List.getElem?_eq_getElem (by rw [namesR_len]; exact hj)⟩
 have hd : x ∈ domB R := by
  have := List.mem_of_getElem? hx
  rw [namesR_eq, List.mem_reverse] at this
  exact this
 obtain ⟨⟨x', t⟩, hmem, rfl⟩ := List.mem_map.1 hd
 have hrg := h8.mem hmem
 obtain ⟨xi, hxi⟩ : ∃ xi : Nat, x' = (xi : Int) := ⟨x'.toNat, by have := hrg.1; simp at this; omega⟩
 subst hxi
 have hxN : xi < N := by have := hrg.2.1; simp at this; omega
 rcases h6.2 with ⟨_, h0⟩ | ⟨g3, cap3, cur3, hv3, _, hh3, q1, q2, q3, q4⟩
 ·omega
 rcases e2.2 with ⟨_, h0⟩ | ⟨g2, cap2, cur2, hv2, _, hh2, p1, p2, p3, p4⟩
 ·omega
 cases hv3
 cases hv2
 have hne : ¬ g3 ∈ (Value.slice (some ⟨g2, 0, none⟩) N c2).ownBlock.toList := fun e => by
  have e : g3 = g2 := by simpa [Value.ownBlock] using e
  subst e
  have hn2 := (List.nodup_append.1 (List.nodup_append.1 hnb.2).2.1).2.2
  exact hn2 g3 (by simp [Value.ownBlock]) g3 (by simp [Value.ownBlock]) rfl
 have hb3 := e4.block g3 (hF g3 (by simp [Value.ownBlock])) hne
 refine ⟨xi, g2, g3, rfl, rfl, hxN, hx, ?_, ?_, by simp [World.frozen?, hh2]⟩
 ·rw [World.cell?_of_block hb3, blk_cell hh3]
  have ht : (trailV R)[j]? = some (.int .i64 xi) := by
   rw [trail_map, List.getElem?_map]
   show Option.map _ ((namesR R)[j]?) = _
   rw [hx]; rfl
  rw [← q4, List.getElem?_take, Nat.mul_one] at ht
  rw [if_pos hj] at ht
  simpa using ht
 ·rw [blk_cell hh2]
  exact ⟨_, Array.getElem?_eq_getElem (by omega)⟩
theorem IsR.undo0 (h : IsR V F w p N R) {bt : Nat} (hp : p = .pointer (some ⟨bt, 0, none⟩)) {a2 : Option Addr} {c2 : Nat} (d1 : w.cell? ⟨bt, 1, none⟩ = some (.slice a2 N c2)) (n : Nat) : RUI N (namesR R) n (.slice a2 N c2) w n w := by
 obtain ⟨bt', v1, v2, v3, ts, bs, rfl, rfl, hn, h1, hl1, hl2, h4, h5, h6, h7, h8, h9, h10, h11⟩ := h
 cases hp
 have hv : v2 = .slice a2 N c2 := by
  have : w.cell? ⟨bt, 1, none⟩ = some v2 := by simp [blk_cell h1]
  rw [d1] at this
  exact (Option.some.inj this).symm
 subst hv
 refine ⟨bs, hl2, h5, fun i hi => ?_, Touch.refl' _ _⟩
 rw [h7.is i hi, List.take_append_drop]
 congr 1
 rw [Bool.eq_iff_iff, decide_eq_true_eq, dom_iff, namesR_eq, List.mem_reverse]
theorem IsR.trail (h : IsR V F w p N R) {bt : Nat} (hp : p = .pointer (some ⟨bt, 0, none⟩)) {a3 : Option Addr} {c3 : Nat} (d2 : w.cell? ⟨bt, 2, none⟩ = some (.slice a3 R.length c3)) : R.length ≤ c3 ∧ ((a3 = none ∧ R.length = 0) ∨ ∃ g3, a3 = some ⟨g3, 0, none⟩) := by
 obtain ⟨bt', v1, v2, v3, ts, bs, rfl, rfl, hn, h1, hl1, hl2, h4, h5, h6, h7, h8, h9, h10, h11⟩ := h
 cases hp
 have hv : v3 = .slice a3 R.length c3 := by
  have : w.cell? ⟨bt, 2, none⟩ = some v3 := by simp [blk_cell h1]
  rw [d2] at this
  exact (Option.some.inj this).symm
 subst hv
 rcases h6.2 with ⟨e, h0⟩ | ⟨g3, cap3, cur3, hv3, _, hh3, q1, q2, q3, q4⟩
 ·injection e with e1 e2 e3
  exact ⟨by omega, Or.inl ⟨e1, h0⟩⟩
 ·cases hv3
  exact ⟨q1, Or.inr ⟨g3, rfl⟩⟩
set_option maxHeartbeats 8000000 in
set_option maxRecDepth 100000 in
theorem RUndo_yes (h : IsR V F w p N R) (n m : Nat) (hm : R.length = n + m) : Calls Try.prog 73 #[p, .int .i64 n] w fun e w' => ∃ F', e = .returned (.bool true) ∧ IsR V F' w' p N (R.drop m) ∧ Touch F w w' ∧ ∀ k ∈ F', k ∈ F ∨ w.heap.size ≤ k := by
 obtain ⟨hT, hN⟩ := h.tri
 have hL6 : R.length ≤ 65536 := by have := dom_len hT; omega
 obtain ⟨bt, a1, c1, a2, c2, a3, c3, hp, hlt, d0, d1, d2, _⟩ := h.open
 have HU0 := Lib.hid (h.undo0 hp d1 n)
 have HUG := Lib.hid (fun (i : Nat) (wr : World) (hr : RUI N (namesR R) n (.slice a2 N c2) w i wr) => h.undoing hp d1 d2 hr)
 have HUN := Lib.hid (fun (wr w6 w7 : World) (v7 : Value) (hr : RUI N (namesR R) n (.slice a2 N c2) w R.length wr) => h.undone hm hp d1 (wr := wr) (w6 := w6) (w7 := w7) (v7 := v7) hr)
 have HND := Lib.hid (show (namesR R).Nodup by rw [namesR_eq]; unfold List.Nodup; rw [List.pairwise_reverse]; exact (hT.nodup).imp (fun h e => h e.symm))
 have HTD := Lib.hid (trail_drop R n m hm)
 have HTR := Lib.hid (h.trail hp d2)
 have hm2 : (namesR R).length = n + m := by rw [namesR_len]; exact hm
 subst hp
 obtain ⟨L, hL⟩ : ∃ L, R.length = L := ⟨_, rfl⟩
 rw [hL] at d2 HUG HUN hL6 HTR
 rw [hL] at hm
 have hnL : decide ((L : Int) < (n : Int)) = false := by simp; omega
 have hnL2 : decide (L < n) = false := by simp; omega
 have hn0 : decide ((n : Int) < 0) = false := by simp
 have HNL := Lib.hid (show n ≤ L ∧ (namesR R).length = L from ⟨by omega, by omega⟩)
 obtain ⟨i0, hi0, hz0, hs0, hb0⟩ := info_parts infoI64
 clear h hT hm hm2 hL d0
 go_enter Try.func73, Try.ntmps73
 go_wp2_with fail
 go_loopw [5] (fun z wr => ∃ j : Nat, n ≤ j ∧ j ≤ L ∧ z = .int .i64 j ∧ Hid (RUI N (namesR R) n (.slice a2 N c2) w j wr)) (fun z _ => L - (RowKit.intOf z).toNat)
 case atStart => exact ⟨n, Nat.le_refl _, HNL.out.1, rfl, HU0⟩
 case round =>
  obtain ⟨j, hnj, hj, rfl, HR⟩ := hrel
  obtain ⟨g1, g2, hcells⟩ := HUG.out j wr HR.out
  by_cases hjL : j < L
  ·obtain ⟨x, b2, b3, rfl, rfl, hxN, hnx, k0, ⟨u, k1⟩, k2⟩ := hcells j hjL
   have HN := Lib.hid (HR.out.step HND.out hnj hnx hxN)
   have hjL2 : (j : Int) < L := by omega
   have hxN2 : (x : Int) < N := by omega
   have hx0 : (0 : Int) ≤ x := by omega
   have hj0 : (0 : Int) ≤ j := by omega
   clear hcells hnx HR
   go_wp2_with fail
   go_region
   go_wp2
   go_roundw
   case rel => exact ⟨j + 1, by omega, by omega, by go_num, HN⟩
   case measure => simp [RowKit.intOf]; omega
  ·have hjL2 : j = L := by omega
   subst hjL2
   have g2' := fun o => Lib.cell?_alloc_some o g2
   obtain ⟨hc3, ha3⟩ := HTR.out
   have hnj2 : (n : Int) ≤ c3 := by omega
   have hn0' : (0 : Int) ≤ n := by omega
   have HROW := Lib.hid (show (wr.alloc (.cells #[] 2)).ownsRow 0 2 1 (.slice (some ⟨wr.heap.size, 0, none⟩) 0 0) 0 [] from ⟨rfl, Or.inr ⟨wr.heap.size, 0, #[], rfl, Nat.zero_le _, heap_alloc_new wr _, Nat.le_refl _, Nat.zero_le _, rfl, rfl⟩⟩)
   rcases ha3 with ⟨rfl, hL0⟩ | ⟨g3, rfl⟩
   ·obtain rfl : n = 0 := by omega
    have HNW := Lib.hid (show ((((namesR R).take 0).map (Value.int .i64)).length = 0 * 1) ∧ ((0 : Nat) = 0 ∨ ∃ ad, (none : Option Addr) = some ad ∧ ∀ k u, (((namesR R).take 0).map (Value.int .i64))[k]? = some u → (wr.alloc (.cells #[] 2)).cell? (ad.add k) = some u) ∧ (∀ u ∈ ((namesR R).take 0).map (Value.int .i64), u.oneCell' = true) ∧ trailV (R.drop m) = [] ++ ((namesR R).take 0).map (Value.int .i64) from
     ⟨by simp, Or.inl rfl, fun u hu => (by simp at hu), by rw [List.nil_append]; exact HTD.out.symm⟩)
    clear hjL hnL hnL2 hn0 hcells
    go_wp2_with (at_builtin; refine wpList_append_k rfl _ _ 57 rfl 0 2 i0 (.int .i64 0) 1 8 Try.underlying57 hi0 hz0 hs0 (by decide) hb0 rfl (.slice (some ⟨wr.heap.size, 0, none⟩) 0 0) 0 [] rfl HROW.out none 0 c3 (((namesR R).take 0).map (Value.int .i64)) rfl HNW.out.1 HNW.out.2.1 HNW.out.2.2.1 (by unfold maxLen; omega) (by omega) (Nat.zero_le _) 0 (trailV (R.drop m)) (by omega) HNW.out.2.2.2 ?_; intro a7 c7 w7 hown7 hgrow7 hat7; obtain ⟨f7, ⟨u7, c7'⟩, F', q1, q2, q3⟩ := HUN.out wr _ w7 _ HR.out (bel1' wr _) hgrow7 hat7 hown7 (by simp); have HQ := Lib.hid (And.intro q1 (And.intro q2 q3)); clear q1 q2 q3 hown7 hgrow7 hat7)
    go_ret
    exact ⟨rfl, F', HQ.out⟩
   ·have HNW := Lib.hid (show ((((namesR R).take n).map (Value.int .i64)).length = n * 1) ∧ (n = 0 ∨ ∃ ad, (some ⟨g3, 0, none⟩ : Option Addr) = some ad ∧ ∀ k u, (((namesR R).take n).map (Value.int .i64))[k]? = some u → (wr.alloc (.cells #[] 2)).cell? (ad.add k) = some u) ∧ (∀ u ∈ ((namesR R).take n).map (Value.int .i64), u.oneCell' = true) ∧ trailV (R.drop m) = [] ++ ((namesR R).take n).map (Value.int .i64) from by
     refine ⟨by have := HNL.out; simp; omega, Or.inr ⟨_, rfl, fun k u hu => ?_⟩, fun u hu => ?_, by rw [List.nil_append]; exact HTD.out.symm⟩
     ·have hk : k < n := by
       have := (List.getElem?_eq_some_iff.1 hu).1
       simp at this
       omega
      obtain ⟨x, b2, b3, _, hb3, _, hnx, k0, _⟩ := hcells k (by omega)
      cases hb3
      rw [List.getElem?_map, List.getElem?_take, if_pos hk, hnx] at hu
      cases hu
      rw [add_plain, Nat.zero_add]
      exact Lib.cell?_alloc_some _ k0
     ·obtain ⟨x, _, rfl⟩ := List.mem_map.1 hu
      rfl)
    clear hjL hnL hnL2 hn0 hcells
    go_wp2_with (at_builtin; refine wpList_append_k rfl _ _ 57 rfl 0 2 i0 (.int .i64 0) 1 8 Try.underlying57 hi0 hz0 hs0 (by decide) hb0 rfl (.slice (some ⟨wr.heap.size, 0, none⟩) 0 0) 0 [] rfl HROW.out (some ⟨g3, 0, none⟩) n c3 (((namesR R).take n).map (Value.int .i64)) rfl HNW.out.1 HNW.out.2.1 HNW.out.2.2.1 (by unfold maxLen; omega) (by omega) (Nat.zero_le _) n (trailV (R.drop m)) (by omega) HNW.out.2.2.2 ?_; intro a7 c7 w7 hown7 hgrow7 hat7; obtain ⟨f7, ⟨u7, c7'⟩, F', q1, q2, q3⟩ := HUN.out wr _ w7 _ HR.out (bel1' wr _) hgrow7 hat7 hown7 (by simp); have HQ := Lib.hid (And.intro q1 (And.intro q2 q3)); clear q1 q2 q3 hown7 hgrow7 hat7)
    go_ret
    exact ⟨F', rfl, HQ.out⟩
end
end Go.Proofs.Ytchbbaehdcmcfaa
/- The document's side of chapter 11: one more variable, in memory. -/
namespace Go.Proofs.Ytchbbaehdcmcfaa
open Go.RowKit
set_option linter.unusedVariables false
section
variable {V w : World} {F : List Nat} {p : Value} {N : Nat} {R : List (Int × Tm)}
theorem IsR.grow (h : IsR V F w p N R) (hN : N < 65536) {bt : Nat} (hp : p = .pointer (some ⟨bt, 0, none⟩)) {a1 a2 : Option Addr} {c1 c2 : Nat} (hc1 : w.cell? ⟨bt, 0, none⟩ = some (.slice a1 N c1)) (hc2 : w.cell? ⟨bt, 1, none⟩ = some (.slice a2 N c2)) :
  ∃ xs ys, w.ownsRow 0 54 4 (.slice a1 N c1) N xs ∧ w.ownsRow 0 4 1 (.slice a2 N c2) N ys ∧
   (∀ x1 wA x2 : World, Below w.heap.size w x1 → x1.grownBy wA (Value.slice a1 N c1).ownBlock → Below wA.heap.size wA x2 → x2.ownsRow 0 4 1 (.slice a2 N c2) N ys ∧ (∀ j, x2.cell? ⟨bt, j, none⟩ = w.cell? ⟨bt, j, none⟩) ∧ (∀ j, x2.frozen? ⟨bt, j, none⟩ = false)) ∧
   ∀ (x1 wA x2 wB : World) (v1 v2 : Value), Below w.heap.size w x1 → x1.grownBy wA (Value.slice a1 N c1).ownBlock → (v1.ownBlock = (Value.slice a1 N c1).ownBlock ∨ v1.ownBlock = some x1.heap.size) → wA.ownsRow 0 54 4 v1 (N + 1) (xs ++ [.int .i64 0, .int .i64 0, .string ⟨#[]⟩, .slice none 0 0]) →
    Below wA.heap.size wA x2 → x2.grownBy wB (Value.slice a2 N c2).ownBlock → (v2.ownBlock = (Value.slice a2 N c2).ownBlock ∨ v2.ownBlock = some x2.heap.size) → wB.ownsRow 0 4 1 v2 (N + 1) (ys ++ [.bool false]) →
    (∀ j, wB.cell? ⟨bt, j, none⟩ = w.cell? ⟨bt, j, none⟩) ∧ (∀ j, wB.frozen? ⟨bt, j, none⟩ = false) ∧
     ∃ F', IsR V F' ((wB.setCell ⟨bt, 0, none⟩ v1).setCell ⟨bt, 1, none⟩ v2) p (N + 1) R ∧ Touch F w ((wB.setCell ⟨bt, 0, none⟩ v1).setCell ⟨bt, 1, none⟩ v2) ∧ (∀ k ∈ F', k ∈ F ∨ x1.heap.size ≤ k) ∧ (∀ k, w.heap.size ≤ k → k < x1.heap.size → ((wB.setCell ⟨bt, 0, none⟩ v1).setCell ⟨bt, 1, none⟩ v2).heap[k]? = x1.heap[k]?) ∧ x1.heap.size ≤ ((wB.setCell ⟨bt, 0, none⟩ v1).setCell ⟨bt, 1, none⟩ v2).heap.size := by
 have hF := h.lt
 obtain ⟨bt', v1, v2, v3, ts, bs, rfl, rfl, hn, h1, hl1, hl2, h4, h5, h6, h7, h8, h9, h10, h11⟩ := h
 cases hp
 have hv : v1 = .slice a1 N c1 := by
  have : w.cell? ⟨bt, 0, none⟩ = some v1 := by simp [blk_cell h1]
  rw [hc1] at this
  exact (Option.some.inj this).symm
 subst hv
 have hv : v2 = .slice a2 N c2 := by
  have : w.cell? ⟨bt, 1, none⟩ = some v2 := by simp [blk_cell h1]
  rw [hc2] at this
  exact (Option.some.inj this).symm
 subst hv
 have hnb := List.nodup_cons.1 hn
 have hbt : bt < w.heap.size := hF bt (by simp)
 have hb1 : (Value.slice a1 N c1).ownBlock ≠ some bt := fun e => hnb.1 (by simp [e])
 have hb2 : (Value.slice a2 N c2).ownBlock ≠ some bt := fun e => hnb.1 (by simp [e])
 have hb3 : v3.ownBlock ≠ some bt := fun e => hnb.1 (by simp [e])
 have h12 : ∀ k, (Value.slice a1 N c1).ownBlock = some k → (Value.slice a2 N c2).ownBlock ≠ some k := fun k e1 e2 => (List.nodup_append.1 hnb.2).2.2 k (by simp [e1]) k (by simp [e2]) rfl
 have h13 : ∀ k, (Value.slice a1 N c1).ownBlock = some k → v3.ownBlock ≠ some k := fun k e1 e2 => (List.nodup_append.1 hnb.2).2.2 k (by simp [e1]) k (by simp [e2]) rfl
 have h23 : ∀ k, (Value.slice a2 N c2).ownBlock = some k → v3.ownBlock ≠ some k := fun k e1 e2 => (List.nodup_append.1 (List.nodup_append.1 hnb.2).2.1).2.2 k (by simp [e1]) k (by simp [e2]) rfl
 have ho1 : ∀ k, (Value.slice a1 N c1).ownBlock = some k → k < w.heap.size := fun k e => hF k (by simp [e])
 have ho2 : ∀ k, (Value.slice a2 N c2).ownBlock = some k → k < w.heap.size := fun k e => hF k (by simp [e])
 have ho3 : ∀ k, v3.ownBlock = some k → k < w.heap.size := fun k e => hF k (by simp [e])
 have key2 : ∀ x1 wA x2 : World, Below w.heap.size w x1 → x1.grownBy wA (Value.slice a1 N c1).ownBlock → Below wA.heap.size wA x2 → ∀ k, k < w.heap.size → (Value.slice a1 N c1).ownBlock ≠ some k → x2.heap[k]? = w.heap[k]? := fun x1 wA x2 q1 q2 q3 k hk hne => by
  have := q1.size
  have := q2.size
  rw [q3.block k (by omega), q2.block k (by omega) (fun e => hne e.symm), q1.block k hk]
 refine ⟨_, _, h4, h5, fun x1 wA x2 q1 q2 q3 => ?_, fun x1 wA x2 wB u1 u2 q1 q2 q3 q4 q5 q6 q7 q8 => ?_⟩
 ·have hb := key2 x1 wA x2 q1 q2 q3 bt hbt hb1
  exact ⟨row_at h5 (fun g hg => key2 x1 wA x2 q1 q2 q3 g (ho2 g hg) (fun e => h12 g e hg)), fun j => World.cell?_of_block hb, fun j => by simp [World.frozen?, hb, h1]⟩
 ·have s1 := q1.size
  have s2 := q2.size
  have s3 := q5.size
  have s4 := q6.size
  have key : ∀ k, k < w.heap.size → (Value.slice a1 N c1).ownBlock ≠ some k → (Value.slice a2 N c2).ownBlock ≠ some k → wB.heap[k]? = w.heap[k]? := fun k hk e1 e2 => by
   rw [q6.block k (by omega) (fun e => e2 e.symm)]
   exact key2 x1 wA x2 q1 q2 q5 k hk e1
  have hb := key bt hbt hb1 hb2
  have bB := hb.trans h1
  have hu1 : ∀ k, u1.ownBlock = some k → (Value.slice a1 N c1).ownBlock = some k ∨ k = x1.heap.size := fun k hk => by
   rcases q3 with e | e <;> rw [hk] at e
   ·exact Or.inl e.symm
   ·injection e with e; exact Or.inr e
  have hu2 : ∀ k, u2.ownBlock = some k → (Value.slice a2 N c2).ownBlock = some k ∨ k = x2.heap.size := fun k hk => by
   rcases q7 with e | e <;> rw [hk] at e
   ·exact Or.inl e.symm
   ·injection e with e; exact Or.inr e
  have hwA : ∀ k, u1.ownBlock = some k → k < wA.heap.size := fun k hk => (q4.lt k hk).2
  have n1 : u1.ownBlock ≠ some bt := fun e => by
   rcases hu1 _ e with h | h
   ·exact hb1 h
   ·omega
  have n2 : u2.ownBlock ≠ some bt := fun e => by
   rcases hu2 _ e with h | h
   ·exact hb2 h
   ·omega
  have n12 : ∀ k, u1.ownBlock = some k → u2.ownBlock ≠ some k := fun k e1 e2 => by
   have hk := hwA k e1
   rcases hu1 k e1 with h | h <;> rcases hu2 k e2 with g | g
   ·exact h12 k h g
   ·omega
   ·have := ho2 k g; omega
   ·omega
  have n13 : ∀ k, u1.ownBlock = some k → v3.ownBlock ≠ some k := fun k e1 e2 => by
   rcases hu1 k e1 with h | h
   ·exact h13 k h e2
   ·have := ho3 k e2; omega
  have n23 : ∀ k, u2.ownBlock = some k → v3.ownBlock ≠ some k := fun k e1 e2 => by
   rcases hu2 k e1 with h | h
   ·exact h23 k h e2
   ·have := ho3 k e2; omega
  have hset : ∀ k, k ≠ bt → ((wB.setCell ⟨bt, 0, none⟩ u1).setCell ⟨bt, 1, none⟩ u2).heap[k]? = wB.heap[k]? := fun k hk => (Below.heap_setCell _ _ _ k hk).trans (Below.heap_setCell _ _ _ k hk)
  have tw : Touch (bt :: ((Value.slice a1 N c1).ownBlock.toList ++ ((Value.slice a2 N c2).ownBlock.toList ++ v3.ownBlock.toList))) w ((wB.setCell ⟨bt, 0, none⟩ u1).setCell ⟨bt, 1, none⟩ u2) := by
   refine ⟨q6.os.trans (q5.os.trans (q2.os.trans q1.os)), q6.tape.trans (q5.tape.trans (q2.tape.trans q1.tape)), q6.output.trans (q5.output.trans (q2.output.trans q1.output)), by simp [World.setCell]; omega, fun j hj hm => ?_⟩
   simp only [List.mem_cons, List.mem_append, Option.mem_toList, not_or] at hm
   rw [hset j hm.1]
   exact key j hj hm.2.1 hm.2.2.1
  have hin : ∀ k ∈ bt :: (u1.ownBlock.toList ++ (u2.ownBlock.toList ++ v3.ownBlock.toList)), k ∈ bt :: ((Value.slice a1 N c1).ownBlock.toList ++ ((Value.slice a2 N c2).ownBlock.toList ++ v3.ownBlock.toList)) ∨ x1.heap.size ≤ k := fun k hk => by
   simp only [List.mem_cons, List.mem_append, Option.mem_toList] at hk ⊢
   rcases hk with hk | hk | hk | hk
   ·exact Or.inl (Or.inl hk)
   ·rcases hu1 k hk with h | h
    ·exact Or.inl (Or.inr (Or.inl h))
    ·exact Or.inr (by omega)
   ·rcases hu2 k hk with h | h
    ·exact Or.inl (Or.inr (Or.inr (Or.inl h)))
    ·exact Or.inr (by omega)
   ·exact Or.inl (Or.inr (Or.inr (Or.inr hk)))
  refine ⟨fun j => World.cell?_of_block hb, fun j => by simp [World.frozen?, bB], _, ⟨bt, u1, u2, v3, ts ++ [(varV 0, .slice none 0 0)], bs ++ [false], rfl, rfl, ?_, ?_, by simp [hl1], by simp [hl2], ?_, ?_, ?_, ⟨fun i hi => ?_, fun i t ht => ?_⟩, h8.more, by omega, h10.touch h11 tw, Blind.some h11 h10 (fun k hk => (hin k hk).imp id (fun h => Nat.le_trans s1 h))⟩, tw, hin, fun k g1 g2 => by
   rw [hset k (by omega), q6.block k (by omega) (fun e => by have := ho2 k e.symm; omega), q5.block k (by omega), q2.block k g2 (fun e => by have := ho1 k e.symm; omega)], by simp [World.setCell]; omega⟩
  ·refine List.nodup_cons.2 ⟨fun hm => ?_, List.nodup_append.2 ⟨by cases u1.ownBlock <;> simp, List.nodup_append.2 ⟨by cases u2.ownBlock <;> simp, by cases v3.ownBlock <;> simp, fun a ha b hb e => ?_⟩, fun a ha b hb e => ?_⟩⟩
   ·simp only [List.mem_append, Option.mem_toList] at hm
    rcases hm with hm | hm | hm
    ·exact n1 hm
    ·exact n2 hm
    ·exact hb3 hm
   ·subst e
    simp only [Option.mem_toList] at ha hb
    exact n23 a ha hb
   ·subst e
    simp only [List.mem_append, Option.mem_toList] at ha hb
    rcases hb with hb | hb
    ·exact n12 a ha hb
    ·exact n13 a ha hb
  ·rw [blk_setc (blk_setc bB 0 u1) 1 u2]; rfl
  ·rw [List.flatMap_append]
   refine row_at q4 (fun g hg => ?_)
   have hgb : g ≠ bt := fun e => n1 (by rw [← e]; exact hg)
   have hgA := hwA g hg
   rw [hset g hgb, q6.block g (by omega) (fun e => ?_), q5.block g hgA]
   rcases hu1 g hg with h | h
   ·exact h12 g h e.symm
   ·have := ho2 g e.symm; omega
  ·rw [List.map_append]
   exact row_at q8 (fun g hg => hset g (fun e => n2 (by rw [← e]; exact hg)))
  ·exact row_at h6 (fun g hg => by
    rw [hset g (fun e => hb3 (by rw [← e]; exact hg))]
    exact key g (ho3 g hg) (fun e => h13 g e hg) (fun e => h23 g e hg))
  ·by_cases hiN : i < N
   ·rw [List.getElem?_append_left (by omega)]
    exact h7.is i hiN
   ·have : i = N := by omega
    subst this
    rw [List.getElem?_append_right (by omega), hl2, Nat.sub_self]
    have hno : getB R (i : Int) = none := by
     rw [get_none]
     intro hd
     obtain ⟨q, hq, e⟩ := List.mem_map.1 hd
     have := (h8.mem (p := q) hq).2.1
     omega
    rw [hno]; rfl
  ·obtain ⟨u, e1, e2⟩ := h7.held i t ht
   exact ⟨u, by rw [List.getElem?_append_left (List.getElem?_eq_some_iff.1 e1).1]; exact e1, e2⟩
end
end Go.Proofs.Ytchbbaehdcmcfaa
/- The document's side of chapter 11: Fresh. -/
namespace Go.Proofs.Ytchbbaehdcmcfaa
open Go.RowKit
set_option linter.unusedVariables false
theorem infoBool : (Try.prog.info? 4).map (fun i => (i.zero, i.size, i.bytes)) = some (some (.bool false), 1, 1) := by kernel_rfl
section
variable {V w : World} {F : List Nat} {p : Value} {N : Nat} {R : List (Int × Tm)}
set_option maxHeartbeats 8000000 in
set_option maxRecDepth 100000 in
theorem RFresh_at (h : IsR V F w p N R) (hN : N < 65536) :
  Calls Try.prog 32 #[p] w fun e w' => ∃ F', e = .returned (.tuple #[.agg #[.int .i64 0, .int .i64 N, .string ⟨#[]⟩, .slice none 0 0], .bool true]) ∧ IsR V F' w' p (N + 1) R ∧ Touch F w w' ∧ ∀ k ∈ F', k ∈ F ∨ w.heap.size ≤ k := by
 have HLT := Lib.hid h.lt
 have HSEE := Lib.hid h.see
 obtain ⟨bt, a1, c1, a2, c2, a3, c3, rfl, hlt, d0, d1, _, _⟩ := h.open
 obtain ⟨xs, ys, hrow1, hrow2, hmid, hgrow⟩ := h.grow hN rfl d0 d1
 obtain ⟨i0, hi0, hz0, hs0, hb0⟩ := info_parts infoTermR
 have hbn : (∀ j, w.frozen? ⟨bt, j, none⟩ = false) := by
  obtain ⟨bt', v1, v2, v3, ts, bs, e, rfl, hn, h1, _⟩ := h
  cases e
  exact fun j => by simp [World.frozen?, h1]
 have hge : decide ((65536 : Int) ≤ (N : Int)) = false := by simp; omega
 have hwr : IntKind.i64.wrap (((N + 1 : Nat) : Int) - 1) = (N : Int) := by rw [IntKind.wrap_i64]; omega
 obtain ⟨w1, e1, B1, z1, X1⟩ := box_new w #[.int .i64 0, .int .i64 0, .string ⟨#[]⟩, .slice none 0 0] 54
 have HB1 := Lib.hid (And.intro B1 X1)
 have HO1 := Lib.hid (fun (k : Nat) (hk : some k = (Value.slice a1 N c1).ownBlock ∨ (Value.slice a1 N c1).ownBlock = some k) => (show k < w.heap.size from (hrow1.lt k (hk.elim Eq.symm id)).2))
 have HR1 := Lib.hid (fun (x : World) (hb : Below w.heap.size w x) => row_ext hrow1 hb)
 have HMID := Lib.hid hmid
 have HGROW := Lib.hid hgrow
 have k0 := cell_later B1 d0
 have k1 := cell_later B1 d1
 have f0 : w1.frozen? ⟨bt, 0, none⟩ = false := (B1.frozen (p := ⟨bt, 0, none⟩) hlt).trans (hbn 0)
 have f1 : w1.frozen? ⟨bt, 1, none⟩ = false := (B1.frozen (p := ⟨bt, 1, none⟩) hlt).trans (hbn 1)
 have HE1 := Lib.hid e1
 have HD0 := Lib.hid (And.intro d0 d1)
 have HZ1 := Lib.hid z1
 obtain ⟨j0, hj0, hy0, hy1, hy2⟩ := info_parts infoBool
 clear h hrow1 hrow2 hmid hgrow B1 X1 d0 d1 hbn e1
 go_enter Try.func32, Try.ntmps32
 go_upto_region 1 with fail
 rw [HE1.out]
 go_upto_region 3 with fail
 refine g_begin (B := fun w' => w'.frozen? ⟨bt, 0, none⟩ = false ∧ w'.frozen? ⟨bt, 1, none⟩ = false) (C := fun w' => w'.cell? ⟨bt, 0, none⟩ = some (.slice a1 N c1) ∧ w'.cell? ⟨bt, 1, none⟩ = some (.slice a2 N c2)) 17 (by kernel_rfl) ⟨f0, f1⟩ ⟨k0, k1⟩ (fun hHB hHC => ?_)
 refine g_tb (i := 0) ⟨hHB, fun _ => hHC⟩ ?_; apply Exists.intro; refine ⟨fun wq hq => ?_, ?_⟩; (focus ((try dsimp only at hq); go_simp; (first | done | with_reducible rfl | fail)))
 refine g_tb (i := 1) ⟨hHB, fun _ => hHC⟩ ?_; apply Exists.intro; refine ⟨fun wq hq => ?_, ?_⟩; (focus ((try dsimp only at hq); go_simp; (first | done | with_reducible rfl | fail)))
 refine g_tb (i := 2) ⟨hHB, fun _ => hHC⟩ ?_; apply Exists.intro; refine ⟨fun wq hq => ?_, ?_⟩; (focus ((try dsimp only at hq); go_simp; (first | done | with_reducible rfl | fail)))
 refine g_tb (i := 3) ⟨hHB, fun _ => hHC⟩ ?_; apply Exists.intro; refine ⟨fun wq hq => ?_, ?_⟩; (focus ((try dsimp only at hq); go_simp; (first | done | with_reducible rfl | fail)))
 refine g_tb (i := 4) ⟨hHB, fun _ => hHC⟩ ?_; apply Exists.intro; refine ⟨fun wq hq => ?_, ?_⟩; (focus ((try dsimp only at hq); go_simp; (first | done | with_reducible rfl | fail)))
 refine g_tc (i := 5) ⟨hHB, fun _ => hHC⟩ ?_; apply Exists.intro; refine ⟨fun wq hq => ?_, ?_⟩; (focus ((try dsimp only at hq); go_simp; (first | done | with_reducible rfl | fail)))
 refine g_tb (i := 6) ⟨hHB, fun _ => hHC⟩ ?_; apply Exists.intro; refine ⟨fun wq hq => ?_, ?_⟩; (focus ((try dsimp only at hq); go_simp; (first | done | with_reducible rfl | fail)))
 refine g_tb (i := 9) ⟨hHB, fun _ => hHC⟩ ?_; apply Exists.intro; refine ⟨fun wq hq => ?_, ?_⟩; (focus ((try dsimp only at hq); go_simp; (first | done | with_reducible rfl | fail)))
 refine g_tb (i := 10) ⟨hHB, fun _ => hHC⟩ ?_; apply Exists.intro; refine ⟨fun wq hq => ?_, ?_⟩; (focus ((try dsimp only at hq); go_simp; (first | done | with_reducible rfl | fail)))
 refine g_tb (i := 11) ⟨hHB, fun _ => hHC⟩ ?_; apply Exists.intro; refine ⟨fun wq hq => ?_, ?_⟩; (focus ((try dsimp only at hq); go_simp; (first | done | with_reducible rfl | fail)))
 refine g_tc (i := 12) ⟨hHB, fun _ => hHC⟩ ?_; apply Exists.intro; refine ⟨fun wq hq => ?_, ?_⟩; (focus ((try dsimp only at hq); go_simp; (first | done | with_reducible rfl | fail)))
 try simp only [Act.put, lay4]
 refine g_ready (rs := [7, 13]) (by kernel_rfl) (by simp) ?_
 refine AllReadyG.cons (by simp only [ops3]; rfl) (fun K hK => ?_) (AllReadyG.cons (by simp only [ops3]; rfl) (fun K hK => ?_) AllReadyG.nil)
 ·go_simp
  refine hK.out _ _ ⟨⟨((bel1' _ _).frozen (p := ⟨bt, 0, none⟩) (World.block_lt_of_cell? _ _ hHC.1)).trans hHB.1, ((bel1' _ _).frozen (p := ⟨bt, 1, none⟩) (World.block_lt_of_cell? _ _ hHC.2)).trans hHB.2⟩, fun _ => ⟨cell_later (bel1' _ _) hHC.1, cell_later (bel1' _ _) hHC.2⟩⟩ (fun hHeld => ?_)
  replace hHB := hHeld.1
  replace hHC := hHeld.2 (by kernel_rfl)
  dsimp only at hHB hHC
  clear hHeld hK K
  try simp only [Act.put, lay4]
  refine g_ready (rs := [8, 13]) (by kernel_rfl) (by simp) ?_
  refine AllReadyG.cons (by simp only [ops3]; rfl) (fun K hK => ?_) (AllReadyG.cons (by simp only [ops3]; rfl) (fun K hK => ?_) AllReadyG.nil)
  ·have HX1 := Lib.hid (show Below w.heap.size w (w1.alloc (.cells #[.int .i64 0, .int .i64 0, .string ⟨#[]⟩, .slice none 0 0] 54)).drew from (Ext.trans' HB1.out.1 (bel1' _ _)).drew)
   refine step_append_k (by rfl) _ _ 52 (by rfl) 0 54 i0 (.agg #[.int .i64 0, .int .i64 0, .string ⟨#[]⟩, .slice none 0 0]) 4 56 Try.underlying52 hi0 hz0 hs0 (by decide) hb0 rfl (.slice a1 N c1) N xs (by rfl) (HR1.out _ HX1.out) (some ⟨w.heap.size + 1, 0, none⟩) 1 1 [.int .i64 0, .int .i64 0, .string ⟨#[]⟩, .slice none 0 0] (by rfl) (by rfl) (Or.inr ⟨_, rfl, fun j u hu => (by rw [← HZ1.out]; exact cell_new w1 #[.int .i64 0, .int .i64 0, .string ⟨#[]⟩, .slice none 0 0] 54 j u hu)⟩) (by simp [Value.oneCell']) (by unfold maxLen; omega) (by omega) (Nat.zero_le _) (N + 1) (xs ++ [.int .i64 0, .int .i64 0, .string ⟨#[]⟩, .slice none 0 0]) rfl rfl ?_
   intro a4 c4 wA hownA hgrowA hatA
   obtain ⟨_, mc, mf⟩ := HMID.out _ wA wA HX1.out hgrowA (Below.refl _ _)
   have HGA := Lib.hid (And.intro hgrowA (And.intro hatA hownA))
   refine hK.out _ _ ⟨⟨mf 0, mf 1⟩, fun _ => ⟨(mc 0).trans HD0.out.1, (mc 1).trans HD0.out.2⟩⟩ (fun hHeld => ?_)
   replace hHB := hHeld.1
   replace hHC := hHeld.2 (by kernel_rfl)
   dsimp only at hHB hHC
   clear hHeld hK K
   try simp only [Act.put, lay4]
   clear mc mf hgrowA hatA hownA
   refine g_ready (rs := [13]) (by kernel_rfl) (by simp) ?_
   refine AllReadyG.cons (by simp only [ops3]; rfl) (fun K hK => ?_) AllReadyG.nil
   go_simp
   refine hK.out _ _ ⟨⟨((bel1' _ _).frozen (p := ⟨bt, 0, none⟩) (World.block_lt_of_cell? _ _ hHC.1)).trans hHB.1, ((bel1' _ _).frozen (p := ⟨bt, 1, none⟩) (World.block_lt_of_cell? _ _ hHC.2)).trans hHB.2⟩, fun _ => ⟨cell_later (bel1' _ _) hHC.1, cell_later (bel1' _ _) hHC.2⟩⟩ (fun hHeld => ?_)
   replace hHB := hHeld.1
   replace hHC := hHeld.2 (by kernel_rfl)
   dsimp only at hHB hHC
   clear hHeld hK K
   try simp only [Act.put, lay4]
   refine g_ready (rs := [14]) (by kernel_rfl) (by simp) ?_
   refine AllReadyG.cons (by simp only [ops3]; rfl) (fun K hK => ?_) AllReadyG.nil
   have HX2 := Lib.hid (bel1' wA (.cells #[.bool false] 4))
   refine step_append_k (by rfl) _ _ 60 (by rfl) 0 4 j0 (.bool false) 1 1 Try.underlying60 hj0 hy0 hy1 (by decide) hy2 rfl (.slice a2 N c2) N ys (by rfl) (HMID.out _ wA _ HX1.out HGA.out.1 HX2.out).1 (some ⟨wA.heap.size, 0, none⟩) 1 1 [.bool false] (by rfl) (by rfl) (Or.inr ⟨_, rfl, fun j u hu => cell_new wA #[.bool false] 4 j u hu⟩) (by simp [Value.oneCell']) (by unfold maxLen; omega) (by omega) (Nat.zero_le _) (N + 1) (ys ++ [.bool false]) rfl rfl ?_
   intro a5 c5 wB hownB hgrowB hatB
   obtain ⟨mc, mf, F', q1, q2, q3, q4, q5⟩ := HGROW.out _ wA _ wB (.slice a4 (N + 1) c4) (.slice a5 (N + 1) c5) HX1.out HGA.out.1 HGA.out.2.1 HGA.out.2.2 HX2.out hgrowB hatB hownB
   have HQ := Lib.hid (And.intro q1 (And.intro q2 q3))
   have HBX := Lib.hid (And.intro q4 q5)
   refine hK.out _ _ ⟨⟨mf 0, mf 1⟩, fun _ => ⟨(mc 0).trans HD0.out.1, (mc 1).trans HD0.out.2⟩⟩ (fun hHeld => ?_)
   replace hHB := hHeld.1
   replace hHC := hHeld.2 (by kernel_rfl)
   dsimp only at hHB hHC
   clear hHeld hK K
   try simp only [Act.put, lay4]
   clear mc mf q1 q2 q3 q4 q5 hownB hgrowB hatB
   refine g_tb (i := 15) ⟨hHB, fun _ => hHC⟩ ?_; apply Exists.intro; refine ⟨fun wq hq => ?_, ?_⟩; (focus ((try dsimp only at hq); go_simp; (first | done | with_reducible rfl | fail)))
   refine g_tb (i := 16) ⟨hHB, fun _ => hHC⟩ ?_; apply Exists.intro; refine ⟨fun wq hq => ?_, ?_⟩; (focus ((try dsimp only at hq); go_simp; (first | done | with_reducible rfl | fail)))
   try simp only [Act.put, lay4]
   refine g_ready (rs := [17]) (by kernel_rfl) (by simp) ?_
   refine AllReadyG.cons (by simp only [ops3]; rfl) (fun K hK => ?_) AllReadyG.nil
   have HC0 := Lib.hid hHC.1
   have hC1 : (wB.setCell ⟨bt, 0, none⟩ (.slice a4 (N + 1) c4)).cell? ⟨bt, 1, none⟩ = some (.slice a2 N c2) := by rw [World.cell?_setCell_other]; exact hHC.2; intro e; injection e with _ e _; cases e
   go_simp
   refine hK.out _ _ ⟨(by (show (wB.setCell ⟨bt, 0, none⟩ (.slice a4 (N + 1) c4)).frozen? ⟨bt, 0, none⟩ = false ∧ (wB.setCell ⟨bt, 0, none⟩ (.slice a4 (N + 1) c4)).frozen? ⟨bt, 1, none⟩ = false); exact ⟨by rw [World.frozen?_setCell]; exact hHB.1, by rw [World.frozen?_setCell]; exact hHB.2⟩), (fun h => absurd h (by decide +kernel))⟩ (fun hHeld => ?_)
   replace hHB := hHeld.1
   dsimp only at hHB
   clear hHeld hK K
   try simp only [Act.put, lay4]
   refine g_tb (i := 18) ⟨hHB, (fun h => absurd h (by decide +kernel))⟩ ?_; apply Exists.intro; refine ⟨fun wq hq => ?_, ?_⟩; (focus ((try dsimp only at hq); go_simp; (first | done | with_reducible rfl | fail)))
   refine g_tb (i := 19) ⟨hHB, (fun h => absurd h (by decide +kernel))⟩ ?_; apply Exists.intro; refine ⟨fun wq hq => ?_, ?_⟩; (focus ((try dsimp only at hq); go_simp; (first | done | with_reducible rfl | fail)))
   try simp only [Act.put, lay4]
   refine g_ready (rs := [20]) (by kernel_rfl) (by simp) ?_
   refine AllReadyG.cons (by simp only [ops3]; rfl) (fun K hK => ?_) AllReadyG.nil
   go_simp
   refine hK.out _ _ ⟨(by (show ((wB.setCell ⟨bt, 0, none⟩ (.slice a4 (N + 1) c4)).setCell ⟨bt, 1, none⟩ (.slice a5 (N + 1) c5)).frozen? ⟨bt, 0, none⟩ = false ∧ ((wB.setCell ⟨bt, 0, none⟩ (.slice a4 (N + 1) c4)).setCell ⟨bt, 1, none⟩ (.slice a5 (N + 1) c5)).frozen? ⟨bt, 1, none⟩ = false); exact ⟨by rw [World.frozen?_setCell]; exact hHB.1, by rw [World.frozen?_setCell]; exact hHB.2⟩), (fun h => absurd h (by decide +kernel))⟩ (fun hHeld => ?_)
   replace hHB := hHeld.1
   dsimp only at hHB
   clear hHeld hK K
   try simp only [Act.put, lay4]
   refine g_done (by kernel_rfl) ?_ _
   clear hHB hHC hC1
   have hbox : Box ((wB.setCell ⟨bt, 0, none⟩ (.slice a4 (N + 1) c4)).setCell ⟨bt, 1, none⟩ (.slice a5 (N + 1) c5)) w.heap.size [.int .i64 0, .int .i64 0, .string ⟨#[]⟩, .slice none 0 0] := by
    have hx : Box _ w.heap.size _ := HB1.out.2.ext ((bel1' w1 (.cells #[.int .i64 0, .int .i64 0, .string ⟨#[]⟩, .slice none 0 0] 54)).drew)
    exact hx.block (HBX.out.1 _ (Nat.le_refl _) hx.lt) (Nat.lt_of_lt_of_le hx.lt HBX.out.2)
   have hc0 : ((wB.setCell ⟨bt, 0, none⟩ (.slice a4 (N + 1) c4)).setCell ⟨bt, 1, none⟩ (.slice a5 (N + 1) c5)).cell? ⟨bt, 0, none⟩ = some (.slice a4 (N + 1) c4) := by
    rw [World.cell?_setCell_other]
    ·exact css HC0.out
    ·intro e; injection e with _ e _; cases e
   obtain ⟨wS, eS⟩ : ∃ wS, (wB.setCell ⟨bt, 0, none⟩ (.slice a4 (N + 1) c4)).setCell ⟨bt, 1, none⟩ (.slice a5 (N + 1) c5) = wS := ⟨_, rfl⟩
   rw [eS] at hbox hc0 HQ
   rw [eS]
   clear eS HBX
   obtain ⟨x0, x1, x2, x3, xf⟩ := hbox.four
   have HEND := Lib.hid (show ∀ u0 u1 u2 u3, IsR V F' (set4 wS w.heap.size u0 u1 u2 u3) (.pointer (some ⟨bt, 0, none⟩)) (N + 1) R ∧ Touch F w (set4 wS w.heap.size u0 u1 u2 u3) ∧ ∀ k ∈ F', k ∈ F ∨ w.heap.size ≤ k from fun u0 u1 u2 u3 => by
    have ht : Touch [w.heap.size] wS (set4 wS w.heap.size u0 u1 u2 u3) := ⟨rfl, rfl, rfl, Nat.le_of_eq (set4_size _ _ _ _ _ _).symm, fun j hj hn => set4_other _ _ _ _ _ _ j (by simpa using hn)⟩
    have hx1 : w.heap.size < (w1.alloc (.cells #[.int .i64 0, .int .i64 0, .string ⟨#[]⟩, .slice none 0 0] 54)).drew.heap.size := by have := HZ1.out; show _ < (w1.alloc (.cells #[.int .i64 0, .int .i64 0, .string ⟨#[]⟩, .slice none 0 0] 54)).heap.size; simp; omega
    have hFr : ∀ k ∈ [w.heap.size], ¬ k ∈ F' := fun k hk hm => by
     simp at hk
     subst hk
     rcases HQ.out.2.2 _ hm with h | h
     ·have := HLT.out _ h; omega
     ·exact absurd hx1 (Nat.not_lt.2 h)
    exact ⟨HQ.out.1.touch ht hFr (Blind.new HSEE.out.1 (fun k hk => by simp at hk; omega)), HQ.out.2.1.four (Nat.le_refl _) _ _ _ _, fun k hk => (HQ.out.2.2 k hk).imp id (fun h => Nat.le_of_lt (Nat.lt_of_lt_of_le hx1 h))⟩)
   clear hbox
   go_wp2
   refine bodyPost_ret (v := .tuple #[.agg #[.int .i64 0, .int .i64 N, .string ⟨#[]⟩, .slice none 0 0], .bool true]) (by rw [results_cell_tmp rfl]; go_simp) rfl ?_
   obtain ⟨q1, q2, q3⟩ := HEND.out (.int .i64 0) (.int .i64 N) (.string ⟨#[]⟩) (.slice none 0 0)
   first | exact ⟨F', rfl, q1, q2, q3⟩ | exact ⟨rfl, F', q1, q2, q3⟩
  ·go_simp
   refine hK.out _ _ ⟨⟨((bel1' _ _).frozen (p := ⟨bt, 0, none⟩) (World.block_lt_of_cell? _ _ hHC.1)).trans hHB.1, ((bel1' _ _).frozen (p := ⟨bt, 1, none⟩) (World.block_lt_of_cell? _ _ hHC.2)).trans hHB.2⟩, fun _ => ⟨cell_later (bel1' _ _) hHC.1, cell_later (bel1' _ _) hHC.2⟩⟩ (fun hHeld => ?_)
   replace hHB := hHeld.1
   replace hHC := hHeld.2 (by kernel_rfl)
   dsimp only at hHB hHC
   clear hHeld hK K
   try simp only [Act.put, lay4]
   refine g_ready (rs := [8]) (by kernel_rfl) (by simp) ?_
   refine AllReadyG.cons (by simp only [ops3]; rfl) (fun K hK => ?_) AllReadyG.nil
   have HX1 := Lib.hid (show Below w.heap.size w ((w1.alloc (.cells #[.int .i64 0, .int .i64 0, .string ⟨#[]⟩, .slice none 0 0] 54)).alloc (.cells #[.bool false] 4)).drew from (Ext.trans' (Ext.trans' HB1.out.1 (bel1' _ _)) (bel1' _ _)).drew)
   refine step_append_k (by rfl) _ _ 52 (by rfl) 0 54 i0 (.agg #[.int .i64 0, .int .i64 0, .string ⟨#[]⟩, .slice none 0 0]) 4 56 Try.underlying52 hi0 hz0 hs0 (by decide) hb0 rfl (.slice a1 N c1) N xs (by rfl) (HR1.out _ HX1.out) (some ⟨w.heap.size + 1, 0, none⟩) 1 1 [.int .i64 0, .int .i64 0, .string ⟨#[]⟩, .slice none 0 0] (by rfl) (by rfl) (Or.inr ⟨_, rfl, fun j u hu => cell_later (bel1' _ _).drew (by rw [← HZ1.out]; exact cell_new w1 #[.int .i64 0, .int .i64 0, .string ⟨#[]⟩, .slice none 0 0] 54 j u hu)⟩) (by simp [Value.oneCell']) (by unfold maxLen; omega) (by omega) (Nat.zero_le _) (N + 1) (xs ++ [.int .i64 0, .int .i64 0, .string ⟨#[]⟩, .slice none 0 0]) rfl rfl ?_
   intro a4 c4 wA hownA hgrowA hatA
   obtain ⟨_, mc, mf⟩ := HMID.out _ wA wA HX1.out hgrowA (Below.refl _ _)
   have HGA := Lib.hid (And.intro hgrowA (And.intro hatA hownA))
   refine hK.out _ _ ⟨⟨mf 0, mf 1⟩, fun _ => ⟨(mc 0).trans HD0.out.1, (mc 1).trans HD0.out.2⟩⟩ (fun hHeld => ?_)
   replace hHB := hHeld.1
   replace hHC := hHeld.2 (by kernel_rfl)
   dsimp only at hHB hHC
   clear hHeld hK K
   try simp only [Act.put, lay4]
   clear mc mf hgrowA hatA hownA
   refine g_ready (rs := [14]) (by kernel_rfl) (by simp) ?_
   refine AllReadyG.cons (by simp only [ops3]; rfl) (fun K hK => ?_) AllReadyG.nil
   have HX2 := Lib.hid (Below.refl wA.heap.size wA)
   refine step_append_k (by rfl) _ _ 60 (by rfl) 0 4 j0 (.bool false) 1 1 Try.underlying60 hj0 hy0 hy1 (by decide) hy2 rfl (.slice a2 N c2) N ys (by rfl) (HMID.out _ wA _ HX1.out HGA.out.1 HX2.out).1 (some ⟨w.heap.size + 1 + 1, 0, none⟩) 1 1 [.bool false] (by rfl) (by rfl) (Or.inr ⟨_, rfl, fun j u hu => (World.cell?_of_block (a := (⟨w.heap.size + 1 + 1, 0, none⟩ : Addr).add j) (by rw [add_plain]; exact HGA.out.1.block (w.heap.size + 1 + 1) (by show w.heap.size + 1 + 1 < (((w1.alloc (.cells #[.int .i64 0, .int .i64 0, .string ⟨#[]⟩, .slice none 0 0] 54)).alloc (.cells #[.bool false] 4))).heap.size; have := HZ1.out; first | (simp; omega) | simp [*] | simp) (fun e => by have := HO1.out _ (by first | exact Or.inl e | exact Or.inr e); omega))).trans (show (((w1.alloc (.cells #[.int .i64 0, .int .i64 0, .string ⟨#[]⟩, .slice none 0 0] 54)).alloc (.cells #[.bool false] 4))).cell? ((⟨w.heap.size + 1 + 1, 0, none⟩ : Addr).add j) = some u from by have h := cell_new (w1.alloc (.cells #[.int .i64 0, .int .i64 0, .string ⟨#[]⟩, .slice none 0 0] 54)) #[.bool false] 4 j u hu; rw [show (w1.alloc (.cells #[.int .i64 0, .int .i64 0, .string ⟨#[]⟩, .slice none 0 0] 54)).heap.size = w.heap.size + 1 + 1 by simp [HZ1.out]] at h; exact h)⟩) (by simp [Value.oneCell']) (by unfold maxLen; omega) (by omega) (Nat.zero_le _) (N + 1) (ys ++ [.bool false]) rfl rfl ?_
   intro a5 c5 wB hownB hgrowB hatB
   obtain ⟨mc, mf, F', q1, q2, q3, q4, q5⟩ := HGROW.out _ wA _ wB (.slice a4 (N + 1) c4) (.slice a5 (N + 1) c5) HX1.out HGA.out.1 HGA.out.2.1 HGA.out.2.2 HX2.out hgrowB hatB hownB
   have HQ := Lib.hid (And.intro q1 (And.intro q2 q3))
   have HBX := Lib.hid (And.intro q4 q5)
   refine hK.out _ _ ⟨⟨mf 0, mf 1⟩, fun _ => ⟨(mc 0).trans HD0.out.1, (mc 1).trans HD0.out.2⟩⟩ (fun hHeld => ?_)
   replace hHB := hHeld.1
   replace hHC := hHeld.2 (by kernel_rfl)
   dsimp only at hHB hHC
   clear hHeld hK K
   try simp only [Act.put, lay4]
   clear mc mf q1 q2 q3 q4 q5 hownB hgrowB hatB
   refine g_tb (i := 15) ⟨hHB, fun _ => hHC⟩ ?_; apply Exists.intro; refine ⟨fun wq hq => ?_, ?_⟩; (focus ((try dsimp only at hq); go_simp; (first | done | with_reducible rfl | fail)))
   refine g_tb (i := 16) ⟨hHB, fun _ => hHC⟩ ?_; apply Exists.intro; refine ⟨fun wq hq => ?_, ?_⟩; (focus ((try dsimp only at hq); go_simp; (first | done | with_reducible rfl | fail)))
   try simp only [Act.put, lay4]
   refine g_ready (rs := [17]) (by kernel_rfl) (by simp) ?_
   refine AllReadyG.cons (by simp only [ops3]; rfl) (fun K hK => ?_) AllReadyG.nil
   have HC0 := Lib.hid hHC.1
   have hC1 : (wB.setCell ⟨bt, 0, none⟩ (.slice a4 (N + 1) c4)).cell? ⟨bt, 1, none⟩ = some (.slice a2 N c2) := by rw [World.cell?_setCell_other]; exact hHC.2; intro e; injection e with _ e _; cases e
   go_simp
   refine hK.out _ _ ⟨(by (show (wB.setCell ⟨bt, 0, none⟩ (.slice a4 (N + 1) c4)).frozen? ⟨bt, 0, none⟩ = false ∧ (wB.setCell ⟨bt, 0, none⟩ (.slice a4 (N + 1) c4)).frozen? ⟨bt, 1, none⟩ = false); exact ⟨by rw [World.frozen?_setCell]; exact hHB.1, by rw [World.frozen?_setCell]; exact hHB.2⟩), (fun h => absurd h (by decide +kernel))⟩ (fun hHeld => ?_)
   replace hHB := hHeld.1
   dsimp only at hHB
   clear hHeld hK K
   try simp only [Act.put, lay4]
   refine g_tb (i := 18) ⟨hHB, (fun h => absurd h (by decide +kernel))⟩ ?_; apply Exists.intro; refine ⟨fun wq hq => ?_, ?_⟩; (focus ((try dsimp only at hq); go_simp; (first | done | with_reducible rfl | fail)))
   refine g_tb (i := 19) ⟨hHB, (fun h => absurd h (by decide +kernel))⟩ ?_; apply Exists.intro; refine ⟨fun wq hq => ?_, ?_⟩; (focus ((try dsimp only at hq); go_simp; (first | done | with_reducible rfl | fail)))
   try simp only [Act.put, lay4]
   refine g_ready (rs := [20]) (by kernel_rfl) (by simp) ?_
   refine AllReadyG.cons (by simp only [ops3]; rfl) (fun K hK => ?_) AllReadyG.nil
   go_simp
   refine hK.out _ _ ⟨(by (show ((wB.setCell ⟨bt, 0, none⟩ (.slice a4 (N + 1) c4)).setCell ⟨bt, 1, none⟩ (.slice a5 (N + 1) c5)).frozen? ⟨bt, 0, none⟩ = false ∧ ((wB.setCell ⟨bt, 0, none⟩ (.slice a4 (N + 1) c4)).setCell ⟨bt, 1, none⟩ (.slice a5 (N + 1) c5)).frozen? ⟨bt, 1, none⟩ = false); exact ⟨by rw [World.frozen?_setCell]; exact hHB.1, by rw [World.frozen?_setCell]; exact hHB.2⟩), (fun h => absurd h (by decide +kernel))⟩ (fun hHeld => ?_)
   replace hHB := hHeld.1
   dsimp only at hHB
   clear hHeld hK K
   try simp only [Act.put, lay4]
   refine g_done (by kernel_rfl) ?_ _
   clear hHB hHC hC1
   have hbox : Box ((wB.setCell ⟨bt, 0, none⟩ (.slice a4 (N + 1) c4)).setCell ⟨bt, 1, none⟩ (.slice a5 (N + 1) c5)) w.heap.size [.int .i64 0, .int .i64 0, .string ⟨#[]⟩, .slice none 0 0] := by
    have hx : Box _ w.heap.size _ := HB1.out.2.ext ((Ext.trans' (bel1' w1 (.cells #[.int .i64 0, .int .i64 0, .string ⟨#[]⟩, .slice none 0 0] 54)) (bel1' _ (.cells #[.bool false] 4))).drew)
    exact hx.block (HBX.out.1 _ (Nat.le_refl _) hx.lt) (Nat.lt_of_lt_of_le hx.lt HBX.out.2)
   have hc0 : ((wB.setCell ⟨bt, 0, none⟩ (.slice a4 (N + 1) c4)).setCell ⟨bt, 1, none⟩ (.slice a5 (N + 1) c5)).cell? ⟨bt, 0, none⟩ = some (.slice a4 (N + 1) c4) := by
    rw [World.cell?_setCell_other]
    ·exact css HC0.out
    ·intro e; injection e with _ e _; cases e
   obtain ⟨wS, eS⟩ : ∃ wS, (wB.setCell ⟨bt, 0, none⟩ (.slice a4 (N + 1) c4)).setCell ⟨bt, 1, none⟩ (.slice a5 (N + 1) c5) = wS := ⟨_, rfl⟩
   rw [eS] at hbox hc0 HQ
   rw [eS]
   clear eS HBX
   obtain ⟨x0, x1, x2, x3, xf⟩ := hbox.four
   have HEND := Lib.hid (show ∀ u0 u1 u2 u3, IsR V F' (set4 wS w.heap.size u0 u1 u2 u3) (.pointer (some ⟨bt, 0, none⟩)) (N + 1) R ∧ Touch F w (set4 wS w.heap.size u0 u1 u2 u3) ∧ ∀ k ∈ F', k ∈ F ∨ w.heap.size ≤ k from fun u0 u1 u2 u3 => by
    have ht : Touch [w.heap.size] wS (set4 wS w.heap.size u0 u1 u2 u3) := ⟨rfl, rfl, rfl, Nat.le_of_eq (set4_size _ _ _ _ _ _).symm, fun j hj hn => set4_other _ _ _ _ _ _ j (by simpa using hn)⟩
    have hx1 : w.heap.size < ((w1.alloc (.cells #[.int .i64 0, .int .i64 0, .string ⟨#[]⟩, .slice none 0 0] 54)).alloc (.cells #[.bool false] 4)).drew.heap.size := by have := HZ1.out; show _ < ((w1.alloc (.cells #[.int .i64 0, .int .i64 0, .string ⟨#[]⟩, .slice none 0 0] 54)).alloc (.cells #[.bool false] 4)).heap.size; simp; omega
    have hFr : ∀ k ∈ [w.heap.size], ¬ k ∈ F' := fun k hk hm => by
     simp at hk
     subst hk
     rcases HQ.out.2.2 _ hm with h | h
     ·have := HLT.out _ h; omega
     ·exact absurd hx1 (Nat.not_lt.2 h)
    exact ⟨HQ.out.1.touch ht hFr (Blind.new HSEE.out.1 (fun k hk => by simp at hk; omega)), HQ.out.2.1.four (Nat.le_refl _) _ _ _ _, fun k hk => (HQ.out.2.2 k hk).imp id (fun h => Nat.le_of_lt (Nat.lt_of_lt_of_le hx1 h))⟩)
   clear hbox
   go_wp2
   refine bodyPost_ret (v := .tuple #[.agg #[.int .i64 0, .int .i64 N, .string ⟨#[]⟩, .slice none 0 0], .bool true]) (by rw [results_cell_tmp rfl]; go_simp) rfl ?_
   obtain ⟨q1, q2, q3⟩ := HEND.out (.int .i64 0) (.int .i64 N) (.string ⟨#[]⟩) (.slice none 0 0)
   first | exact ⟨F', rfl, q1, q2, q3⟩ | exact ⟨rfl, F', q1, q2, q3⟩
 ·go_simp
  refine hK.out _ _ ⟨⟨((bel1' _ _).frozen (p := ⟨bt, 0, none⟩) (World.block_lt_of_cell? _ _ hHC.1)).trans hHB.1, ((bel1' _ _).frozen (p := ⟨bt, 1, none⟩) (World.block_lt_of_cell? _ _ hHC.2)).trans hHB.2⟩, fun _ => ⟨cell_later (bel1' _ _) hHC.1, cell_later (bel1' _ _) hHC.2⟩⟩ (fun hHeld => ?_)
  replace hHB := hHeld.1
  replace hHC := hHeld.2 (by kernel_rfl)
  dsimp only at hHB hHC
  clear hHeld hK K
  try simp only [Act.put, lay4]
  refine g_ready (rs := [7]) (by kernel_rfl) (by simp) ?_
  refine AllReadyG.cons (by simp only [ops3]; rfl) (fun K hK => ?_) AllReadyG.nil
  go_simp
  refine hK.out _ _ ⟨⟨((bel1' _ _).frozen (p := ⟨bt, 0, none⟩) (World.block_lt_of_cell? _ _ hHC.1)).trans hHB.1, ((bel1' _ _).frozen (p := ⟨bt, 1, none⟩) (World.block_lt_of_cell? _ _ hHC.2)).trans hHB.2⟩, fun _ => ⟨cell_later (bel1' _ _) hHC.1, cell_later (bel1' _ _) hHC.2⟩⟩ (fun hHeld => ?_)
  replace hHB := hHeld.1
  replace hHC := hHeld.2 (by kernel_rfl)
  dsimp only at hHB hHC
  clear hHeld hK K
  try simp only [Act.put, lay4]
  refine g_ready (rs := [8]) (by kernel_rfl) (by simp) ?_
  refine AllReadyG.cons (by simp only [ops3]; rfl) (fun K hK => ?_) AllReadyG.nil
  have HX1 := Lib.hid (show Below w.heap.size w ((w1.alloc (.cells #[.bool false] 4)).alloc (.cells #[.int .i64 0, .int .i64 0, .string ⟨#[]⟩, .slice none 0 0] 54)).drew from (Ext.trans' (Ext.trans' HB1.out.1 (bel1' _ _)) (bel1' _ _)).drew)
  refine step_append_k (by rfl) _ _ 52 (by rfl) 0 54 i0 (.agg #[.int .i64 0, .int .i64 0, .string ⟨#[]⟩, .slice none 0 0]) 4 56 Try.underlying52 hi0 hz0 hs0 (by decide) hb0 rfl (.slice a1 N c1) N xs (by rfl) (HR1.out _ HX1.out) (some ⟨w.heap.size + 1 + 1, 0, none⟩) 1 1 [.int .i64 0, .int .i64 0, .string ⟨#[]⟩, .slice none 0 0] (by rfl) (by rfl) (Or.inr ⟨_, rfl, fun j u hu => (by have h := cell_new (w1.alloc (.cells #[.bool false] 4)) #[.int .i64 0, .int .i64 0, .string ⟨#[]⟩, .slice none 0 0] 54 j u hu; rw [show (w1.alloc (.cells #[.bool false] 4)).heap.size = w.heap.size + 1 + 1 by simp [HZ1.out]] at h; exact h)⟩) (by simp [Value.oneCell']) (by unfold maxLen; omega) (by omega) (Nat.zero_le _) (N + 1) (xs ++ [.int .i64 0, .int .i64 0, .string ⟨#[]⟩, .slice none 0 0]) rfl rfl ?_
  intro a4 c4 wA hownA hgrowA hatA
  obtain ⟨_, mc, mf⟩ := HMID.out _ wA wA HX1.out hgrowA (Below.refl _ _)
  have HGA := Lib.hid (And.intro hgrowA (And.intro hatA hownA))
  refine hK.out _ _ ⟨⟨mf 0, mf 1⟩, fun _ => ⟨(mc 0).trans HD0.out.1, (mc 1).trans HD0.out.2⟩⟩ (fun hHeld => ?_)
  replace hHB := hHeld.1
  replace hHC := hHeld.2 (by kernel_rfl)
  dsimp only at hHB hHC
  clear hHeld hK K
  try simp only [Act.put, lay4]
  clear mc mf hgrowA hatA hownA
  refine g_ready (rs := [14]) (by kernel_rfl) (by simp) ?_
  refine AllReadyG.cons (by simp only [ops3]; rfl) (fun K hK => ?_) AllReadyG.nil
  have HX2 := Lib.hid (Below.refl wA.heap.size wA)
  refine step_append_k (by rfl) _ _ 60 (by rfl) 0 4 j0 (.bool false) 1 1 Try.underlying60 hj0 hy0 hy1 (by decide) hy2 rfl (.slice a2 N c2) N ys (by rfl) (HMID.out _ wA _ HX1.out HGA.out.1 HX2.out).1 (some ⟨w.heap.size + 1, 0, none⟩) 1 1 [.bool false] (by rfl) (by rfl) (Or.inr ⟨_, rfl, fun j u hu => (World.cell?_of_block (a := (⟨w.heap.size + 1, 0, none⟩ : Addr).add j) (by rw [add_plain]; exact HGA.out.1.block (w.heap.size + 1) (by show w.heap.size + 1 < (((w1.alloc (.cells #[.bool false] 4)).alloc (.cells #[.int .i64 0, .int .i64 0, .string ⟨#[]⟩, .slice none 0 0] 54))).heap.size; have := HZ1.out; first | (simp; omega) | simp [*] | simp) (fun e => by have := HO1.out _ (by first | exact Or.inl e | exact Or.inr e); omega))).trans (cell_later (bel1' (w1.alloc (.cells #[.bool false] 4)) (.cells #[.int .i64 0, .int .i64 0, .string ⟨#[]⟩, .slice none 0 0] 54)).drew (by rw [← HZ1.out]; exact cell_new w1 #[.bool false] 4 j u hu))⟩) (by simp [Value.oneCell']) (by unfold maxLen; omega) (by omega) (Nat.zero_le _) (N + 1) (ys ++ [.bool false]) rfl rfl ?_
  intro a5 c5 wB hownB hgrowB hatB
  obtain ⟨mc, mf, F', q1, q2, q3, q4, q5⟩ := HGROW.out _ wA _ wB (.slice a4 (N + 1) c4) (.slice a5 (N + 1) c5) HX1.out HGA.out.1 HGA.out.2.1 HGA.out.2.2 HX2.out hgrowB hatB hownB
  have HQ := Lib.hid (And.intro q1 (And.intro q2 q3))
  have HBX := Lib.hid (And.intro q4 q5)
  refine hK.out _ _ ⟨⟨mf 0, mf 1⟩, fun _ => ⟨(mc 0).trans HD0.out.1, (mc 1).trans HD0.out.2⟩⟩ (fun hHeld => ?_)
  replace hHB := hHeld.1
  replace hHC := hHeld.2 (by kernel_rfl)
  dsimp only at hHB hHC
  clear hHeld hK K
  try simp only [Act.put, lay4]
  clear mc mf q1 q2 q3 q4 q5 hownB hgrowB hatB
  refine g_tb (i := 15) ⟨hHB, fun _ => hHC⟩ ?_; apply Exists.intro; refine ⟨fun wq hq => ?_, ?_⟩; (focus ((try dsimp only at hq); go_simp; (first | done | with_reducible rfl | fail)))
  refine g_tb (i := 16) ⟨hHB, fun _ => hHC⟩ ?_; apply Exists.intro; refine ⟨fun wq hq => ?_, ?_⟩; (focus ((try dsimp only at hq); go_simp; (first | done | with_reducible rfl | fail)))
  try simp only [Act.put, lay4]
  refine g_ready (rs := [17]) (by kernel_rfl) (by simp) ?_
  refine AllReadyG.cons (by simp only [ops3]; rfl) (fun K hK => ?_) AllReadyG.nil
  have HC0 := Lib.hid hHC.1
  have hC1 : (wB.setCell ⟨bt, 0, none⟩ (.slice a4 (N + 1) c4)).cell? ⟨bt, 1, none⟩ = some (.slice a2 N c2) := by rw [World.cell?_setCell_other]; exact hHC.2; intro e; injection e with _ e _; cases e
  go_simp
  refine hK.out _ _ ⟨(by (show (wB.setCell ⟨bt, 0, none⟩ (.slice a4 (N + 1) c4)).frozen? ⟨bt, 0, none⟩ = false ∧ (wB.setCell ⟨bt, 0, none⟩ (.slice a4 (N + 1) c4)).frozen? ⟨bt, 1, none⟩ = false); exact ⟨by rw [World.frozen?_setCell]; exact hHB.1, by rw [World.frozen?_setCell]; exact hHB.2⟩), (fun h => absurd h (by decide +kernel))⟩ (fun hHeld => ?_)
  replace hHB := hHeld.1
  dsimp only at hHB
  clear hHeld hK K
  try simp only [Act.put, lay4]
  refine g_tb (i := 18) ⟨hHB, (fun h => absurd h (by decide +kernel))⟩ ?_; apply Exists.intro; refine ⟨fun wq hq => ?_, ?_⟩; (focus ((try dsimp only at hq); go_simp; (first | done | with_reducible rfl | fail)))
  refine g_tb (i := 19) ⟨hHB, (fun h => absurd h (by decide +kernel))⟩ ?_; apply Exists.intro; refine ⟨fun wq hq => ?_, ?_⟩; (focus ((try dsimp only at hq); go_simp; (first | done | with_reducible rfl | fail)))
  try simp only [Act.put, lay4]
  refine g_ready (rs := [20]) (by kernel_rfl) (by simp) ?_
  refine AllReadyG.cons (by simp only [ops3]; rfl) (fun K hK => ?_) AllReadyG.nil
  go_simp
  refine hK.out _ _ ⟨(by (show ((wB.setCell ⟨bt, 0, none⟩ (.slice a4 (N + 1) c4)).setCell ⟨bt, 1, none⟩ (.slice a5 (N + 1) c5)).frozen? ⟨bt, 0, none⟩ = false ∧ ((wB.setCell ⟨bt, 0, none⟩ (.slice a4 (N + 1) c4)).setCell ⟨bt, 1, none⟩ (.slice a5 (N + 1) c5)).frozen? ⟨bt, 1, none⟩ = false); exact ⟨by rw [World.frozen?_setCell]; exact hHB.1, by rw [World.frozen?_setCell]; exact hHB.2⟩), (fun h => absurd h (by decide +kernel))⟩ (fun hHeld => ?_)
  replace hHB := hHeld.1
  dsimp only at hHB
  clear hHeld hK K
  try simp only [Act.put, lay4]
  refine g_done (by kernel_rfl) ?_ _
  clear hHB hHC hC1
  have hbox : Box ((wB.setCell ⟨bt, 0, none⟩ (.slice a4 (N + 1) c4)).setCell ⟨bt, 1, none⟩ (.slice a5 (N + 1) c5)) w.heap.size [.int .i64 0, .int .i64 0, .string ⟨#[]⟩, .slice none 0 0] := by
   have hx : Box _ w.heap.size _ := HB1.out.2.ext ((Ext.trans' (bel1' w1 (.cells #[.bool false] 4)) (bel1' _ (.cells #[.int .i64 0, .int .i64 0, .string ⟨#[]⟩, .slice none 0 0] 54))).drew)
   exact hx.block (HBX.out.1 _ (Nat.le_refl _) hx.lt) (Nat.lt_of_lt_of_le hx.lt HBX.out.2)
  have hc0 : ((wB.setCell ⟨bt, 0, none⟩ (.slice a4 (N + 1) c4)).setCell ⟨bt, 1, none⟩ (.slice a5 (N + 1) c5)).cell? ⟨bt, 0, none⟩ = some (.slice a4 (N + 1) c4) := by
   rw [World.cell?_setCell_other]
   ·exact css HC0.out
   ·intro e; injection e with _ e _; cases e
  obtain ⟨wS, eS⟩ : ∃ wS, (wB.setCell ⟨bt, 0, none⟩ (.slice a4 (N + 1) c4)).setCell ⟨bt, 1, none⟩ (.slice a5 (N + 1) c5) = wS := ⟨_, rfl⟩
  rw [eS] at hbox hc0 HQ
  rw [eS]
  clear eS HBX
  obtain ⟨x0, x1, x2, x3, xf⟩ := hbox.four
  have HEND := Lib.hid (show ∀ u0 u1 u2 u3, IsR V F' (set4 wS w.heap.size u0 u1 u2 u3) (.pointer (some ⟨bt, 0, none⟩)) (N + 1) R ∧ Touch F w (set4 wS w.heap.size u0 u1 u2 u3) ∧ ∀ k ∈ F', k ∈ F ∨ w.heap.size ≤ k from fun u0 u1 u2 u3 => by
   have ht : Touch [w.heap.size] wS (set4 wS w.heap.size u0 u1 u2 u3) := ⟨rfl, rfl, rfl, Nat.le_of_eq (set4_size _ _ _ _ _ _).symm, fun j hj hn => set4_other _ _ _ _ _ _ j (by simpa using hn)⟩
   have hx1 : w.heap.size < ((w1.alloc (.cells #[.bool false] 4)).alloc (.cells #[.int .i64 0, .int .i64 0, .string ⟨#[]⟩, .slice none 0 0] 54)).drew.heap.size := by have := HZ1.out; show _ < ((w1.alloc (.cells #[.bool false] 4)).alloc (.cells #[.int .i64 0, .int .i64 0, .string ⟨#[]⟩, .slice none 0 0] 54)).heap.size; simp; omega
   have hFr : ∀ k ∈ [w.heap.size], ¬ k ∈ F' := fun k hk hm => by
    simp at hk
    subst hk
    rcases HQ.out.2.2 _ hm with h | h
    ·have := HLT.out _ h; omega
    ·exact absurd hx1 (Nat.not_lt.2 h)
   exact ⟨HQ.out.1.touch ht hFr (Blind.new HSEE.out.1 (fun k hk => by simp at hk; omega)), HQ.out.2.1.four (Nat.le_refl _) _ _ _ _, fun k hk => (HQ.out.2.2 k hk).imp id (fun h => Nat.le_of_lt (Nat.lt_of_lt_of_le hx1 h))⟩)
  clear hbox
  go_wp2
  refine bodyPost_ret (v := .tuple #[.agg #[.int .i64 0, .int .i64 N, .string ⟨#[]⟩, .slice none 0 0], .bool true]) (by rw [results_cell_tmp rfl]; go_simp) rfl ?_
  obtain ⟨q1, q2, q3⟩ := HEND.out (.int .i64 0) (.int .i64 N) (.string ⟨#[]⟩) (.slice none 0 0)
  first | exact ⟨F', rfl, q1, q2, q3⟩ | exact ⟨rfl, F', q1, q2, q3⟩
end
end Go.Proofs.Ytchbbaehdcmcfaa
/- Stage 11's laws: both. -/
namespace Go.Proofs.Ytchbbaehdcmcfaa
open Go.RowKit
set_option linter.unusedVariables false
section
variable {V w : World}
theorem IsR.new {w1 w2 : World} (hs : Stays V w1) (e : w1.alloc (.cells #[.slice none 0 0, .slice none 0 0, .slice none 0 0] 62) = w2) : IsR V [w1.heap.size] w2 (.pointer (some ⟨w1.heap.size, 0, none⟩)) 0 [] := by
 have hb : Below w1.heap.size w1 w2 := by rw [← e]; exact bel1' _ _
 refine ⟨w1.heap.size, .slice none 0 0, .slice none 0 0, .slice none 0 0, [], [], rfl, rfl, by simp, by rw [← e]; exact heap_alloc_new w1 _, rfl, rfl, World.ownsRow_nil _ _ _ _, World.ownsRow_nil _ _ _ _, World.ownsRow_nil _ _ _ _, ⟨fun i hi => by omega, fun i t ht => by cases ht⟩, trivial, by omega, hs.later hb, Blind.new hs (fun k hk => by simp at hk; omega)⟩
def BothI (V w : World) (p q : Value) (i : Nat) (wr : World) : Prop :=
 ∃ F F2, IsB V F wr p i [] ∧ IsR V F2 wr q i [] ∧ (∀ k ∈ F, w.heap.size ≤ k) ∧ (∀ k ∈ F2, w.heap.size ≤ k) ∧ (∀ k ∈ F, ¬ k ∈ F2) ∧ Below w.heap.size w wr
end
end Go.Proofs.Ytchbbaehdcmcfaa
