/- OpKnown: chapter 5's plain operators, and what may not be. No condition. -/
import Derived.Test.YthalpdjnclfleaaOpW
import Derived.Test.YthalpdjnclfleaaOpI
import Derived.Test.YthalpdjnclfleaaH
import Derived.Test.YthalpdjnclfleaaRows
namespace Go.Proofs.Ythalpdjnclfleaa
open Go.Shelf Go.RowKit

/-- What stands: cells, lists, all that was there. -/
def Held (W w : World) (fs : List (Nat × Nat × Value)) (ol : List (Value × List O)) : Prop :=
  (∀ f ∈ fs, w.cell? ⟨f.1, f.2.1, none⟩ = some f.2.2) ∧ (∀ p ∈ ol, Ops w p.1 p.2) ∧ Below W.heap.size W w
theorem Held.ext {W w w' : World} {fs : List (Nat × Nat × Value)} {ol : List (Value × List O)} (h : Held W w fs ol) (hb : Below w.heap.size w w') : Held W w' fs ol :=
  ⟨fun f hf => cell_later hb (h.1 f hf), fun p hp => (h.2.1 p hp).ext hb, Ext.trans' h.2.2 hb⟩
theorem Held.cell {W w : World} {fs : List (Nat × Nat × Value)} {ol : List (Value × List O)} (h : Held W w fs ol) {b o : Nat} {v : Value} (hc : w.cell? ⟨b, o, none⟩ = some v) : Held W w ((b, o, v) :: fs) ol :=
  ⟨fun f hf => by rcases List.mem_cons.1 hf with rfl | hf; exact hc; exact h.1 f hf, h.2⟩
theorem Held.ops {W w : World} {fs : List (Nat × Nat × Value)} {ol : List (Value × List O)} (h : Held W w fs ol) {v : Value} {L : List O} (hc : Ops w v L) : Held W w fs ((v, L) :: ol) :=
  ⟨h.1, fun p hp => by rcases List.mem_cons.1 hp with rfl | hp; exact hc; exact h.2.1 p hp, h.2.2⟩
theorem one_at (w : World) (b : Nat) (hb : w.heap.size = b) (o : O) : Ops (w.alloc (.cells #[.string o.n, .string o.k, .int .i64 o.l] 28)) (.slice (some ⟨b, 0, none⟩) 1 1) [o] := by
  subst hb
  exact one_laid w o
theorem add_known {w : World} {v : Value} {xs L : List O} {o : O} {E : Int} (h : Ops w v xs) (he : addB xs o = (L, E)) {m : Nat} (hm : L.length = m) :
    Calls Try.prog 11 #[.agg #[v], oVal o] w fun e w' => ∃ a c, e = .returned (.tuple #[.agg #[.slice a m c], .int .i64 E]) ∧ Ops w' (.slice a m c) L ∧ Below w.heap.size w w' := by
  subst hm
  refine (add_walk h o).mono ?_
  rintro e w' ⟨v', rfl, h1, h2⟩
  rw [he] at h1 ⊢
  obtain ⟨a, c, rfl, _⟩ := h1.form
  exact ⟨a, c, rfl, h1, h2⟩
theorem pre_known {w : World} {v : Value} {xs : List O} (h : Ops w v xs) (n : ByteArray) {x : O} {b : Bool} (he : oneB xs (bl n) 1 = (x, b)) :
    Calls Try.prog 9 #[.agg #[v], .string n] w fun e w' => e = .returned (.tuple #[oVal x, .bool b]) ∧ Below w.heap.size w w' := by
  have := pre_walk h n
  rw [he] at this
  exact this
theorem in_known {w : World} {v : Value} {xs : List O} (h : Ops w v xs) (n : ByteArray) {x : O} {b : Bool} (he : oneB xs (bl n) 2 = (x, b)) :
    Calls Try.prog 10 #[.agg #[v], .string n] w fun e w' => e = .returned (.tuple #[oVal x, .bool b]) ∧ Below w.heap.size w w' := by
  have := in_walk h n
  rw [he] at this
  exact this
theorem ad8 : addB plainB ⟨⟨#[44]⟩, ⟨#[120, 102, 121]⟩, 1000⟩ = ([], 8) := by kernel_rfl
theorem ad10 : addB plainB ⟨⟨#[]⟩, ⟨#[120, 102, 120]⟩, 1⟩ = ([], 1) := by kernel_rfl
theorem ad12 : addB plainB ⟨⟨#[97]⟩, ⟨#[120, 102]⟩, 1⟩ = ([], 1) := by kernel_rfl
theorem ad14 : addB plainB ⟨⟨#[97]⟩, ⟨#[120, 102, 120]⟩, 1201⟩ = ([], 1) := by kernel_rfl
theorem ad16 : addB plainB ⟨⟨#[97]⟩, ⟨#[120, 102, 120]⟩, 0⟩ = ([], 13) := by kernel_rfl
theorem ad18 : addB plainB ⟨⟨#[124]⟩, ⟨#[120, 102, 120]⟩, 5⟩ = ([], 1) := by kernel_rfl
def list20 : List O := (addB plainB ⟨⟨#[43]⟩, ⟨#[120, 102, 121]⟩, 300⟩).1
theorem ad20 : addB plainB ⟨⟨#[43]⟩, ⟨#[120, 102, 121]⟩, 300⟩ = (list20, 0) := Prod.ext rfl (by kernel_rfl)
theorem len20 : list20.length = 35 := by kernel_rfl
def list22 : List O := (addB plainB ⟨⟨#[43]⟩, ⟨#[102, 121]⟩, 200⟩).1
theorem ad22 : addB plainB ⟨⟨#[43]⟩, ⟨#[102, 121]⟩, 200⟩ = (list22, 0) := Prod.ext rfl (by kernel_rfl)
theorem len22 : list22.length = 36 := by kernel_rfl
def list24 : List O := (addB plainB ⟨⟨#[43]⟩, ⟨#[120, 102, 120]⟩, 0⟩).1
theorem ad24 : addB plainB ⟨⟨#[43]⟩, ⟨#[120, 102, 120]⟩, 0⟩ = (list24, 0) := Prod.ext rfl (by kernel_rfl)
theorem len24 : list24.length = 34 := by kernel_rfl
theorem ad26 : addB [default] ⟨⟨#[97]⟩, ⟨#[120, 102, 120]⟩, 5⟩ = ([], 1) := by kernel_rfl
theorem pr2 : oneB plainB (bl ⟨#[45]⟩) 1 = (⟨⟨#[45]⟩, ⟨#[102, 121]⟩, 200⟩, true) := by kernel_rfl
theorem pr4 : oneB plainB (bl ⟨#[42]⟩) 1 = (⟨⟨#[]⟩, ⟨#[]⟩, 0⟩, false) := by kernel_rfl
theorem in6 : oneB plainB (bl ⟨#[92, 43]⟩) 2 = (⟨⟨#[]⟩, ⟨#[]⟩, 0⟩, false) := by kernel_rfl
theorem in32 : oneB list20 (bl ⟨#[43]⟩) 2 = (⟨⟨#[43]⟩, ⟨#[120, 102, 121]⟩, 300⟩, true) := by kernel_rfl
theorem sd1 : sidesB (bl ⟨#[102, 120]⟩) 10 = (0, 9) := by
  show (0, wrap64 (10 - 1)) = _
  rw [IntWalk.wrap64_in (10 - 1) (by omega)]
  rfl
theorem sd2 : sidesB (bl ⟨#[63]⟩) 10 = (0, 0) := by kernel_rfl
theorem sides_known (n k : ByteArray) (l : Int) {x y : Int} (he : sidesB (bl k) l = (x, y)) (w : World) :
    Calls Try.prog 12 #[.agg #[.string n, .string k, .int .i64 l]] w fun e w' => e = .returned (.tuple #[.int .i64 x, .int .i64 y]) ∧ Below w.heap.size w w' := by
  have := sides_walk n k l w
  rw [he] at this
  exact this

set_option maxRecDepth 100000
set_option maxHeartbeats 4000000 in
theorem opknown_walk (W : World) : Calls Try.prog 3 #[] W fun e w' => IsBool W true e w' := by
  go_enter Try.func3, Try.ntmps3
  (go_wp2_with fail; go_fit (awake_walk _); rintro e w1 ⟨rfl, hb1⟩)
  have HB1 := Lib.hid hb1
  clear hb1
  (go_wp2_with fail; go_fit (plain_walk _); rintro e w2 ⟨v, rfl, h2, hb2⟩)
  obtain ⟨a, c, rfl, _⟩ := h2.form
  rw [plain_len] at h2 ⊢
  have HK2 : Hid (Held W w2 [] [(.slice a 35 c, plainB)]) := Lib.hid ⟨fun f hf => (by cases hf), fun p hp => (by simp at hp; subst hp; exact h2), Ext.trans' HB1.out hb2⟩
  clear h2 hb2 HB1
  (go_wp2_with fail; go_fit (pre_known ((HK2.out.ext (bel1' _ _)).2.1 (.slice a 35 c, plainB) (by simp)) ⟨#[45]⟩ pr2); rintro e w3 ⟨rfl, hb3⟩)
  have HK3 : Hid (Held W w3 [(w2.heap.size, 0, .slice a 35 c)] [(.slice a 35 c, plainB)]) := Lib.hid ((((HK2.out.ext (bel1' _ _))).ext hb3).cell (b := w2.heap.size) (o := 0) (v := .slice a 35 c) (cell_later hb3 (by simp)))
  clear hb3 HK2
  have pp := fun o => Lib.cell?_alloc_some o (HK3.out.1 (w2.heap.size, 0, .slice a 35 c) (by simp))
  (go_wp2_with fail; go_fit (pre_known ((HK3.out.ext (bel1' _ _)).2.1 (.slice a 35 c, plainB) (by simp)) ⟨#[42]⟩ pr4); rintro e w4 ⟨rfl, hb4⟩)
  have HK4 : Hid (Held W w4 [(w3.heap.size, 2, .int .i64 200), (w2.heap.size, 0, .slice a 35 c)] [(.slice a 35 c, plainB)]) := Lib.hid ((((HK3.out.ext (bel1' _ _))).ext hb4).cell (b := w3.heap.size) (o := 2) (v := .int .i64 200) (cell_later hb4 (by simp)))
  clear pp hb4 HK3
  have pp := fun o => Lib.cell?_alloc_some o (HK4.out.1 (w2.heap.size, 0, .slice a 35 c) (by simp))
  (go_wp2_with fail; go_fit (in_known ((HK4.out.ext (bel1' _ _)).2.1 (.slice a 35 c, plainB) (by simp)) ⟨#[92, 43]⟩ in6); rintro e w5 ⟨rfl, hb5⟩)
  have HK5 : Hid (Held W w5 [(w3.heap.size, 2, .int .i64 200), (w2.heap.size, 0, .slice a 35 c)] [(.slice a 35 c, plainB)]) := Lib.hid (((HK4.out.ext (bel1' _ _))).ext hb5)
  clear pp hb5 HK4
  have pp := fun o => Lib.cell?_alloc_some o (HK5.out.1 (w2.heap.size, 0, .slice a 35 c) (by simp))
  (go_wp2_with fail; go_fit (add_known ((HK5.out.ext (bel1' _ _)).2.1 (.slice a 35 c, plainB) (by simp)) ad8 (m := 0) rfl); rintro e w6 ⟨a6, c6, rfl, _, hb6⟩)
  have HK6 : Hid (Held W w6 [(w3.heap.size, 2, .int .i64 200), (w2.heap.size, 0, .slice a 35 c)] [(.slice a 35 c, plainB)]) := Lib.hid (((HK5.out.ext (bel1' _ _))).ext hb6)
  clear pp hb6 HK5
  have pp := fun o => Lib.cell?_alloc_some o (HK6.out.1 (w2.heap.size, 0, .slice a 35 c) (by simp))
  (go_wp2_with fail; go_fit (add_known ((HK6.out.ext (bel1' _ _)).2.1 (.slice a 35 c, plainB) (by simp)) ad10 (m := 0) rfl); rintro e w7 ⟨a7, c7, rfl, _, hb7⟩)
  have HK7 : Hid (Held W w7 [(w3.heap.size, 2, .int .i64 200), (w2.heap.size, 0, .slice a 35 c)] [(.slice a 35 c, plainB)]) := Lib.hid (((HK6.out.ext (bel1' _ _))).ext hb7)
  clear pp hb7 HK6
  have pp := fun o => Lib.cell?_alloc_some o (HK7.out.1 (w2.heap.size, 0, .slice a 35 c) (by simp))
  (go_wp2_with fail; go_fit (add_known ((HK7.out.ext (bel1' _ _)).2.1 (.slice a 35 c, plainB) (by simp)) ad12 (m := 0) rfl); rintro e w8 ⟨a8, c8, rfl, _, hb8⟩)
  have HK8 : Hid (Held W w8 [(w3.heap.size, 2, .int .i64 200), (w2.heap.size, 0, .slice a 35 c)] [(.slice a 35 c, plainB)]) := Lib.hid (((HK7.out.ext (bel1' _ _))).ext hb8)
  clear pp hb8 HK7
  have pp := fun o => Lib.cell?_alloc_some o (HK8.out.1 (w2.heap.size, 0, .slice a 35 c) (by simp))
  (go_wp2_with fail; go_fit (add_known ((HK8.out.ext (bel1' _ _)).2.1 (.slice a 35 c, plainB) (by simp)) ad14 (m := 0) rfl); rintro e w9 ⟨a9, c9, rfl, _, hb9⟩)
  have HK9 : Hid (Held W w9 [(w3.heap.size, 2, .int .i64 200), (w2.heap.size, 0, .slice a 35 c)] [(.slice a 35 c, plainB)]) := Lib.hid (((HK8.out.ext (bel1' _ _))).ext hb9)
  clear pp hb9 HK8
  have pp := fun o => Lib.cell?_alloc_some o (HK9.out.1 (w2.heap.size, 0, .slice a 35 c) (by simp))
  (go_wp2_with fail; go_fit (add_known ((HK9.out.ext (bel1' _ _)).2.1 (.slice a 35 c, plainB) (by simp)) ad16 (m := 0) rfl); rintro e w10 ⟨a10, c10, rfl, _, hb10⟩)
  have HK10 : Hid (Held W w10 [(w3.heap.size, 2, .int .i64 200), (w2.heap.size, 0, .slice a 35 c)] [(.slice a 35 c, plainB)]) := Lib.hid (((HK9.out.ext (bel1' _ _))).ext hb10)
  clear pp hb10 HK9
  have pp := fun o => Lib.cell?_alloc_some o (HK10.out.1 (w2.heap.size, 0, .slice a 35 c) (by simp))
  (go_wp2_with fail; go_fit (add_known ((HK10.out.ext (bel1' _ _)).2.1 (.slice a 35 c, plainB) (by simp)) ad18 (m := 0) rfl); rintro e w11 ⟨a11, c11, rfl, _, hb11⟩)
  have HK11 : Hid (Held W w11 [(w3.heap.size, 2, .int .i64 200), (w2.heap.size, 0, .slice a 35 c)] [(.slice a 35 c, plainB)]) := Lib.hid (((HK10.out.ext (bel1' _ _))).ext hb11)
  clear pp hb11 HK10
  have pp := fun o => Lib.cell?_alloc_some o (HK11.out.1 (w2.heap.size, 0, .slice a 35 c) (by simp))
  (go_wp2_with fail; go_fit (add_known ((HK11.out.ext (bel1' _ _)).2.1 (.slice a 35 c, plainB) (by simp)) ad20 len20); rintro e w12 ⟨a12, c12, rfl, h12, hb12⟩)
  have HK12 : Hid (Held W w12 [(w3.heap.size, 2, .int .i64 200), (w2.heap.size, 0, .slice a 35 c)] [(.slice a12 35 c12, list20), (.slice a 35 c, plainB)]) := Lib.hid ((((HK11.out.ext (bel1' _ _))).ext hb12).ops h12)
  clear pp hb12 h12 HK11
  have pp := fun o => Lib.cell?_alloc_some o (HK12.out.1 (w2.heap.size, 0, .slice a 35 c) (by simp))
  (go_wp2_with fail; go_fit (add_known ((HK12.out.ext (bel1' _ _)).2.1 (.slice a 35 c, plainB) (by simp)) ad22 len22); rintro e w13 ⟨a13, c13, rfl, h13, hb13⟩)
  have HK13 : Hid (Held W w13 [(w12.heap.size, 0, .slice a12 35 c12), (w3.heap.size, 2, .int .i64 200), (w2.heap.size, 0, .slice a 35 c)] [(.slice a13 36 c13, list22), (.slice a12 35 c12, list20), (.slice a 35 c, plainB)]) := Lib.hid (((((HK12.out.ext (bel1' _ _))).ext hb13).cell (b := w12.heap.size) (o := 0) (v := .slice a12 35 c12) (cell_later hb13 (by simp))).ops h13)
  clear pp hb13 h13 HK12
  have pp := fun o => Lib.cell?_alloc_some o (HK13.out.1 (w2.heap.size, 0, .slice a 35 c) (by simp))
  (go_wp2_with fail; go_fit (add_known ((HK13.out.ext (bel1' _ _)).2.1 (.slice a 35 c, plainB) (by simp)) ad24 len24); rintro e w14 ⟨a14, c14, rfl, h14, hb14⟩)
  have HK14 : Hid (Held W w14 [(w13.heap.size, 0, .slice a13 36 c13), (w12.heap.size, 0, .slice a12 35 c12), (w3.heap.size, 2, .int .i64 200), (w2.heap.size, 0, .slice a 35 c)] [(.slice a14 34 c14, list24), (.slice a13 36 c13, list22), (.slice a12 35 c12, list20), (.slice a 35 c, plainB)]) := Lib.hid (((((HK13.out.ext (bel1' _ _))).ext hb14).cell (b := w13.heap.size) (o := 0) (v := .slice a13 36 c13) (cell_later hb14 (by simp))).ops h14)
  clear pp hb14 h14 HK13
  have pp := fun o => Lib.cell?_alloc_some o (HK14.out.1 (w2.heap.size, 0, .slice a 35 c) (by simp))
  (go_wp2_with fail; go_fit (add_known (one_at (w14.alloc (.cells #[.slice a14 34 c14] 25)) (w14.heap.size + 1) (by simp) default) ad26 (m := 0) rfl); rintro e w15 ⟨a15, c15, rfl, _, hb15⟩)
  have HK15 : Hid (Held W w15 [(w14.heap.size, 0, .slice a14 34 c14), (w13.heap.size, 0, .slice a13 36 c13), (w12.heap.size, 0, .slice a12 35 c12), (w3.heap.size, 2, .int .i64 200), (w2.heap.size, 0, .slice a 35 c)] [(.slice a14 34 c14, list24), (.slice a13 36 c13, list22), (.slice a12 35 c12, list20), (.slice a 35 c, plainB)]) := Lib.hid (((((HK14.out.ext (bel1' _ _)).ext (bel1' _ _))).ext hb15).cell (b := w14.heap.size) (o := 0) (v := .slice a14 34 c14) (cell_later hb15 (by simp)))
  clear pp hb15 HK14
  have pp := fun o => Lib.cell?_alloc_some o (HK15.out.1 (w2.heap.size, 0, .slice a 35 c) (by simp))
  (go_wp2_with fail; go_fit (sides_known ⟨#[]⟩ ⟨#[102, 120]⟩ 10 sd1 _); rintro e w16 ⟨rfl, hb16⟩)
  have HK16 : Hid (Held W w16 [(w14.heap.size, 0, .slice a14 34 c14), (w13.heap.size, 0, .slice a13 36 c13), (w12.heap.size, 0, .slice a12 35 c12), (w3.heap.size, 2, .int .i64 200), (w2.heap.size, 0, .slice a 35 c)] [(.slice a14 34 c14, list24), (.slice a13 36 c13, list22), (.slice a12 35 c12, list20), (.slice a 35 c, plainB)]) := Lib.hid (((HK15.out.ext (bel1' _ _))).ext hb16)
  clear pp hb16 HK15
  have pp := HK16.out.1 (w2.heap.size, 0, .slice a 35 c) (by simp)
  (go_wp2_with fail; go_fit (sides_known ⟨#[]⟩ ⟨#[63]⟩ 10 sd2 _); rintro e w17 ⟨rfl, hb17⟩)
  have HK17 : Hid (Held W w17 [(w14.heap.size, 0, .slice a14 34 c14), (w13.heap.size, 0, .slice a13 36 c13), (w12.heap.size, 0, .slice a12 35 c12), (w3.heap.size, 2, .int .i64 200), (w2.heap.size, 0, .slice a 35 c)] [(.slice a14 34 c14, list24), (.slice a13 36 c13, list22), (.slice a12 35 c12, list20), (.slice a 35 c, plainB)]) := Lib.hid ((HK16.out).ext hb17)
  clear pp hb17 HK16
  have kk := HK17.out.1 (w12.heap.size, 0, .slice a12 35 c12) (by simp)
  (go_wp2_with fail; go_fit (in_known (HK17.out.2.1 (.slice a12 35 c12, list20) (by simp)) ⟨#[43]⟩ in32); rintro e w18 ⟨rfl, hb18⟩)
  have HK18 : Hid (Held W w18 [(w14.heap.size, 0, .slice a14 34 c14), (w13.heap.size, 0, .slice a13 36 c13), (w12.heap.size, 0, .slice a12 35 c12), (w3.heap.size, 2, .int .i64 200), (w2.heap.size, 0, .slice a 35 c)] [(.slice a14 34 c14, list24), (.slice a13 36 c13, list22), (.slice a12 35 c12, list20), (.slice a 35 c, plainB)]) := Lib.hid ((HK17.out).ext hb18)
  clear kk hb18 HK17
  have pp := fun o => Lib.cell?_alloc_some o (HK18.out.1 (w2.heap.size, 0, .slice a 35 c) (by simp))
  (go_wp2_with fail; go_fit (ownOps_walk ((HK18.out.ext (bel1' _ _)).2.1 (.slice a 35 c, plainB) (by simp)) (by rw [plain_len]; omega)); rintro e w19 ⟨a19, c19, rfl, h19, hb19⟩)
  have HK19 : Hid (Held W w19 [(w18.heap.size, 2, .int .i64 300), (w14.heap.size, 0, .slice a14 34 c14), (w13.heap.size, 0, .slice a13 36 c13), (w12.heap.size, 0, .slice a12 35 c12), (w3.heap.size, 2, .int .i64 200), (w2.heap.size, 0, .slice a 35 c)] [(.slice a19 plainB.length c19, plainB), (.slice a14 34 c14, list24), (.slice a13 36 c13, list22), (.slice a12 35 c12, list20), (.slice a 35 c, plainB)]) := Lib.hid (((((HK18.out.ext (bel1' _ _))).ext hb19).cell (b := w18.heap.size) (o := 2) (v := .int .i64 300) (cell_later hb19 (by simp))).ops h19)
  clear pp hb19 h19 HK18
  have HO := Lib.hid (HK19.out.2.1 (.slice a19 plainB.length c19, plainB) (by simp))
  (go_wp2_with fail; go_fit (plainOps_walk _); rintro e wy ⟨ay, cy, rfl, hy, hby⟩)
  have HY := Lib.hid hy
  have HKy := Lib.hid (HK19.out.ext hby)
  have HOy := Lib.hid (HO.out.ext hby)
  clear hy hby HO HK19
  (go_wp2_with fail; go_fit (same_walk HOy.out HY.out); rintro e wz ⟨rfl, hbz⟩)
  have HKz := Lib.hid (HKy.out.ext hbz)
  clear hbz HKy HOy HY
  have f0 := HKz.out.1 (w18.heap.size, 2, .int .i64 300) (by simp)
  have f1 := HKz.out.1 (w14.heap.size, 0, .slice a14 34 c14) (by simp)
  have f2 := HKz.out.1 (w13.heap.size, 0, .slice a13 36 c13) (by simp)
  have f3 := HKz.out.1 (w12.heap.size, 0, .slice a12 35 c12) (by simp)
  have f4 := HKz.out.1 (w3.heap.size, 2, .int .i64 200) (by simp)
  have f5 := HKz.out.1 (w2.heap.size, 0, .slice a 35 c) (by simp)
  go_wp2
  go_ret
  exact ⟨rfl, HKz.out.2.2⟩
namespace opKnown
open Go.ChangeShapes Go.WideShapes Go.ChangeAt Go.RowKit
theorem own : ownKnob Try.prog.godebug = none := by kernel_rfl
theorem laidOut : laidOutB Try.prog = true := by kernel_rfl
set_option linter.unusedVariables false
set_option maxRecDepth 100000 in
theorem lifted (os : Os) (started : os.Started) (H : Type) (enc : TypeId × Value → H) :
    ReturnsInHanded {} Try.checked os 3 .any (Rows.opKnownSpec.pre6 enc Try.prog Try.f3 Rows.opKnownRow.domain false) (Rows.opKnownSpec.post enc Try.prog Try.f3 false true false false) := by
  refine returnsInHanded_of_change_sized (C := Try.checked) own started (by kernel_rfl) Try.func3
    (ChangeSpec.witness6 (enc := enc) (C := Try.checked) false ⟨#[], #[], []⟩ 8 (by kernel_rfl) (by kernel_rfl) (by kernel_rfl) (by kernel_rfl)) ?_
  intro W base args ds gs before hval0 hW hcnd hsz0 _
  have hval : ∀ (j : Nat) t v, Try.f3.params[j]? = some t → args[j]? = some v → Value.okWide Try.prog W .any base t v := hval0
  have hW' := hW
  obtain ⟨p, q, hA0, hV, rfl, hfz, hnd⟩ := hW
  have hA : DataW.TrodAll enc Try.prog W 0 (fun _ => true) true Try.f3.params.toList args.toList ds p := hA0
  have hsz : (DataW.weightsEach Try.prog (Try.f3.params.toList ++ []) (ds ++ gs)).all (· ≤ reachBytes) = true := hsz0
  rw [Try.params3] at hA hval hsz
  obtain ⟨rfl, rfl, rfl⟩ := trodAll_none hA
  obtain ⟨rfl, rfl⟩ := trodVars_none hV
  clear hA0 hval0 hsz0


  refine (opknown_walk W ).mono fun e W' ⟨he, bel⟩ => ?_
  subst he
  exact ⟨_, rfl, _, _, _, [], _, [], hW', trodAll_mk1 (shut_bool Try.underlying4 _), rfl, rfl, bel.frame _, fun h => by cases h⟩
theorem proved : Rows.OpKnownSaid :=
  OpenClaim.holds_of_wide 3 Try.f3 rfl rfl rfl rfl rfl rfl rfl ⟨rfl, rfl, rfl, rfl, rfl⟩ rfl rfl rfl rfl rfl (by kernel_rfl) Try.func3 (by kernel_rfl)
    (of_decide_eq_true (by kernel_rfl)) (by unfold Func.isWrapper; first | (rw [if_pos (by decide +kernel)]; kernel_rfl) | (rw [if_neg (by decide +kernel)]; exact ⟨rfl, rfl⟩))
    (fun os started H enc _ => lifted os started H enc)
#print axioms proved
end opKnown

end Go.Proofs.Ythalpdjnclfleaa
