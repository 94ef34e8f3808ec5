import Derived.Test.YtchbbaehdcmcfaaHzrzz
import Derived.Test.YtchbbaehdcmcfaaHzrac
import Derived.Test.YtchbbaehdcmcfaaHzrab
import Derived.Deep.RegionHeld3
import Derived.Deep.Cut
import Derived.Deep.CutRange
set_option linter.unusedVariables false
set_option linter.unusedSimpArgs false
/- Package index: Add. -/
namespace Go.Proofs.Ytchbbaehdcmcfaa
open Go.RowKit Go.Maps
set_option linter.unusedVariables false
theorem Touch.grownX {F : List Nat} {w w' : World} {row : Option Nat} (h : w.grownBy w' row) (hr : ∀ k, row = some k → k ∈ F) : Touch F w w' :=
 ⟨h.os, h.tape, h.output, h.size, fun k hk hn => h.block k hk (fun e => hn (hr k e.symm))⟩
theorem nums_src {w : World} (n : Int) (ty : TypeId) : ∀ j u, [Value.int .i64 n][j]? = some u → (w.alloc (.cells #[.int .i64 n] ty)).cell? ((⟨w.heap.size, 0, none⟩ : Addr).add j) = some u := fun j u hu => cell_new w #[.int .i64 n] ty j u hu
set_option maxHeartbeats 8000000 in
set_option maxRecDepth 100000 in
theorem ixAdd_at {w : World} {F : List Nat} {p : Value} {ks : List (KeyM × Bool)} (h : IsX w F p ks) (hl : ks.length < 400000) (k : KeyM) (hk : ixOk k) :
    Calls Try.prog 43 #[p, ixV k] w fun e w' => e = .returned (.int .i64 (ks.length : Int)) ∧ ∃ F', IsX w' F' p (ks ++ [(plainK k, true)]) ∧ Touch F w w' ∧ ∀ g ∈ F', g ∈ F ∨ w.heap.size ≤ g := by
  obtain ⟨xb, kb, rb, D1, D2, rv, rfl, H⟩ := h
  have HH := Lib.hid H
  have hxlt := H.lt xb H.inF.1
  obtain ⟨n, hn⟩ : ∃ n, ks.length = n := ⟨_, rfl⟩
  have HN := Lib.hid hn
  have HKP := Lib.hid (And.intro (plain_ok hk) (plain_plain k))
  obtain ⟨w1, e1, B1, z1, X1⟩ := box_new w #[.int .i64 k.k, .int .i64 k.n, .string k.s, .int .i64 k.ar] 76
  obtain ⟨qb, hqb⟩ : ∃ qb, w.heap.size = qb := ⟨_, rfl⟩
  rw [hqb] at X1
  have hxq : xb ≠ qb := by omega
  have hqx : qb ≠ xb := by omega
  have HE := Lib.hid (And.intro e1 hqb)
  have HB1 := Lib.hid B1
  have HX1 := Lib.hid X1
  have HXB := Lib.hid (show Box w1 xb [.int .i64 (n : Int), .map (some kb), .map (some rb)] from by rw [← hn]; exact H.box.ext B1)
  have i0 := HXB.out.cells 0 _ rfl
  have hif := HXB.out.fz
  have hw1 : IntKind.i64.wrap ((n : Int) + 1) = (n : Int) + 1 := by rw [IntKind.wrap_i64]; omega
  rw [hn] at hl ⊢
  clear e1 B1 z1 X1 H hqb hn
  go_enter Try.func43, Try.ntmps43
  go_upto_region 1 with fail
  (try rw [HE.out.1])
  (try rw [HE.out.2])
  go_upto_region 3 with fail
  obtain ⟨w2, e2⟩ : ∃ w2, w1.setCell ⟨xb, 0, none⟩ (.int .i64 ((n : Int) + 1)) = w2 := ⟨_, rfl⟩
  have HX2 := Lib.hid (show Box w2 qb [.int .i64 k.k, .int .i64 k.n, .string k.s, .int .i64 k.ar] from by rw [← e2]; exact HX1.out.far hqx)
  have HXB2 := Lib.hid (show Box w2 xb [.int .i64 ((n : Int) + 1), .map (some kb), .map (some rb)] from by rw [← e2]; exact HXB.out.set (k := 0) (by simp))
  have HT2 := Lib.hid (show Touch [xb] w w2 from ((Touch.of_below HB1.out [xb]).on (by
    rw [← e2]
    exact ⟨rfl, rfl, rfl, by simp [World.setCell], fun q hq hne => Below.heap_setCell w1 _ _ q (fun e => hne (by simp [e]))⟩)))
  rw [e2]
  clear e2 i0 hif
  obtain ⟨x0, x1, x2, x3, xf⟩ := HX2.out.four
  have C := ixPlain_at k w2
  (go_wp2_with fail; go_fit (C); rintro e w3 ⟨rfl, b3⟩)
  obtain ⟨⟨kk, nn, ss, rr⟩, hpk⟩ : ∃ q, plainK k = q := ⟨_, rfl⟩
  have HPK := Lib.hid hpk
  have HKP2 := Lib.hid (show ixOk ⟨kk, nn, ss, rr⟩ ∧ plainK ⟨kk, nn, ss, rr⟩ = ⟨kk, nn, ss, rr⟩ from by rw [← hpk]; exact HKP.out)
  rw [hpk]
  clear x0 x1 x2 x3 xf C
  obtain ⟨x0, x1, x2, x3, xf⟩ := (HX2.out.ext b3).four
  have HX3 := Lib.hid (HX2.out.ext b3)
  have HXB3 := Lib.hid (HXB2.out.ext b3)
  have HT3 := Lib.hid (HT2.out.on (Touch.of_below b3 [xb]))
  clear b3 hpk
  go_upto_region 4 with fail
  obtain ⟨w4, e4⟩ : ∃ w4, (((w3.setCell ⟨qb, 0, none⟩ (.int .i64 kk)).setCell ⟨qb, 1, none⟩ (.int .i64 nn)).setCell ⟨qb, 2, none⟩ (.string ss)).setCell ⟨qb, 3, none⟩ (.int .i64 rr) = w4 := ⟨_, rfl⟩
  have HX4 := Lib.hid (show Box w4 qb [.int .i64 kk, .int .i64 nn, .string ss, .int .i64 rr] from by
    rw [← e4]
    exact (((HX3.out.set (k := 0) (by simp)).set (k := 1) (by simp)).set (k := 2) (by simp)).set (k := 3) (by simp))
  have HXB4 := Lib.hid (show Box w4 xb [.int .i64 ((n : Int) + 1), .map (some kb), .map (some rb)] from by
    rw [← e4]
    exact (((HXB3.out.far hxq).far hxq).far hxq).far hxq)
  have HT4 := Lib.hid (show Touch [xb] w w4 from by
    rw [← e4]
    refine HT3.out.trans (F' := [qb]) ⟨rfl, rfl, rfl, by simp [World.setCell], fun q hq hne => ?_⟩ (fun q hq => by simp at hq; exact Or.inr (by rw [HE.out.2]; omega))
    have hq' : q ≠ qb := fun e => hne (by simp [e])
    have st := fun (wz : World) (j : Nat) (u : Value) => Below.heap_setCell wz ⟨qb, j, none⟩ u q hq'
    rw [st, st, st, st])
  rw [e4]
  clear e4 x0 x1 x2 x3 xf
  have hkb := HH.out.lt kb HH.out.inF.2.1
  have hrb := HH.out.lt rb HH.out.inF.2.2
  have hN := HH.out.ne
  obtain ⟨wd, ewd⟩ : ∃ wd, w4.drew = wd := ⟨_, rfl⟩
  have HBd := Lib.hid (show Below w4.heap.size w4 wd from by rw [← ewd]; exact (Below.refl _ _).drew)
  have HTd := Lib.hid (HT4.out.on (Touch.of_below HBd.out [xb]))
  have O1 : wd.ownsMap Try.prog 3 keepV kb n D1 := by
    have := owns_mapN HH.out.own1 (HTd.out.block kb hkb (by simp; exact fun e => hN.1 e.symm))
    rw [HN.out] at this
    exact this
  obtain ⟨w5, r5, o5, t5⟩ := O1.store (val := ixV ⟨kk, nn, ss, rr⟩) (int_keyed Try.underlying3) Try.underlying128 (by unfold maxLen; omega) (keyOf_int_mk Try.underlying3 (a := (n : Int)) (ixWf (by unfold I64; omega))) (show keepV (ixV ⟨kk, nn, ss, rr⟩) = some (.held (ixV ⟨kk, nn, ss, rr⟩), []) from rfl)
  have HO5 := Lib.hid o5
  have t5' := turned_touch t5
  have HT5 := Lib.hid (show Touch [xb, kb] w w5 from (HTd.out.wide (by simp)).on (t5'.wide (by simp)))
  have hkq : qb ≠ kb := fun e => by rw [← e] at hkb; rw [HE.out.2] at hkb; omega
  have hBox : ∀ (b : Nat) (vs : List Value), Box w4 b vs → b ≠ kb → Box w5 b vs := fun b vs hb hne => (hb.ext HBd.out).block (t5'.block b (hb.ext HBd.out).lt (by simp; exact hne)) (Nat.lt_of_lt_of_le (hb.ext HBd.out).lt t5'.size)
  have HX5 := Lib.hid (hBox _ _ HX4.out hkq)
  have HXB5 := Lib.hid (hBox _ _ HXB4.out hN.1)
  have HXd := Lib.hid (And.intro (HX4.out.ext HBd.out) (HXB4.out.ext HBd.out))
  clear O1 o5 t5 t5' hBox
  have r5' : (Instr.mapUpdate 128 (.map (some kb)) (.int .i64 (n : Int)) (.agg #[.int .i64 kk, .int .i64 nn, .string ss, .int .i64 rr])).run Try.prog wd = .ok () w5 := r5
  clear r5
  have hS : ∀ wq : World, Box wq qb [.int .i64 kk, .int .i64 nn, .string ss, .int .i64 rr] → Box wq xb [.int .i64 ((n : Int) + 1), .map (some kb), .map (some rb)] → wq.cell? ⟨xb, 1, none⟩ = some (.map (some kb)) ∧ wq.cell? ⟨xb, 2, none⟩ = some (.map (some rb)) ∧ (wq.cell? ⟨qb, 0, none⟩ = some (.int .i64 kk) ∧ wq.cell? ⟨qb, 1, none⟩ = some (.int .i64 nn) ∧ wq.cell? ⟨qb, 2, none⟩ = some (.string ss) ∧ wq.cell? ⟨qb, 3, none⟩ = some (.int .i64 rr)) := fun wq h1 h2 => by
    obtain ⟨x0, x1, x2, x3, _⟩ := h1.four
    exact ⟨h2.cells 1 _ rfl, h2.cells 2 _ rfl, x0, x1, x2, x3⟩
  have HS := Lib.hid hS
  clear hS
  refine wp_region_held_drew (S := fun wq => wq.cell? ⟨xb, 1, none⟩ = some (.map (some kb)) ∧ wq.cell? ⟨xb, 2, none⟩ = some (.map (some rb)) ∧ (wq.cell? ⟨qb, 0, none⟩ = some (.int .i64 kk) ∧ wq.cell? ⟨qb, 1, none⟩ = some (.int .i64 nn) ∧ wq.cell? ⟨qb, 2, none⟩ = some (.string ss) ∧ wq.cell? ⟨qb, 3, none⟩ = some (.int .i64 rr))) (by kernel_rfl) (by rw [ewd]; exact HS.out _ HXd.out.1 HXd.out.2) (fun hHeld => ?_)
  rw [ewd] at hHeld ⊢
  clear ewd
  first | (refine held_t (i := 0) hHeld ?_; constructor; constructor; intro wq hq; focus ((try dsimp only at hq); go_simp; first | done | with_reducible rfl | fail)) | refine held_s (i := 0) hHeld ?_ | fail
  first | (refine held_t (i := 1) hHeld ?_; constructor; constructor; intro wq hq; focus ((try dsimp only at hq); go_simp; first | done | with_reducible rfl | fail)) | refine held_s (i := 1) hHeld ?_ | fail
  first | (refine held_t (i := 2) hHeld ?_; constructor; constructor; intro wq hq; focus ((try dsimp only at hq); go_simp; first | done | with_reducible rfl | fail)) | refine held_s (i := 2) hHeld ?_ | fail
  first | (refine held_t (i := 3) hHeld ?_; constructor; constructor; intro wq hq; focus ((try dsimp only at hq); go_simp; first | done | with_reducible rfl | fail)) | refine held_s (i := 3) hHeld ?_ | fail
  first | (refine held_t (i := 4) hHeld ?_; constructor; constructor; intro wq hq; focus ((try dsimp only at hq); go_simp; first | done | with_reducible rfl | fail)) | refine held_s (i := 4) hHeld ?_ | fail
  first | (refine held_t (i := 5) hHeld ?_; constructor; constructor; intro wq hq; focus ((try dsimp only at hq); go_simp; first | done | with_reducible rfl | fail)) | refine held_s (i := 5) hHeld ?_ | fail
  try simp only [Act.put, lay4]
  refine held_c 6 fun K hK => ?_
  go_simp
  skip
  refine hK.out _ _ (HS.out _ HX5.out HXB5.out) (fun hHeld => ?_)
  clear hK K
  try simp only [Act.put, lay4]
  refine wpAnyH_done (by kernel_rfl) ?_ _
  clear hHeld r5'
  go_upto_region 5 with fail
  obtain ⟨v, hv, hw⟩ := HH.out.look HKP2.out.1
  have hrow0 : w.ownsRow 0 3 1 v (rowI ⟨kk, nn, ss, rr⟩ ks).length ((rowI ⟨kk, nn, ss, rr⟩ ks).flatMap numCells) := by
    rcases hw with ⟨h1, rfl⟩ | ⟨h1, rfl⟩
    · rw [h1]; exact World.ownsRow_nil _ _ _ _
    · exact HH.out.row _ HKP2.out.1 h1
  have hvF : ∀ g, v.ownBlock = some g → g < w.heap.size ∧ g ≠ xb ∧ g ≠ kb ∧ g ≠ rb ∧ g ∈ F := fun g hg => by
    rcases hw with ⟨h1, rfl⟩ | ⟨h1, rfl⟩
    · cases hg
    · obtain ⟨q1, q2, q3, q4⟩ := HH.out.blk _ HKP2.out.1 h1 g hg
      exact ⟨HH.out.lt g q1, q2, q3, q4, q1⟩
  have HW := Lib.hid (And.intro hw hvF)
  obtain ⟨m, hm⟩ : ∃ m, (rowI ⟨kk, nn, ss, rr⟩ ks).length = m := ⟨_, rfl⟩
  have HM := Lib.hid hm
  have hmn : m ≤ 400000 := by have := selI_len (p := isK ⟨kk, nn, ss, rr⟩) (l := ks) (i := 0); rw [← hm]; exact Nat.le_trans this (by rw [HN.out]; omega)
  rw [hm] at hrow0
  obtain ⟨va, vc, rfl⟩ : ∃ a c, v = .slice a m c := by
    rcases hrow0.2 with ⟨e, hz⟩ | ⟨g, cap, cur, e, _⟩
    · exact ⟨none, 0, by rw [e, hz]⟩
    · exact ⟨_, _, e⟩
  have HR0 := Lib.hid hrow0
  clear hw hvF hm hrow0
  obtain ⟨j0, hj0, hz0, hs0, hb0⟩ := infoIntP
  obtain ⟨we, ewe⟩ : ∃ wd, w5.drew = wd := ⟨_, rfl⟩
  have HBe := Lib.hid (show Below w5.heap.size w5 we from by rw [← ewe]; exact (Below.refl _ _).drew)
  have HXe := Lib.hid (And.intro (HX5.out.ext HBe.out) (HXB5.out.ext HBe.out))
  have HTe := Lib.hid (show Touch [xb, kb] w we from HT5.out.on (Touch.of_below HBe.out _))
  have HOe := Lib.hid (show we.ownsMap Try.prog 3 keepV kb (n + 1) (D1.put (.int .i64 (n : Int)) (.held (ixV ⟨kk, nn, ss, rr⟩))) from by rw [← ewe]; exact HO5.out)
  have HO2 := Lib.hid (fun (wq : World) (hq : wq.heap[rb]? = w.heap[rb]?) => (show ∃ (st : Int) (wz : World), (Instr.mapEntry 129 (.map (some rb)) (.agg #[.int .i64 kk, .int .i64 nn, .string ss, .int .i64 rr])).run Try.prog wq = .ok (.tuple #[.slice va m vc, .int .i64 st]) wz ∧ Touch [rb] wq wz ∧
      ∀ (w2 : World) (val : Value), w2.heap[rb]? = wz.heap[rb]? → ∃ w3, (Instr.entryStore 129 (.map (some rb)) (.int .i64 st) val).run Try.prog w2 = .ok () w3 ∧ Touch [rb] w2 w3 ∧
        w3.ownsMap Try.prog 76 keepV rb (n + 1) (D2.put (ixLit ⟨kk, nn, ss, rr⟩) (.held val)) from by
    have ho := owns_mapN HH.out.own2 hq
    rw [HN.out] at ho
    exact ixEntry ho (by unfold maxLen; omega) HKP2.out.1 (hv wq hq)))
  have HTr := Lib.hid (HTe.out.block rb hrb (by simp; exact ⟨fun e => hN.2.1 e.symm, fun e => hN.2.2 e.symm⟩))
  have hrq : qb ≠ rb := fun e => by rw [← e] at hrb; rw [HE.out.2] at hrb; omega
  have hre : rb < we.heap.size := Nat.lt_of_lt_of_le hrb HTe.out.size
  have hwe := HTe.out.size
  clear hv
  refine wp_region_held_drew (S := fun wq => wq.cell? ⟨xb, 1, none⟩ = some (.map (some kb)) ∧ wq.cell? ⟨xb, 2, none⟩ = some (.map (some rb)) ∧ (wq.cell? ⟨qb, 0, none⟩ = some (.int .i64 kk) ∧ wq.cell? ⟨qb, 1, none⟩ = some (.int .i64 nn) ∧ wq.cell? ⟨qb, 2, none⟩ = some (.string ss) ∧ wq.cell? ⟨qb, 3, none⟩ = some (.int .i64 rr))) (by kernel_rfl) (by rw [ewe]; exact HS.out _ HXe.out.1 HXe.out.2) (fun hHeld => ?_)
  rw [ewe] at hHeld ⊢
  clear ewe
  first | (refine held_t (i := 0) hHeld ?_; constructor; constructor; intro wq hq; focus ((try dsimp only at hq); go_simp; first | done | with_reducible rfl | fail)) | refine held_s (i := 0) hHeld ?_ | fail
  first | (refine held_t (i := 1) hHeld ?_; constructor; constructor; intro wq hq; focus ((try dsimp only at hq); go_simp; first | done | with_reducible rfl | fail)) | refine held_s (i := 1) hHeld ?_ | fail
  first | (refine held_t (i := 2) hHeld ?_; constructor; constructor; intro wq hq; focus ((try dsimp only at hq); go_simp; first | done | with_reducible rfl | fail)) | refine held_s (i := 2) hHeld ?_ | fail
  first | (refine held_t (i := 3) hHeld ?_; constructor; constructor; intro wq hq; focus ((try dsimp only at hq); go_simp; first | done | with_reducible rfl | fail)) | refine held_s (i := 3) hHeld ?_ | fail
  first | (refine held_t (i := 4) hHeld ?_; constructor; constructor; intro wq hq; focus ((try dsimp only at hq); go_simp; first | done | with_reducible rfl | fail)) | refine held_s (i := 4) hHeld ?_ | fail
  first | (refine held_t (i := 5) hHeld ?_; constructor; constructor; intro wq hq; focus ((try dsimp only at hq); go_simp; first | done | with_reducible rfl | fail)) | refine held_s (i := 5) hHeld ?_ | fail
  try simp only [Act.put, lay4]
  refine held_c 6 fun K hK => ?_
  go_simp
  skip
  refine hK.out _ _ (HS.out _ (HXe.out.1.ext (bel1' _ _)) (HXe.out.2.ext (bel1' _ _))) (fun hHeld => ?_)
  clear hK K
  try simp only [Act.put, lay4]
  obtain ⟨ab, hab⟩ : ∃ ab, we.heap.size = ab := ⟨_, rfl⟩
  obtain ⟨w6, e6⟩ : ∃ w6, we.alloc (.cells #[.int .i64 (n : Int)] 3) = w6 := ⟨_, rfl⟩
  have HC6 := Lib.hid (show ∀ j u, [Value.int .i64 (n : Int)][j]? = some u → w6.cell? ((⟨ab, 0, none⟩ : Addr).add j) = some u from by rw [← e6, ← hab]; exact nums_src _ _)
  have HB6 := Lib.hid (show Below we.heap.size we w6 from by rw [← e6]; exact bel1' _ _)
  have ha6 : ab < w6.heap.size := by rw [← e6, ← hab]; simp
  rw [e6] at hHeld ⊢
  (try rw [hab])
  clear e6
  have hab' : ab ≠ rb := by omega
  have HX6 := Lib.hid (And.intro (HXe.out.1.ext HB6.out) (HXe.out.2.ext HB6.out))
  obtain ⟨st, w7, r7, t7, hst⟩ := HO2.out w6 ((HB6.out.block rb hre).trans HTr.out)
  have hBox : ∀ (b : Nat) (vs : List Value), Box w6 b vs → b ≠ rb → Box w7 b vs := fun b vs hb hne => hb.block (t7.block b hb.lt (by simp; exact hne)) (Nat.lt_of_lt_of_le hb.lt t7.size)
  have HX7 := Lib.hid (And.intro (hBox _ _ HX6.out.1 hrq) (hBox _ _ HX6.out.2 hN.2.1))
  have HC7 := Lib.hid (show ∀ j u, [Value.int .i64 (n : Int)][j]? = some u → w7.cell? ((⟨ab, 0, none⟩ : Addr).add j) = some u from fun j u hu => by
    have h := HC6.out j u hu
    rw [add_plain] at h ⊢
    rw [World.cell?_of_block (t7.block ab ha6 (by simp; exact hab'))]
    exact h)
  have HT7 := Lib.hid (And.intro (show Touch [xb, kb, rb] w w7 from ((HTe.out.wide (by simp)).on (Touch.of_below HB6.out _)).on (t7.wide (by simp))) (show Touch [rb] we w7 from (Touch.of_below HB6.out _).on t7))
  have HST := Lib.hid hst
  clear hBox t7 hst
  refine held_c 7 fun K hK => ?_
  go_simp
  skip
  refine hK.out _ _ (HS.out _ HX7.out.1 HX7.out.2) (fun hHeld => ?_)
  clear hK K
  try simp only [Act.put, lay4]
  clear r7
  first | (refine held_t (i := 8) hHeld ?_; constructor; constructor; intro wq hq; focus ((try dsimp only at hq); go_simp; first | done | with_reducible rfl | fail)) | refine held_s (i := 8) hHeld ?_ | fail
  first | (refine held_t (i := 10) hHeld ?_; constructor; constructor; intro wq hq; focus ((try dsimp only at hq); go_simp; first | done | with_reducible rfl | fail)) | refine held_s (i := 10) hHeld ?_ | fail
  try simp only [Act.put, lay4]
  have HRw := Lib.hid (show w7.ownsRow 0 3 1 (.slice va m vc) m ((rowI ⟨kk, nn, ss, rr⟩ ks).flatMap numCells) from row_at HR0.out (fun g hg => by
    obtain ⟨q1, q2, q3, q4, _⟩ := HW.out.2 g hg
    exact HT7.out.1.block g q1 (by simp; exact ⟨q2, q3, q4⟩)))
  refine held_c 9 fun K hK => ?_
  (refine step_append_k (by rfl) _ _ _ (by rfl) 0 3 j0 (.int .i64 0) 1 8 Try.underlying81 hj0 hz0 hs0 (by decide) hb0 rfl (.slice va m vc) m ((rowI ⟨kk, nn, ss, rr⟩ ks).flatMap numCells) (by rfl) HRw.out (some ⟨ab, 0, none⟩) 1 1 [.int .i64 (n : Int)] (by rfl) (by rfl) (Or.inr ⟨_, rfl, HC7.out⟩) (by simp [Value.oneCell']) (by unfold maxLen; omega) (by omega) (Nat.zero_le _) (m + 1) ((rowI ⟨kk, nn, ss, rr⟩ ks).flatMap numCells ++ [.int .i64 (n : Int)]) rfl rfl ?_; intro a8 c8 w8 hown8 hgrow8 hat8; have HO8 := Lib.hid hown8; have HG8 := Lib.hid hgrow8; have HA8 := Lib.hid hat8; have hblk : ∀ b : Nat, b < w7.heap.size → b = qb ∨ b = xb ∨ b = rb ∨ b = kb → w8.heap[b]? = w7.heap[b]? := (fun b hb hne => hgrow8.block b hb (fun e => by obtain ⟨q1, q2, q3, q4, _⟩ := HW.out.2 b e.symm; have := HE.out.2; rcases hne with rfl | rfl | rfl | rfl; omega; exact q2 rfl; exact q4 rfl; exact q3 rfl)); have HX8 := Lib.hid (And.intro (HX7.out.1.block (hblk qb HX7.out.1.lt (Or.inl rfl)) (Nat.lt_of_lt_of_le HX7.out.1.lt hgrow8.size)) (HX7.out.2.block (hblk xb HX7.out.2.lt (Or.inr (Or.inl rfl))) (Nat.lt_of_lt_of_le HX7.out.2.lt hgrow8.size))); have hr7 : rb < w7.heap.size := Nat.lt_of_lt_of_le hre HT7.out.2.size; have HR8 := Lib.hid (hblk rb hr7 (Or.inr (Or.inr (Or.inl rfl)))); have HK8 := Lib.hid (hblk kb (Nat.lt_of_lt_of_le hkb HT7.out.1.size) (Or.inr (Or.inr (Or.inr rfl)))); clear hown8 hgrow8 hat8 hblk)
  refine hK.out _ _ (HS.out _ HX8.out.1 HX8.out.2) (fun hHeld => ?_)
  clear hK K
  try simp only [Act.put, lay4]
  obtain ⟨w9, r9, t9, o9⟩ := HST.out w8 (.slice a8 (m + 1) c8) HR8.out
  have HT9 := Lib.hid (And.intro t9 o9)
  have hBox : ∀ (b : Nat) (vs : List Value), Box w8 b vs → b ≠ rb → Box w9 b vs := fun b vs hb hne => hb.block (t9.block b hb.lt (by simp; exact hne)) (Nat.lt_of_lt_of_le hb.lt t9.size)
  have HX9 := Lib.hid (And.intro (hBox _ _ HX8.out.1 hrq) (hBox _ _ HX8.out.2 hN.2.1))
  clear hBox t9 o9
  refine held_c 11 fun K hK => ?_
  go_simp
  skip
  refine hK.out _ _ (HS.out _ HX9.out.1 HX9.out.2) (fun hHeld => ?_)
  clear hK K
  try simp only [Act.put, lay4]
  refine wpAnyH_done (by kernel_rfl) ?_ _
  clear hHeld r9
  have HFin := Lib.hid (show ∃ F', IsX w9 F' (.pointer (some ⟨xb, 0, none⟩)) (ks ++ [(⟨kk, nn, ss, rr⟩, true)]) ∧ ∀ g ∈ F', g ∈ F ∨ w.heap.size ≤ g from by
    have tA : Touch ([xb, kb, rb] ++ (Value.slice va m vc).ownBlock.toList) w w9 := ((HT7.out.1.wide (fun g hg => List.mem_append_left _ hg)).on (Touch.grownX HG8.out (fun g hg => by simp [hg]))).on (HT9.out.1.wide (by simp))
    have hk9 : kb < w8.heap.size := Nat.lt_of_lt_of_le (Nat.lt_of_lt_of_le hkb HT7.out.1.size) HG8.out.size
    have hk7 : w9.heap[kb]? = we.heap[kb]? := (HT9.out.1.block kb hk9 (by simp; exact hN.2.2)).trans (HK8.out.trans (HT7.out.2.block kb (Nat.lt_of_lt_of_le hkb HTe.out.size) (by simp; exact hN.2.2)))
    refine HH.out.added HKP2.out.1 HKP2.out.2 HW.out.1 tA (by rw [HN.out]; exact HX9.out.2) (by rw [HN.out]; exact owns_mapN HOe.out hk7) (by rw [HN.out]; exact HT9.out.2) ?_ ?_
    · rw [HM.out, HN.out, List.flatMap_append]
      refine row_at HO8.out (fun g hg => HT9.out.1.block g (row_in HO8.out hg).2 (fun e => ?_))
      simp at e
      subst e
      rcases HA8.out with e | e
      · exact (HW.out.2 _ (e.symm.trans hg)).2.2.2.1 rfl
      · have h1 := e.symm.trans hg
        injection h1 with h1
        have := HT7.out.2.size
        omega
    · rcases HA8.out with e | e
      · exact Or.inl e
      · exact Or.inr ⟨_, e, by have := HT7.out.2.size; omega⟩)
  have HTF := Lib.hid (show Touch F w w9 from ((HT7.out.1.wide (fun g hg => by
    simp at hg
    rcases hg with rfl | rfl | rfl
    · exact HH.out.inF.1
    · exact HH.out.inF.2.1
    · exact HH.out.inF.2.2)).on (Touch.grownX HG8.out (fun g hg => (HW.out.2 g hg).2.2.2.2))).on (HT9.out.1.wide (by simp; exact HH.out.inF.2.2)))
  go_wp2
  go_ret
  obtain ⟨F', q1, q2⟩ := HFin.out
  exact ⟨rfl, F', by rw [HPK.out]; exact q1, HTF.out, q2⟩
end Go.Proofs.Ytchbbaehdcmcfaa
/- Package index: Drop. -/
namespace Go.Proofs.Ytchbbaehdcmcfaa
open Go.RowKit Go.Maps Go.Sort
set_option linter.unusedVariables false
def dropM (ks : List (KeyM × Bool)) (i : Int) : Bool × List (KeyM × Bool) :=
 if 0 ≤ i then (match ks[i.toNat]? with
  | some (k, true) => (true, ks.set i.toNat (k, false))
  | _ => (false, ks)) else (false, ks)
theorem drop_in {ks : List (KeyM × Bool)} {j : Nat} {k : KeyM} (h : ks[j]? = some (k, true)) : dropM ks (j : Int) = (true, ks.set j (k, false)) := by
 unfold dropM
 rw [if_pos (by omega), Int.toNat_natCast, h]
theorem drop_out {ks : List (KeyM × Bool)} {i : Int} (h : ¬ i ∈ allI ks) : dropM ks i = (false, ks) := by
 unfold dropM
 by_cases h0 : 0 ≤ i
 ·rw [if_pos h0]
  cases hx : ks[i.toNat]? with
  | none => rfl
  | some x =>
   obtain ⟨k, b⟩ := x
   cases b with
   | false => rfl
   | true => exact absurd (mem_selI.2 ⟨i.toNat, _, hx, by omega, rfl⟩) h
 ·rw [if_neg h0]
theorem count_cut {A B : List Int} {j : Int} (hA : ∀ m ∈ A, m < j) (hB : ∀ m ∈ B, j < m) : (A ++ j :: B).countP (fun x => decide (x < j)) = A.length := by
 rw [List.countP_append, List.countP_cons]
 have h1 : A.countP (fun x => decide (x < j)) = A.length := List.countP_eq_length.2 fun x hx => by simp [hA x hx]
 have h2 : B.countP (fun x => decide (x < j)) = 0 := List.countP_eq_zero.2 fun x hx => by have := hB x hx; simp; omega
 rw [h1, h2]
 simp
theorem ixZeroKey (w : World) : (zeroValue 76).run Try.prog w = .ok (.agg #[.int .i64 0, .int .i64 0, .string ⟨#[]⟩, .int .i64 0]) w := by
 have := Try.zeroValue76
 exact this w
theorem row_less {w : World} {B n n' : Nat} {e : TypeId} {a : Option Addr} {c : Nat} {xs : List Value} (h : w.ownsRow B e 1 (.slice a n c) n xs) (hn : n' ≤ n) (h0 : 0 < n) : w.ownsRow B e 1 (.slice a n' c) n' (xs.take n') := by
 obtain ⟨h1, h2⟩ := h
 refine ⟨by rw [List.length_take, h1]; omega, ?_⟩
 rcases h2 with ⟨_, hz⟩ | ⟨g, cap, cur, e1, q1, q2, q3, q4, q5, q6⟩
 ·omega
 ·cases e1
  refine Or.inr ⟨g, c, cur, rfl, q1, q2, Nat.le_trans hn q3, q4, q5, ?_⟩
  rw [← q6, List.take_take]
  congr 1
  omega
set_option maxHeartbeats 8000000 in
set_option maxRecDepth 100000 in
theorem ixDrop_at {w : World} {F : List Nat} {p : Value} {ks : List (KeyM × Bool)} (h : IsX w F p ks) (hl : ks.length ≤ 400000) (i : Int) (hi : I64 i) :
  Calls Try.prog 45 #[p, .int .i64 i] w fun e w' => e = .returned (.bool (dropM ks i).1) ∧ IsX w' F p (dropM ks i).2 ∧ Touch F w w' := by
 have HX := Lib.hid h
 obtain ⟨xb, kb, rb, D1, D2, rv, rfl, H⟩ := h
 have HH := Lib.hid H
 have i1 := H.box.cells 1 _ rfl
 obtain ⟨v, ps, hrun, hv⟩ := H.own1.look_ok (int_keyed Try.underlying3) Try.underlying128 (ixZeroKey w) (show keepV _ = some (.held (.agg #[.int .i64 0, .int .i64 0, .string ⟨#[]⟩, .int .i64 0]), []) from rfl) (keyOf_int_mk Try.underlying3 (a := i) (ixWf hi))
 have hv1 := (Prod.mk.inj (Option.some.inj hv)).1
 by_cases hin : i ∈ allI ks
 rotate_left
 ·have hno : Maps.has D1 (.int .i64 i) = false := by
   cases hh : Maps.has D1 (.int .i64 i) with
   | false => rfl
   | true => exact absurd ((H.has1 i).1 hh) hin
  rw [atKey_of_not_has hno] at hv1
  obtain rfl : v = .agg #[.int .i64 0, .int .i64 0, .string ⟨#[]⟩, .int .i64 0] := DataW.held.inj hv1
  rw [hno] at hrun
  rw [drop_out hin]
  have HB := Lib.hid (fun (o : Obj) => bel1' w o)
  clear H hv hv1 hno hin
  go_enter Try.func45, Try.ntmps45
  go_wp2
  go_ret
  exact ⟨rfl, HX.out.ext (HB.out _), Touch.of_below (HB.out _) _⟩
 obtain ⟨j, ⟨k, b⟩, hj, hij, hb⟩ := mem_selI.1 hin
 obtain rfl : b = true := hb
 rw [Nat.zero_add] at hij
 subst hij
 have hk : ixOk k := H.oks _ (List.mem_of_getElem? hj)
 rw [H.at1 j _ hj rfl] at hv1
 obtain rfl : v = ixV k := DataW.held.inj hv1
 rw [(H.has1 _).2 hin] at hrun
 rw [drop_in hj]
 have hjl := (List.getElem?_eq_some_iff.1 hj).1
 obtain ⟨A, B, hA, hB, hA1, hB1⟩ := rowI_cut hj
 have HJ := Lib.hid (And.intro hj (And.intro hA (And.intro hB (And.intro hA1 hB1))))
 have hrk : rowI k ks ≠ [] := by rw [hA]; simp
 obtain ⟨m, hm⟩ : ∃ m, (rowI k ks).length = m := ⟨_, rfl⟩
 have HM := Lib.hid hm
 have hml : m ≤ 400000 := by rw [← hm]; exact Nat.le_trans selI_len hl
 have hm1 : A.length + 1 + B.length = m := by rw [← hm, hA, List.length_append, List.length_cons]; omega
 have hrow := H.row k hk hrk
 rw [hm] at hrow
 obtain ⟨g, cap, cur, hrv, _, hg, hc1, hc2, hc3, hc4⟩ := hrow.2.resolve_left (fun e => by have := e.2; omega)
 obtain ⟨b1, b2, b3, b4⟩ := H.blk k hk hrk g (by rw [hrv]; rfl)
 have hgl := H.lt g b1
 have HG := Lib.hid (And.intro hrv (And.intro hg (And.intro hc1 (And.intro hc2 (And.intro hc3 hc4)))))
 have HR := Lib.hid (show w.ownsRow 0 3 1 (.slice (some ⟨g, 0, none⟩) m cap) m ((rowI k ks).flatMap numCells) from by rw [← hrv]; exact hrow)
 have hN := H.ne
 have hkb := H.lt kb H.inF.2.1
 have hrb := H.lt rb H.inF.2.2
 obtain ⟨vr, hvr, hvo⟩ := H.look hk
 obtain rfl : vr = .slice (some ⟨g, 0, none⟩) m cap := by
  rcases hvo with ⟨e, _⟩ | ⟨_, e⟩
  ·exact absurd e hrk
  ·rw [e, hrv]
 have hrun' : (Instr.lookup 128 (.map (some kb)) (.int .i64 (j : Int)) true).run Try.prog w = .ok (.tuple #[.agg #[.int .i64 k.k, .int .i64 k.n, .string k.s, .int .i64 k.ar], .bool true]) w := hrun
 obtain ⟨w1, e1, B1, z1, X1⟩ := box_new w #[.int .i64 k.k, .int .i64 k.n, .string k.s, .int .i64 k.ar] 76
 obtain ⟨qb, hqb⟩ : ∃ qb, w.heap.size = qb := ⟨_, rfl⟩
 rw [hqb] at X1
 have HE := Lib.hid (And.intro e1 hqb)
 have HB1 := Lib.hid B1
 have HX1 := Lib.hid X1
 have HXB := Lib.hid (H.box.ext B1)
 have O1 := owns_mapN (w' := w1) H.own1 (B1.block kb hkb)
 obtain ⟨w2, r2, o2, t2⟩ := O1.drop (int_keyed Try.underlying3) Try.underlying128 (keyOf_int_mk Try.underlying3 (a := (j : Int)) (ixWf hi)) 0
 have HO2 := Lib.hid o2
 have t2' := turned_touch t2
 have HT2 := Lib.hid (show Touch [kb] w w2 from (Touch.of_below B1 [kb]).on t2')
 have hqk : qb ≠ kb := by omega
 have hqr : qb ≠ rb := by omega
 have hqg : qb ≠ g := by omega
 have HX2 := Lib.hid (And.intro (X1.block (t2'.block qb X1.lt (by simp; exact hqk)) (Nat.lt_of_lt_of_le X1.lt t2'.size)) (HXB.out.block (t2'.block xb HXB.out.lt (by simp; exact hN.1)) (Nat.lt_of_lt_of_le HXB.out.lt t2'.size)))
 have HVR := Lib.hid hvr
 have HIN := Lib.hid H.inF
 clear H hv hv1 hrun hin hj hA hB hA1 hB1 hrow hvr hvo hm hg hc4 hc3 O1 o2 t2 t2' B1 X1 z1 hqb hrv
 go_enter Try.func45, Try.ntmps45
 go_upto_region 2 with fail
 (try rw [e1])
 (try rw [HE.out.2])
 clear e1 hrun' i1
 have i1 := HXB.out.cells 1 _ rfl
 go_upto_region 5 with fail
 clear i1
 have hS : ∀ wq : World, Box wq qb [.int .i64 k.k, .int .i64 k.n, .string k.s, .int .i64 k.ar] → Box wq xb [.int .i64 (ks.length : Int), .map (some kb), .map (some rb)] → wq.cell? ⟨xb, 2, none⟩ = some (.map (some rb)) ∧ (wq.cell? ⟨qb, 0, none⟩ = some (.int .i64 k.k) ∧ wq.cell? ⟨qb, 1, none⟩ = some (.int .i64 k.n) ∧ wq.cell? ⟨qb, 2, none⟩ = some (.string k.s) ∧ wq.cell? ⟨qb, 3, none⟩ = some (.int .i64 k.ar)) := fun wq h1 h2 => by
  obtain ⟨x0, x1, x2, x3, _⟩ := h1.four
  exact ⟨h2.cells 2 _ rfl, x0, x1, x2, x3⟩
 have HS := Lib.hid hS
 obtain ⟨wd, ewd⟩ : ∃ wd, w2.drew = wd := ⟨_, rfl⟩
 have HBd := Lib.hid (show Below w2.heap.size w2 wd from by rw [← ewd]; exact (Below.refl _ _).drew)
 have HTd := Lib.hid (HT2.out.on (Touch.of_below HBd.out [kb]))
 have HXd := Lib.hid (And.intro (HX2.out.1.ext HBd.out) (HX2.out.2.ext HBd.out))
 have hrd : wd.heap[rb]? = w.heap[rb]? := HTd.out.block rb hrb (by simp; exact fun e => hN.2.2 e.symm)
 have hrun := HVR.out wd hrd
 refine wp_region_held_drew (S := fun wq => (wq.cell? ⟨xb, 2, none⟩ = some (.map (some rb)) ∧ (wq.cell? ⟨qb, 0, none⟩ = some (.int .i64 k.k) ∧ wq.cell? ⟨qb, 1, none⟩ = some (.int .i64 k.n) ∧ wq.cell? ⟨qb, 2, none⟩ = some (.string k.s) ∧ wq.cell? ⟨qb, 3, none⟩ = some (.int .i64 k.ar))) ∧ (Instr.lookup 129 (.map (some rb)) (.agg #[.int .i64 k.k, .int .i64 k.n, .string k.s, .int .i64 k.ar]) false).run Try.prog wq = .ok (.slice (some ⟨g, 0, none⟩) m cap) wq) (by kernel_rfl) (by rw [ewd]; exact ⟨HS.out _ HXd.out.1 HXd.out.2, hrun⟩) (fun hHeld => ?_)
 rw [ewd] at hHeld ⊢
 clear ewd
 first | (refine held_t (i := 0) hHeld ?_; constructor; constructor; intro wq hq; focus ((try dsimp only at hq); go_simp; first | done | with_reducible rfl | fail)) | refine held_s (i := 0) hHeld ?_ | fail
 first | (refine held_t (i := 1) hHeld ?_; constructor; constructor; intro wq hq; focus ((try dsimp only at hq); go_simp; first | done | with_reducible rfl | fail)) | refine held_s (i := 1) hHeld ?_ | fail
 first | (refine held_t (i := 2) hHeld ?_; constructor; constructor; intro wq hq; focus ((try dsimp only at hq); go_simp; first | done | with_reducible rfl | fail)) | refine held_s (i := 2) hHeld ?_ | fail
 first | (refine held_t (i := 3) hHeld ?_; constructor; constructor; intro wq hq; focus ((try dsimp only at hq); go_simp; first | done | with_reducible rfl | fail)) | refine held_s (i := 3) hHeld ?_ | fail
 first | (refine held_t (i := 4) hHeld ?_; constructor; constructor; intro wq hq; focus ((try dsimp only at hq); go_simp; first | done | with_reducible rfl | fail)) | refine held_s (i := 4) hHeld ?_ | fail
 first | (refine held_t (i := 5) hHeld ?_; constructor; constructor; intro wq hq; focus ((try dsimp only at hq); go_simp; first | done | with_reducible rfl | fail)) | refine held_s (i := 5) hHeld ?_ | fail
 first | (refine held_t (i := 6) hHeld ?_; constructor; constructor; intro wq hq; focus ((try dsimp only at hq); go_simp; first | done | with_reducible rfl | fail)) | refine held_s (i := 6) hHeld ?_ | fail
 try simp only [Act.put, lay4]
 refine wpAnyH_done (by kernel_rfl) ?_ _
 clear hHeld hrun hS
 by_cases hmo : m = 1
 ·have hmo' : ((m : Int) == 1) = true := by simp; omega
  have hempty : rowI k (ks.set j (k, false)) = [] := by
   rw [HJ.out.2.2.1]
   have h1 : A = [] := List.length_eq_zero_iff.1 (by omega)
   have h2 : B = [] := List.length_eq_zero_iff.1 (by omega)
   rw [h1, h2]
   rfl
  have HEM := Lib.hid hempty
  clear hempty
  go_upto_region 7 with fail
  obtain ⟨we, ewe⟩ : ∃ we, wd.drew = we := ⟨_, rfl⟩
  have HBe := Lib.hid (show Below wd.heap.size wd we from by rw [← ewe]; exact (Below.refl _ _).drew)
  have HXe := Lib.hid (And.intro (HXd.out.1.ext HBe.out) (HXd.out.2.ext HBe.out))
  have hre : we.heap[rb]? = w.heap[rb]? := (HBe.out.block rb (Nat.lt_of_lt_of_le hrb HTd.out.size)).trans hrd
  obtain ⟨w3, r3, o3, t3⟩ := (owns_mapN HH.out.own2 hre).drop ixLaw Try.underlying129 (ixKeyOf hk) 0
  have r3' : (Builtin.delete_ #[129, 76] 0 #[.map (some rb), .agg #[.int .i64 k.k, .int .i64 k.n, .string k.s, .int .i64 k.ar]]).run Try.prog we = .ok (.tuple #[]) w3 := r3
  have t3' := turned_touch t3
  have HO3 := Lib.hid o3
  have HX3 := Lib.hid (And.intro (HXe.out.1.block (t3'.block qb HXe.out.1.lt (by simp; exact hqr)) (Nat.lt_of_lt_of_le HXe.out.1.lt t3'.size)) (HXe.out.2.block (t3'.block xb HXe.out.2.lt (by simp; exact hN.2.1)) (Nat.lt_of_lt_of_le HXe.out.2.lt t3'.size)))
  have HT3 := Lib.hid (And.intro t3' (show Touch [kb, rb] w w3 from ((HTd.out.wide (by simp)).on (Touch.of_below HBe.out _)).on (t3'.wide (by simp))))
  clear t3 t3' r3 o3
  refine wp_region_held_drew (S := fun wq => wq.cell? ⟨xb, 2, none⟩ = some (.map (some rb)) ∧ (wq.cell? ⟨qb, 0, none⟩ = some (.int .i64 k.k) ∧ wq.cell? ⟨qb, 1, none⟩ = some (.int .i64 k.n) ∧ wq.cell? ⟨qb, 2, none⟩ = some (.string k.s) ∧ wq.cell? ⟨qb, 3, none⟩ = some (.int .i64 k.ar))) (by kernel_rfl) (by rw [ewe]; exact HS.out _ HXe.out.1 HXe.out.2) (fun hHeld => ?_)
  rw [ewe] at hHeld ⊢
  clear ewe
  first | (refine held_t (i := 0) hHeld ?_; constructor; constructor; intro wq hq; focus ((try dsimp only at hq); go_simp; first | done | with_reducible rfl | fail)) | refine held_s (i := 0) hHeld ?_ | fail
  first | (refine held_t (i := 1) hHeld ?_; constructor; constructor; intro wq hq; focus ((try dsimp only at hq); go_simp; first | done | with_reducible rfl | fail)) | refine held_s (i := 1) hHeld ?_ | fail
  first | (refine held_t (i := 2) hHeld ?_; constructor; constructor; intro wq hq; focus ((try dsimp only at hq); go_simp; first | done | with_reducible rfl | fail)) | refine held_s (i := 2) hHeld ?_ | fail
  first | (refine held_t (i := 3) hHeld ?_; constructor; constructor; intro wq hq; focus ((try dsimp only at hq); go_simp; first | done | with_reducible rfl | fail)) | refine held_s (i := 3) hHeld ?_ | fail
  first | (refine held_t (i := 4) hHeld ?_; constructor; constructor; intro wq hq; focus ((try dsimp only at hq); go_simp; first | done | with_reducible rfl | fail)) | refine held_s (i := 4) hHeld ?_ | fail
  try simp only [Act.put, lay4]
  refine held_c 5 fun K hK => ?_
  go_simp
  skip
  refine hK.out _ _ (HS.out _ HX3.out.1 HX3.out.2) (fun hHeld => ?_)
  clear hK K
  try simp only [Act.put, lay4]
  refine wpAnyH_done (by kernel_rfl) ?_ _
  clear hHeld r3'
  have HFin := Lib.hid (show IsX w3 F (.pointer (some ⟨xb, 0, none⟩)) (ks.set j (k, false)) from by
   have hk3 : w3.heap[kb]? = w2.heap[kb]? := (HT3.out.1.block kb (Nat.lt_of_lt_of_le (Nat.lt_of_lt_of_le hkb HTd.out.size) HBe.out.size) (by simp; exact hN.2.2)).trans ((HBe.out.block kb (Nat.lt_of_lt_of_le hkb HTd.out.size)).trans (HBd.out.block kb (Nat.lt_of_lt_of_le hkb HT2.out.size)))
   exact HH.out.dropped (v' := .slice none 0 0) HJ.out.1 (HT3.out.2.wide (fun q hq => List.mem_append_left _ hq)) (owns_mapN HO2.out hk3) HO3.out (Or.inl ⟨HEM.out, rfl⟩))
  have HTF := Lib.hid (HT3.out.2.wide (F' := F) (fun q hq => by
   simp at hq
   rcases hq with rfl | rfl
   ·exact HIN.out.2.1
   ·exact HIN.out.2.2))
  go_wp2
  go_ret
  exact ⟨rfl, HFin.out, HTF.out⟩
 have hmo' : ((m : Int) == 1) = false := by simp; omega
 have hgd : wd.heap[g]? = w.heap[g]? := HTd.out.block g hgl (by simp; exact b3)
 have hcell : ∀ q, q < (rowI k ks).length → wd.cell? ⟨g, 0 + q, none⟩ = some (.int .i64 ((rowI k ks).getD q 0)) := fun q hq => by
  have hN1 : Nums w (.slice (some ⟨g, 0, none⟩) m cap) (rowI k ks) := by
   have := HR.out
   rw [← HM.out] at this ⊢
   exact Elems.owned (cells := numCells) (fun _ => rfl) this
  obtain ⟨b', off, e, _, hc⟩ := hN1.get (List.getElem?_eq_getElem hq)
  cases e
  rw [World.cell?_of_block hgd, hc]
  simp [List.getD_eq_getElem?_getD, List.getElem?_eq_getElem hq]
 have CB := Try.slices_BinarySearch_int g 0 m cap (rowI k ks) (j : Int) wd (by rw [HM.out]; exact Nat.le_refl _) (by omega) hcell (by
  refine List.Pairwise.sublist (List.take_sublist _ _) ((selI_rising (p := isK k) (l := ks) (i := 0)).imp fun {a b} hab => by omega))
 have hcnt : ((rowI k ks).take m).countP (fun x => decide (x < (j : Int))) = A.length := by
  rw [List.take_of_length_le (by rw [HM.out]; exact Nat.le_refl _), HJ.out.2.1]
  exact count_cut HJ.out.2.2.2.1 HJ.out.2.2.2.2
 rw [hcnt] at CB
 obtain ⟨al, hal⟩ : ∃ al, A.length = al := ⟨_, rfl⟩
 have HAL := Lib.hid hal
 rw [hal] at CB hm1
 generalize ((rowI k ks).take m).contains (j : Int) = cb at CB
 clear hcnt hal hcell
 (go_wp2_with fail; go_fit (CB); rintro e w4 ⟨rfl, q4, hw4⟩)
 have HB4 := Lib.hid (show Below wd.heap.size wd w4 from by rw [hw4]; exact bel_drewN (Below.refl _ _) q4)
 clear hw4 CB
 have hwr : IntKind.i64.wrap ((al : Int) + 1) = (al : Int) + 1 := by rw [IntKind.wrap_i64]; omega
 go_upto_region 10 with fail
 obtain ⟨w5, ew5⟩ : ∃ w5, w4.drew = w5 := ⟨_, rfl⟩
 have HB5 := Lib.hid (Ext.trans' HB4.out (show Below w4.heap.size w4 w5 from by rw [← ew5]; exact (Below.refl _ _).drew))
 have HX5 := Lib.hid (And.intro (HXd.out.1.ext HB5.out) (HXd.out.2.ext HB5.out))
 have HT5 := Lib.hid (show Touch [kb, rb] w w5 from (HTd.out.wide (by simp)).on (Touch.of_below HB5.out _))
 have hg5 : w5.heap[g]? = some (.cells cur 3 (0, 0)) := ((HB5.out.block g (Nat.lt_of_lt_of_le hgl HTd.out.size)).trans hgd).trans HG.out.2.1
 have hcc : cur.toList.take (rowI k ks).length = (rowI k ks).map encZ := by
  have := HG.out.2.2.2.2.2
  rw [Nat.mul_one, num_cells] at this
  rw [HM.out]
  exact this
 have CD := Try.slices_Delete_int g 0 cap al (al + 1) (rowI k ks) w5 (holds_of_block_i hg5 hcc) (by rw [HM.out]; exact hc1) (by unfold maxLen at hc2; omega) (by omega) (by rw [HM.out]; omega)
 rw [show ((al + 1 : Nat) : Int) = (al : Int) + 1 by omega, show (rowI k ks).length - (al + 1 - al) = m - 1 by rw [HM.out]; omega, HM.out] at CD
 have HCut := Lib.hid (show (rowI k ks).take al ++ (rowI k ks).drop (al + 1) ++ List.replicate (al + 1 - al) 0 = A ++ B ++ [0] from by
  have h1 : (A ++ (j : Int) :: B).take A.length = A := List.take_left' rfl
  have h2 : (A ++ (j : Int) :: B).drop (A.length + 1) = B := by
   rw [← List.drop_drop, List.drop_left' rfl]
   rfl
  rw [HJ.out.2.1, ← HAL.out, h1, h2, show A.length + 1 - A.length = 1 by omega]
  rfl)
 rw [HCut.out] at CD
 have HAB := Lib.hid (show (A ++ B).length = m - 1 ∧ (A ++ B ++ [0]).length = (rowI k ks).length from by
  rw [HM.out, List.length_append, List.length_append, List.length_append, HAL.out]
  simp
  omega)
 have HCD := Lib.hid CD
 have HG5 := Lib.hid hg5
 clear CD hg5 hcc
 refine wp_region_held_drew (S := fun wq => wq.cell? ⟨xb, 2, none⟩ = some (.map (some rb)) ∧ (wq.cell? ⟨qb, 0, none⟩ = some (.int .i64 k.k) ∧ wq.cell? ⟨qb, 1, none⟩ = some (.int .i64 k.n) ∧ wq.cell? ⟨qb, 2, none⟩ = some (.string k.s) ∧ wq.cell? ⟨qb, 3, none⟩ = some (.int .i64 k.ar))) (by kernel_rfl) (by rw [ew5]; exact HS.out _ HX5.out.1 HX5.out.2) (fun hHeld => ?_)
 rw [ew5] at hHeld ⊢
 clear ew5
 first | (refine held_t (i := 0) hHeld ?_; constructor; constructor; intro wq hq; focus ((try dsimp only at hq); go_simp; first | done | with_reducible rfl | fail)) | refine held_s (i := 0) hHeld ?_ | fail
 first | (refine held_t (i := 1) hHeld ?_; constructor; constructor; intro wq hq; focus ((try dsimp only at hq); go_simp; first | done | with_reducible rfl | fail)) | refine held_s (i := 1) hHeld ?_ | fail
 first | (refine held_t (i := 2) hHeld ?_; constructor; constructor; intro wq hq; focus ((try dsimp only at hq); go_simp; first | done | with_reducible rfl | fail)) | refine held_s (i := 2) hHeld ?_ | fail
 first | (refine held_t (i := 3) hHeld ?_; constructor; constructor; intro wq hq; focus ((try dsimp only at hq); go_simp; first | done | with_reducible rfl | fail)) | refine held_s (i := 3) hHeld ?_ | fail
 first | (refine held_t (i := 4) hHeld ?_; constructor; constructor; intro wq hq; focus ((try dsimp only at hq); go_simp; first | done | with_reducible rfl | fail)) | refine held_s (i := 4) hHeld ?_ | fail
 first | (refine held_t (i := 5) hHeld ?_; constructor; constructor; intro wq hq; focus ((try dsimp only at hq); go_simp; first | done | with_reducible rfl | fail)) | refine held_s (i := 5) hHeld ?_ | fail
 first | (refine held_t (i := 6) hHeld ?_; constructor; constructor; intro wq hq; focus ((try dsimp only at hq); go_simp; first | done | with_reducible rfl | fail)) | refine held_s (i := 6) hHeld ?_ | fail
 first | (refine held_t (i := 7) hHeld ?_; constructor; constructor; intro wq hq; focus ((try dsimp only at hq); go_simp; first | done | with_reducible rfl | fail)) | refine held_s (i := 7) hHeld ?_ | fail
 first | (refine held_t (i := 8) hHeld ?_; constructor; constructor; intro wq hq; focus ((try dsimp only at hq); go_simp; first | done | with_reducible rfl | fail)) | refine held_s (i := 8) hHeld ?_ | fail
 try simp only [Act.put, lay4]
 refine held_c 9 fun K hK => ?_
 go_simp
 (go_at_call 85; refine HCD.out.mono ?_; rintro e w6 ⟨rfl, q6, hw6⟩; have hw6' : w6 = grow (putRow encZ (Sort.ahead w5 q6) g 0 (A ++ B ++ [0]).toArray) #[] := (by rw [grow_empty]; exact hw6); have HG6 := Lib.hid (show w5.grownBy w6 (some g) from by rw [hw6']; exact grownBy_sorted_i _); have HR6 := Lib.hid (show w6.ownsRow 0 3 1 (.slice (some ⟨g, 0, none⟩) m cap) m ((A ++ B ++ [0]).map encZ) from by rw [hw6', ← HM.out]; exact ownsRow_sorted_i HAB.out.2 (Nat.zero_le _) HG5.out (by rw [HM.out]; exact hc1) hc2 HG.out.2.2.2.2.1); have HX6 := Lib.hid (And.intro (HX5.out.1.block (HG6.out.block qb HX5.out.1.lt (fun e => by injection e with e; exact hqg e)) (Nat.lt_of_lt_of_le HX5.out.1.lt HG6.out.size)) (HX5.out.2.block (HG6.out.block xb HX5.out.2.lt (fun e => by injection e with e; exact b2 e.symm)) (Nat.lt_of_lt_of_le HX5.out.2.lt HG6.out.size))); clear hw6 hw6')
 refine hK.out _ _ (HS.out _ HX6.out.1 HX6.out.2) (fun hHeld => ?_)
 clear hK K
 try simp only [Act.put, lay4]
 have hr5 : rb < w5.heap.size := Nat.lt_of_lt_of_le hrb HT5.out.size
 have hr6 : w6.heap[rb]? = w.heap[rb]? := (HG6.out.block rb hr5 (fun e => by injection e with e; exact b4 e.symm)).trans ((HB5.out.block rb (Nat.lt_of_lt_of_le hrb HTd.out.size)).trans hrd)
 obtain ⟨w7, r7, o7, t7⟩ := (owns_mapN HH.out.own2 hr6).store (val := .slice (some ⟨g, 0, none⟩) (m - 1) cap) ixLaw Try.underlying129 (by unfold maxLen; omega) (ixKeyOf hk) (show keepV (.slice (some ⟨g, 0, none⟩) (m - 1) cap) = some (.held (.slice (some ⟨g, 0, none⟩) (m - 1) cap), []) from rfl)
 have r7' : (Instr.mapUpdate 129 (.map (some rb)) (.agg #[.int .i64 k.k, .int .i64 k.n, .string k.s, .int .i64 k.ar]) (.slice (some ⟨g, 0, none⟩) (m - 1) cap)).run Try.prog w6 = .ok () w7 := r7
 have t7' := turned_touch t7
 have HO7 := Lib.hid o7
 have HX7 := Lib.hid (And.intro (HX6.out.1.block (t7'.block qb HX6.out.1.lt (by simp; exact hqr)) (Nat.lt_of_lt_of_le HX6.out.1.lt t7'.size)) (HX6.out.2.block (t7'.block xb HX6.out.2.lt (by simp; exact hN.2.1)) (Nat.lt_of_lt_of_le HX6.out.2.lt t7'.size)))
 have HT7 := Lib.hid (And.intro t7' (show Touch [kb, rb, g] w w7 from ((HT5.out.wide (by simp)).on (Touch.grownX HG6.out (fun q hq => by injection hq with hq; simp [hq]))).on (t7'.wide (by simp))))
 clear t7 t7' r7 o7
 refine held_c 10 fun K hK => ?_
 go_simp
 skip
 refine hK.out _ _ (HS.out _ HX7.out.1 HX7.out.2) (fun hHeld => ?_)
 clear hK K
 try simp only [Act.put, lay4]
 refine wpAnyH_done (by kernel_rfl) ?_ _
 clear hHeld r7'
 have HFin := Lib.hid (show IsX w7 F (.pointer (some ⟨xb, 0, none⟩)) (ks.set j (k, false)) from by
  have hkd : kb < wd.heap.size := Nat.lt_of_lt_of_le hkb HTd.out.size
  have hk5 : kb < w5.heap.size := Nat.lt_of_lt_of_le hkd HB5.out.size
  have hk7 : w7.heap[kb]? = w2.heap[kb]? := (HT7.out.1.block kb (Nat.lt_of_lt_of_le hk5 HG6.out.size) (by simp; exact hN.2.2)).trans ((HG6.out.block kb hk5 (fun e => by injection e with e; exact b3 e.symm)).trans ((HB5.out.block kb hkd).trans (HBd.out.block kb (Nat.lt_of_lt_of_le hkb HT2.out.size))))
  refine HH.out.dropped (v' := .slice (some ⟨g, 0, none⟩) (m - 1) cap) HJ.out.1 (by rw [HG.out.1]; exact HT7.out.2) (owns_mapN HO2.out hk7) HO7.out (Or.inr ⟨?_, rfl, by rw [HG.out.1]; rfl, ?_⟩)
  ·rw [HJ.out.2.2.1]
   intro e
   have := HAB.out.1
   rw [e] at this
   simp at this
   omega
  ·rw [HJ.out.2.2.1, HAB.out.1, num_cells]
   have h := row_less HR6.out (show m - 1 ≤ m by omega) (by omega)
   have e : ((A ++ B ++ [0]).map encZ).take (m - 1) = (A ++ B).map encZ := by
    rw [List.map_append, ← HAB.out.1]
    exact List.take_left' (by rw [List.length_map])
   rw [e] at h
   exact row_at h (fun q hq => by
    cases hq
    exact HT7.out.1.block g (Nat.lt_of_lt_of_le (Nat.lt_of_lt_of_le hgl HT5.out.size) HG6.out.size) (by simp; exact b4)))
 have HTF := Lib.hid (HT7.out.2.wide (F' := F) (fun q hq => by
  simp at hq
  rcases hq with rfl | rfl | rfl
  ·exact HIN.out.2.1
  ·exact HIN.out.2.2
  ·exact b1))
 go_wp2
 go_ret
 exact ⟨rfl, HFin.out, HTF.out⟩
end Go.Proofs.Ytchbbaehdcmcfaa
/- Package index: Pick over a row of keys; the law's ints. -/
namespace Go.Proofs.Ytchbbaehdcmcfaa
open Go.RowKit
set_option linter.unusedVariables false
def Keys (w : World) (v : Value) (l : List KeyM) : Prop := Elems 4 ixCells w v l
theorem Keys.ext {w w' : World} {v : Value} {l : List KeyM} (h : Keys w v l) (hb : Below w.heap.size w w') : Keys w' v l := Elems.ext h hb
theorem Keys.len {w : World} {v : Value} {l : List KeyM} (h : Keys w v l) : ∃ a c, v = .slice a l.length c ∧ l.length ≤ c ∧ c ≤ maxLen := by
 obtain ⟨a, c, h1, h2, h3, _⟩ := h
 exact ⟨a, c, h1, h2, h3⟩
theorem Keys.get {w : World} {a : Option Addr} {m c : Nat} {l : List KeyM} (h : Keys w (.slice a m c) l) {i : Nat} {x : KeyM} (hx : l[i]? = some x) : ∃ b off, a = some ⟨b, off, none⟩ ∧ b < w.heap.size ∧ w.cell? ⟨b, off + i * 4, none⟩ = some (.int .i64 x.k) ∧ w.cell? ⟨b, off + i * 4 + 1, none⟩ = some (.int .i64 x.n) ∧ w.cell? ⟨b, off + i * 4 + 2, none⟩ = some (.string x.s) ∧ w.cell? ⟨b, off + i * 4 + 3, none⟩ = some (.int .i64 x.ar) := by
 obtain ⟨a', c', e, h1, h2, h3⟩ := h
 cases e
 rcases h3 with rfl | ⟨b, off, rfl, hb, hc⟩
 ·simp at hx
 ·have c0 := hc i x hx 0 _ rfl
  have c1 := hc i x hx 1 _ rfl
  have c2 := hc i x hx 2 _ rfl
  have c3 := hc i x hx 3 _ rfl
  rw [Nat.add_zero] at c0
  rw [← Nat.add_assoc] at c1 c2 c3
  exact ⟨b, off, rfl, hb, c0, c1, c2, c3⟩
theorem pickF_len (k : KeyM) : ∀ (l : List KeyM) (i : Nat), (pickF k l i).length ≤ l.length
 | [], i => Nat.le_refl _
 | a :: l, i => by
  have := pickF_len k l (i + 1)
  rw [pickF]
  split
  ·simp only [List.length_cons]; omega
  ·simp only [List.length_cons]; omega
theorem pickF_next {k : KeyM} {l : List KeyM} {i : Nat} {x : KeyM} (h : l[i]? = some x) : pickF k (l.take (i + 1)) 0 = pickF k (l.take i) 0 ++ (if mayK x k = true then [(i : Int)] else []) := by
 have hi := (List.getElem?_eq_some_iff.1 h).1
 rw [take_next h, pickF_snoc, List.length_take, Nat.min_eq_left (by omega)]
set_option maxHeartbeats 4000000 in
set_option maxRecDepth 100000 in
theorem ixPick_at {w : World} {v : Value} {l : List KeyM} (h : Keys w v l) (hl : l.length ≤ 1000000) (k : KeyM) :
    Calls Try.prog 50 #[v, ixV k] w fun e w' => ∃ r, e = .returned r ∧ w'.ownsRow w.heap.size 3 1 r (pickF k l 0).length ((pickF k l 0).flatMap numCells) ∧ Below w.heap.size w w' := by
  obtain ⟨a, c, rfl, h1, h2⟩ := h.len
  unfold maxLen at h2
  obtain ⟨m, hm⟩ : ∃ m, l.length = m := ⟨_, rfl⟩
  have HM := Lib.hid hm
  rw [hm] at h h1 hl ⊢
  have HK := Lib.hid h
  obtain ⟨w1, e1, B1, z1, X1⟩ := box_new w #[.int .i64 k.k, .int .i64 k.n, .string k.s, .int .i64 k.ar] 76
  have HE := Lib.hid e1
  have HB1 := Lib.hid B1
  have HX1 := Lib.hid X1
  obtain ⟨i0, hi0, hz0, hs0, hb0⟩ := infoIntP
  obtain ⟨R, hR⟩ : ∃ R, pickF k l 0 = R := ⟨_, rfl⟩
  have HR := Lib.hid hR
  rw [hR]
  clear hm h e1 B1 z1 X1 hR
  go_enter Try.func50, Try.ntmps50
  go_upto_region 1 with fail
  (try rw [HE.out])
  clear HE
  go_wp2_with fail
  go_loopw [5, 10] (fun r z wr => ∃ (i q cr : Nat) (ar : Option Addr), i ≤ m ∧ z = .int .i64 i ∧ r = .slice ar q cr ∧ Hid ((pickF k (l.take i) 0).length = q) ∧ Hid (wr.ownsRow w1.heap.size 3 1 (.slice ar q cr) q ((pickF k (l.take i) 0).flatMap numCells)) ∧ Hid (Below w1.heap.size w1 wr)) (fun _ z _ => m - (RowKit.intOf z).toNat)
  case atStart => exact ⟨0, 0, 0, none, Nat.zero_le _, rfl, rfl, Lib.hid rfl, Lib.hid (World.ownsRow_nil _ _ _ _), Lib.hid (Below.refl _ _)⟩
  case round =>
    obtain ⟨i, q, cr, ar, hi, rfl, rfl, HQ, HRow, HB⟩ := hrel
    by_cases him : i < m
    · obtain ⟨x, hx⟩ : ∃ x, l[i]? = some x := ⟨_, List.getElem?_eq_getElem (by rw [HM.out]; exact him)⟩
      have HBr := Lib.hid (Ext.trans' HB1.out HB.out)
      have HNX := Lib.hid (pickF_next (k := k) hx)
      have hq : q ≤ i := by
        rw [← HQ.out]
        exact Nat.le_trans (pickF_len k _ 0) (by rw [List.length_take]; omega)
      obtain ⟨b, off, rfl, hbb, c0, c1, c2, c3⟩ := (HK.out.ext HBr.out).get hx
      clear hx
      go_upto_region 5 with fail
      obtain ⟨w2, e2, B2, z2, X2⟩ := box_new wr #[.int .i64 x.k, .int .i64 x.n, .string x.s, .int .i64 x.ar] 76
      (try rw [e2])
      obtain ⟨y0, y1, y2, y3, _⟩ := X2.four
      obtain ⟨x0, x1, x2, x3, _⟩ := (HX1.out.ext (Ext.trans' HB.out B2)).four
      have HB2 := Lib.hid B2
      clear e2 B2 z2 X2 c0 c1 c2 c3 hbb
      have C := ixMay_at x k w2
      obtain ⟨mb, hmb⟩ : ∃ mb, mayK x k = mb := ⟨_, rfl⟩
      have HMB := Lib.hid hmb
      rw [hmb] at C
      clear hmb
      (go_wp2_with fail; go_fit (C); rintro e w3 ⟨rfl, b3⟩)
      have HB3 := Lib.hid (Ext.trans' HB2.out b3)
      have HRow3 := Lib.hid (show w3.ownsRow w1.heap.size 3 1 (.slice ar q cr) q ((pickF k (l.take i) 0).flatMap numCells) from row_at HRow.out (fun g hg => HB3.out.block g (row_in HRow.out hg).2))
      have HBB3 := Lib.hid (Ext.trans' HB.out HB3.out)
      clear b3 C x0 x1 x2 x3 y0 y1 y2 y3
      cases mb
      · have HN := Lib.hid (show pickF k (l.take (i + 1)) 0 = pickF k (l.take i) 0 from by rw [HNX.out, HMB.out, if_neg (by simp), List.append_nil])
        go_wp2
        go_roundw
        case rel => exact ⟨i + 1, q, cr, ar, him, by go_num, by go_num, Lib.hid (by rw [HN.out]; exact HQ.out), Lib.hid (by rw [HN.out]; exact HRow3.out), HBB3⟩
        case measure => simp [RowKit.intOf]; omega
      · have HN := Lib.hid (show pickF k (l.take (i + 1)) 0 = pickF k (l.take i) 0 ++ [(i : Int)] from by rw [HNX.out, HMB.out, if_pos rfl])
        have HSZ := Lib.hid HBB3.out.size
        go_wp2_with (first
          | (at_builtin; refine wpList_append_k rfl _ _ 81 rfl w1.heap.size 3 i0 (.int .i64 0) 1 8 Try.underlying81 hi0 hz0 hs0 (by decide) hb0 rfl (.slice ar q cr) q ((pickF k (l.take i) 0).flatMap numCells) rfl (row_at HRow3.out (fun g hg => (bel1' w3 _).block g (row_in HRow3.out hg).2)) (some ⟨w3.heap.size, 0, none⟩) 1 1 [.int .i64 (i : Int)] rfl rfl (Or.inr ⟨_, rfl, fun jj uu hu => cell_new w3 #[.int .i64 (i : Int)] _ jj uu hu⟩) (by simp [Value.oneCell']) (by unfold maxLen; omega) (by omega) (by have := HSZ.out; simp; omega) (q + 1) ((pickF k (l.take i) 0).flatMap numCells ++ [.int .i64 (i : Int)]) rfl rfl ?_; intro a4 c4 w4 hown4 hgrow4 hat4
             have HO4 := Lib.hid hown4
             have HB4 := Lib.hid (show Below w1.heap.size w1 w4 from (HBB3.out.trans ((bel1' w3 _).mono HBB3.out.size)).grown hgrow4 (by have := HBB3.out.size; simp; omega) (fun g hg => (row_in HRow3.out hg).1))
             clear hown4 hgrow4 hat4)
          | fail)
        go_roundw
        case rel => exact ⟨i + 1, q + 1, c4, a4, him, by go_num, by go_num, Lib.hid (by rw [HN.out, List.length_append, HQ.out]; rfl), Lib.hid (by rw [HN.out, List.flatMap_append]; exact HO4.out), HB4⟩
        case measure => simp [RowKit.intOf]; omega
    · have hie : m = i := by omega
      subst hie
      have HQ2 := Lib.hid (show pickF k (l.take m) 0 = R from by rw [List.take_of_length_le (by rw [HM.out]; exact Nat.le_refl _)]; exact HR.out)
      have hmx : ¬ (m : Int) < m := by omega
      go_wp2
      go_ret
      refine ⟨_, rfl, ?_, Ext.trans' HB1.out HB.out⟩
      have h1 := HRow.out
      rw [HQ2.out] at h1
      have hqR : R.length = q := by rw [← HQ2.out]; exact HQ.out
      rw [hqR]
      exact ownsRow_base_a h1 HB1.out.size
end Go.Proofs.Ytchbbaehdcmcfaa
