import Derived.Test.YtchbbaehdcmcfaaHzrzz
import Derived.Test.YtchbbaehdcmcfaaHzrae
import Derived.Test.YtchbbaehdcmcfaaHzrad
import Derived.Deep.RegionHeld3
import Derived.Deep.Cut
import Derived.Deep.CutRange
import Derived.Deep.CutBlock
import Derived.Test.YtchbbaehdcmcfaaHzraa
import Derived.Test.YtchbbaehdcmcfaaRows
set_option linter.unusedVariables false
set_option linter.unusedSimpArgs false
/- Stage 16's laws: IndexPlays. -/
namespace Go.Proofs.Ytchbbaehdcmcfaa
open Go.RowKit
set_option linter.unusedVariables false
def Rel (ks : List (KeyM × Bool)) (kl : List KeyM) (q : Nat) : Prop := ks.map (·.1) = kl.map plainK ∧ (∀ k ∈ kl, ixOk k) ∧ kl.length = q
theorem Rel.len {ks : List (KeyM × Bool)} {kl : List KeyM} {q : Nat} (h : Rel ks kl q) : ks.length = q := by
 have := congrArg List.length h.1
 rw [List.length_map, List.length_map, h.2.2] at this
 exact this
theorem Rel.add {ks : List (KeyM × Bool)} {kl : List KeyM} {q : Nat} {k : KeyM} (h : Rel ks kl q) (hk : ixOk k) : Rel (ks ++ [(plainK k, true)]) (kl ++ [k]) (q + 1) :=
 ⟨by rw [List.map_append, List.map_append, h.1]; rfl, fun x hx => by rcases List.mem_append.1 hx with hx | hx; exact h.2.1 x hx; simp at hx; subst hx; exact hk, by rw [List.length_append, h.2.2]; rfl⟩
theorem Rel.drop {ks : List (KeyM × Bool)} {kl : List KeyM} {q j : Nat} {k : KeyM} (h : Rel ks kl q) (hj : ks[j]? = some (k, true)) : Rel (ks.set j (k, false)) kl q :=
 ⟨by
  rw [List.map_set, ← h.1]
  apply List.ext_getElem?
  intro i
  have hl := (List.getElem?_eq_some_iff.1 hj).1
  by_cases e : i = j
  ·subst e
   rw [List.getElem?_set_self (by rw [List.length_map]; exact hl), List.getElem?_map, hj]
   rfl
  ·rw [List.getElem?_set_ne (fun e' => e e'.symm)], h.2⟩
theorem Rel.at {ks : List (KeyM × Bool)} {kl : List KeyM} {q j : Nat} (h : Rel ks kl q) (hj : j < q) : ∃ x b, kl[j]? = some x ∧ ks[j]? = some (plainK x, b) := by
 obtain ⟨x, hx⟩ : ∃ x, kl[j]? = some x := ⟨_, List.getElem?_eq_getElem (by rw [h.2.2]; exact hj)⟩
 obtain ⟨⟨kk, b⟩, hy⟩ : ∃ y, ks[j]? = some y := ⟨_, List.getElem?_eq_getElem (by rw [h.len]; exact hj)⟩
 have h1 : (ks.map (·.1))[j]? = (kl.map plainK)[j]? := by rw [h.1]
 rw [List.getElem?_map, List.getElem?_map, hy, hx] at h1
 have h2 : kk = plainK x := by simpa using h1
 subst h2
 exact ⟨x, b, hx, hy⟩
theorem TwoR.num1 {B : Nat} {w : World} {v1 v2 : Value} {n1 n2 : Nat} {l1 l2 : List Int} (h : TwoR B w v1 n1 l1 v2 n2 l2) : Nums w v1 l1 := by
 have e := h.r1.1
 rw [numc_len] at e
 obtain rfl : n1 = l1.length := by omega
 exact Elems.owned (cells := numCells) (fun _ => rfl) h.r1
theorem TwoR.num2 {B : Nat} {w : World} {v1 v2 : Value} {n1 n2 : Nat} {l1 l2 : List Int} (h : TwoR B w v1 n1 l1 v2 n2 l2) : Nums w v2 l2 := by
 have e := h.r2.1
 rw [numc_len] at e
 obtain rfl : n2 = l2.length := by omega
 exact Elems.owned (cells := numCells) (fun _ => rfl) h.r2
theorem same_i {l : List Int} : decide (l = l) = true := decide_eq_true rfl
set_option maxHeartbeats 32000000 in
set_option maxRecDepth 100000 in
theorem indexPlays_at {W : World} {vl : Value} {l : List ActM} (hl0 : ActsIn W vl l) : Calls Try.prog 8 #[vl] W fun e w' => IsBool W true e w' := by
  obtain ⟨hl, hlo⟩ := hl0
  obtain ⟨la, lc, rfl, hl1, hl2⟩ := hl.len
  unfold maxLen at hl2
  obtain ⟨m, hm⟩ : ∃ m, l.length = m := ⟨_, rfl⟩
  have HL := Lib.hid hm
  rw [hm] at hl hl1 ⊢
  have HK := Lib.hid hl
  have HO := Lib.hid hlo
  clear hl hlo hm
  go_enter Try.func8, Try.ntmps8
  (go_wp2_with fail; go_fit (awake16_at _); rintro e w1 ⟨rfl, b1⟩)
  have HB1 := Lib.hid b1
  clear b1
  by_cases hm100 : 100 < m
  · have h1 : (100 : Int) < m := by omega
    go_wp2
    go_ret
    exact ⟨rfl, HB1.out⟩
  have h100 : ¬ (100 : Int) < m := by omega
  (go_wp2_with fail; go_fit (ixNew_at w1); rintro e w2 ⟨p, F, rfl, hx, b2, hF⟩)
  have HP0 := Lib.hid (show PlS w1 w2 F p [] (.slice none 0 0) (.slice none 0 0) 0 0 [] [] from ⟨hx, hF, b2, World.ownsRow_nil _ _ _ _, World.ownsRow_nil _ _ _ _, (fun g h => by cases h), (fun g h => by cases h), (fun g h => by cases h)⟩)
  obtain ⟨iK, hiK, hzK, hsK, hbK⟩ := infoKeyP
  obtain ⟨iB, hiB, hzB, hsB, hbB⟩ := infoBoolP
  obtain ⟨i0, hi0, hz0, hs0, hb0⟩ := infoIntP
  clear hx b2 hF
  go_upto_region 9 with fail
  go_wp2_with fail
  go_loopw [4, 5, 6] (fun rk rt z wr => ∃ (i q ck ct : Nat) (ak at' : Option Addr), i ≤ m ∧ z = .int .i64 i ∧ rk = .slice ak q ck ∧ rt = .slice at' q ct ∧ q ≤ i ∧ Hid (∃ F ks kl, PlS w1 wr F p ks (.slice ak q ck) (.slice at' q ct) q q kl (ks.map (·.2)) ∧ Rel ks kl q)) (fun _ _ z _ => m - (RowKit.intOf z).toNat)
  case atStart => exact ⟨0, 0, 0, 0, none, none, Nat.zero_le _, rfl, rfl, rfl, Nat.le_refl _, Lib.hid ⟨F, [], [], HP0.out, rfl, (fun k h => by cases h), rfl⟩⟩
  case round =>
    obtain ⟨i, q, ck, ct, ak, at', hi, rfl, rfl, rfl, hq, HP⟩ := hrel
    by_cases him : i < m
    · obtain ⟨x, hx⟩ : ∃ x, l[i]? = some x := ⟨_, List.getElem?_eq_getElem (by rw [HL.out]; exact him)⟩
      obtain ⟨F0, ks, kl, hP, hR⟩ := HP.out
      have HXO := Lib.hid (HO.out x (List.mem_of_getElem? hx))
      obtain ⟨b, off, rfl, c0, c1, c2, c3, c4, c5⟩ := (HK.out.ext (Ext.trans' HB1.out hP.bel)).get hx
      obtain ⟨op, ai, kq⟩ := x
      have HPS := Lib.hid hP
      have HR := Lib.hid hR
      clear hx hP hR HP
      go_upto_block 2 with fail
      obtain ⟨w3, e3, b3, z3, X3⟩ := box_new wr #[.int .i64 op, .int .i64 ai, .int .i64 kq.k, .int .i64 kq.n, .string kq.s, .int .i64 kq.ar] 89
      obtain ⟨ab, hab⟩ : ∃ ab, wr.heap.size = ab := ⟨_, rfl⟩
      have HB3 := Lib.hid (HPS.out.box b3 X3 rfl)
      rw [hab] at HB3 ⊢
      rw [e3]
      clear e3 b3 z3 X3 hab c0 c1 c2 c3 c4 c5
      have HX := Lib.hid (fun (w w' : World) (F : List Nat) (ks : List (KeyM × Bool)) (rk rt : Value) (qk qt : Nat) (kl : List KeyM) (bs : List Bool) (h : PlB w w' F p ks rk rt qk qt kl bs ab [.int .i64 op, .int .i64 ai, .int .i64 kq.k, .int .i64 kq.n, .string kq.s, .int .i64 kq.ar]) =>
        (show w'.cell? ⟨ab, 0, none⟩ = some (.int .i64 op) ∧ w'.cell? ⟨ab, 1, none⟩ = some (.int .i64 ai) ∧ w'.cell? ⟨ab, 2, none⟩ = some (.int .i64 kq.k) ∧ w'.cell? ⟨ab, 3, none⟩ = some (.int .i64 kq.n) ∧ w'.cell? ⟨ab, 4, none⟩ = some (.string kq.s) ∧ w'.cell? ⟨ab, 5, none⟩ = some (.int .i64 kq.ar) from
          ⟨h.2.1.cells 0 _ rfl, h.2.1.cells 1 _ rfl, h.2.1.cells 2 _ rfl, h.2.1.cells 3 _ rfl, h.2.1.cells 4 _ rfl, h.2.1.cells 5 _ rfl⟩))
      obtain ⟨x0, x1, x2, x3, x4, x5⟩ := HX.out _ _ _ _ _ _ _ _ _ _ HB3.out
      go_cut [4, 5, 8] from 29 to 77 (fun u4 u5 _ wx => ∃ (q' ck' ct' : Nat) (ak' at2 : Option Addr), u4 = .slice ak' q' ck' ∧ u5 = .slice at2 q' ct' ∧ q' ≤ i + 1 ∧ Hid (∃ F ks kl, PlB w1 wx F p ks (.slice ak' q' ck') (.slice at2 q' ct') q' q' kl (ks.map (·.2)) ab [.int .i64 op, .int .i64 ai, .int .i64 kq.k, .int .i64 kq.n, .string kq.s, .int .i64 kq.ar] ∧ Rel ks kl q'))
      case first =>
        by_cases hop0 : op = 0
        · subst hop0
          have C := ixAdd_at HB3.out.1.ix (by rw [HR.out.len]; omega) kq HXO.out.2
          rw [HR.out.len] at C
          (go_wp2_with fail; go_fit (C); rintro e w4 ⟨rfl, F1, hx1, ht1, hf1⟩)
          have HB4 := Lib.hid (HB3.out.turn hx1 ht1 hf1)
          clear C hx1 ht1 hf1 x0 x1 x2 x3 x4 x5
          obtain ⟨x0, x1, x2, x3, x4, x5⟩ := HX.out _ _ _ _ _ _ _ _ _ _ HB4.out
          go_wp2_with (first
            | (at_builtin; refine wpList_append_k rfl _ _ 87 rfl w1.heap.size 76 iK (.agg #[.int .i64 0, .int .i64 0, .string ⟨#[]⟩, .int .i64 0]) 4 40 Try.underlying87 hiK hzK hsK (by decide) hbK rfl (.slice ak q ck) q (kl.flatMap ixCells) rfl (row_at HB4.out.1.rowk (fun g hg => (bel1' w4 _).block g (row_in HB4.out.1.rowk hg).2)) (some ⟨w4.heap.size, 0, none⟩) 1 1 (ixCells kq) rfl rfl (Or.inr ⟨_, rfl, fun jj uu hu => cell_new w4 #[.int .i64 kq.k, .int .i64 kq.n, .string kq.s, .int .i64 kq.ar] _ jj uu hu⟩) (by simp [ixCells, Value.oneCell']) (by unfold maxLen; omega) (by omega) (by have := HB4.out.1.bel.size; simp; omega) (q + 1) (kl.flatMap ixCells ++ ixCells kq) rfl rfl ?_; intro a5 c5 w5 hown5 hgrow5 hat5
               have HB5 := Lib.hid ((HB4.out.ext (bel1' w4 _)).addk (kl' := kl ++ [kq]) (by rw [List.flatMap_append]; exact hown5) hgrow5 hat5)
               clear hown5 hgrow5 hat5 x0 x1 x2 x3 x4 x5)
            | (at_builtin; refine wpList_append_k rfl _ _ 60 rfl w1.heap.size 4 iB (.bool false) 1 1 Try.underlying60 hiB hzB hsB (by decide) hbB rfl (.slice at' q ct) q ((ks.map (·.2)).map Value.bool) rfl (row_at HB5.out.1.rowt (fun g hg => (bel1' w5 _).block g (row_in HB5.out.1.rowt hg).2)) (some ⟨w5.heap.size, 0, none⟩) 1 1 [.bool true] rfl rfl (Or.inr ⟨_, rfl, fun jj uu hu => cell_new w5 #[.bool true] _ jj uu hu⟩) (by simp [Value.oneCell']) (by unfold maxLen; omega) (by omega) (by have := HB5.out.1.bel.size; simp; omega) (q + 1) ((ks.map (·.2)).map Value.bool ++ [.bool true]) rfl rfl ?_; intro a6 c6 w6 hown6 hgrow6 hat6
               have HB6 := Lib.hid ((HB5.out.ext (bel1' w5 _)).addt (bs' := ks.map (·.2) ++ [true]) (by rw [List.map_append]; exact hown6) hgrow6 hat6)
               clear hown6 hgrow6 hat6)
            | fail)
          go_meet
          exact ⟨q + 1, c5, c6, a5, a6, rfl, rfl, by omega, Lib.hid ⟨F1, ks ++ [(plainK kq, true)], kl ++ [kq], by rw [List.map_append]; exact HB6.out, HR.out.add HXO.out.2⟩⟩
        have h0' : (op == 0) = false := by simpa using hop0
        by_cases hop1 : op = 1
        rotate_left
        · have h1' : (op == 1) = false := by simpa using hop1
          go_wp2
          go_meet
          exact ⟨q, ck, ct, ak, at', rfl, rfl, by omega, Lib.hid ⟨F0, ks, kl, HB3.out, HR.out⟩⟩
        subst hop1
        have C := ixDrop_at HB3.out.1.ix (by rw [HR.out.len]; omega) ai HXO.out.1
        by_cases ha0 : 0 ≤ ai
        rotate_left
        · rw [show dropM ks ai = (false, ks) from by unfold dropM; rw [if_neg ha0]] at C
          (go_wp2_with fail; go_fit (C); rintro e w4 ⟨rfl, hx1, ht1⟩)
          have HB4 := Lib.hid (HB3.out.turn hx1 ht1 (fun g hg => Or.inl hg))
          clear C hx1 ht1 x0 x1 x2 x3 x4 x5
          go_wp2
          go_meet
          exact ⟨q, ck, ct, ak, at', rfl, rfl, by omega, Lib.hid ⟨F0, ks, kl, HB4.out, HR.out⟩⟩
        obtain ⟨j, rfl⟩ : ∃ j : Nat, ai = (j : Int) := ⟨ai.toNat, by omega⟩
        by_cases hjq : j < q
        rotate_left
        · have hjq' : ¬ (j : Int) < (q : Int) := by omega
          rw [show dropM ks (j : Int) = (false, ks) from by
            unfold dropM
            rw [if_pos ha0, Int.toNat_natCast, List.getElem?_eq_none (by rw [HR.out.len]; omega)]] at C
          (go_wp2_with fail; go_fit (C); rintro e w4 ⟨rfl, hx1, ht1⟩)
          have HB4 := Lib.hid (HB3.out.turn hx1 ht1 (fun g hg => Or.inl hg))
          clear C hx1 ht1 x0 x1 x2 x3 x4 x5
          go_wp2
          go_meet
          exact ⟨q, ck, ct, ak, at', rfl, rfl, by omega, Lib.hid ⟨F0, ks, kl, HB4.out, HR.out⟩⟩
        have hjq' : (j : Int) < (q : Int) := by omega
        obtain ⟨y, fl, hy, hky⟩ := HR.out.at hjq
        have HKY := Lib.hid hky
        have HFL := Lib.hid (show (ks.map (·.2))[j]? = some fl from by rw [List.getElem?_map, hky]; rfl)
        obtain ⟨g, rfl, t0, _⟩ := HB3.out.1.there HFL.out
        clear hy hky
        cases fl
        · rw [show dropM ks (j : Int) = (false, ks) from by
            unfold dropM
            rw [if_pos ha0, Int.toNat_natCast, HKY.out]] at C
          (go_wp2_with fail; go_fit (C); rintro e w4 ⟨rfl, hx1, ht1⟩)
          have HB4 := Lib.hid (HB3.out.turn hx1 ht1 (fun g hg => Or.inl hg))
          clear C hx1 ht1 x0 x1 x2 x3 x4 x5 t0
          go_wp2
          go_meet
          exact ⟨q, ck, ct, ak, _, rfl, rfl, by omega, Lib.hid ⟨F0, ks, kl, HB4.out, HR.out⟩⟩
        · rw [drop_in HKY.out] at C
          (go_wp2_with fail; go_fit (C); rintro e w4 ⟨rfl, hx1, ht1⟩)
          have HB4 := Lib.hid (HB3.out.turn hx1 ht1 (fun g hg => Or.inl hg))
          clear C hx1 ht1 x0 x1 x2 x3 x4 x5 t0
          obtain ⟨x0, x1, x2, x3, x4, x5⟩ := HX.out _ _ _ _ _ _ _ _ _ _ HB4.out
          have HB5 := Lib.hid (HB4.out.store j false)
          have t1 : w4.cell? ⟨g, j, none⟩ = some (.bool true) := by
            obtain ⟨g', e, t, _⟩ := HB4.out.1.there HFL.out
            cases e
            exact t
          have t2 : w4.frozen? ⟨g, j, none⟩ = false := HB4.out.1.rowt.frozenAt j
          go_wp2
          go_meet
          exact ⟨q, ck, ct, ak, _, rfl, rfl, by omega, Lib.hid ⟨F0, ks.set j (plainK y, false), kl, by rw [List.map_set]; exact HB5.out, HR.out.drop HKY.out⟩⟩
      case rest =>
        obtain ⟨q', ck', ct', ak', at2, rfl, rfl, hq', HP'⟩ := hcut
        obtain ⟨F1, ks1, kl1, hB, hR⟩ := HP'.out
        have hx := HX.out _ _ _ _ _ _ _ _ _ _ hB
        have HBc := Lib.hid hB
        have HRc := Lib.hid hR
        have HXc := Lib.hid hx
        have HKc := Lib.hid (hB.1.keys hR.2.2)
        have HWc := Lib.hid (Ext.trans' HB1.out hB.1.bel)
        clear hB hR hx HP' x0 x1 x2 x3 x4 x5 HB3 HPS HR
        go_upto_region 25 with fail
        go_wp2_with fail
        go_loopw [9, 10, 11] (fun s9 s10 z wr => ∃ (k qa qb ca cb : Nat) (aa ab2 : Option Addr), k ≤ q' ∧ z = .int .i64 k ∧ s9 = .slice aa qa ca ∧ s10 = .slice ab2 qb cb ∧ qa ≤ k ∧ qb ≤ k ∧ Hid (TwoR wc.heap.size wr (.slice aa qa ca) qa (pickT kq (ks1.take k) 0) (.slice ab2 qb cb) qb (pickF kq (kl1.take k) 0)) ∧ Hid (Below wc.heap.size wc wr)) (fun _ _ z _ => q' - (RowKit.intOf z).toNat)
        case atStart => exact ⟨0, 0, 0, 0, 0, none, none, Nat.zero_le _, rfl, rfl, rfl, Nat.le_refl _, Nat.le_refl _, Lib.hid ⟨World.ownsRow_nil _ _ _ _, World.ownsRow_nil _ _ _ _, (fun g h => by cases h)⟩, Lib.hid (Below.refl _ _)⟩
        case round =>
          obtain ⟨k, qa, qb, ca, cb, aa, ab2, hk, rfl, rfl, rfl, hqa, hqb, HT, HB⟩ := hrel
          by_cases hkq : k < q'
          · obtain ⟨y, bt, hy, hky⟩ := HRc.out.at hkq
            have HNT := Lib.hid (pick_next (K := kq) hky)
            have HNF := Lib.hid (pickF_next (k := kq) hy)
            obtain ⟨g, rfl, t0, _⟩ := HBc.out.1.there (i := k) (x := bt) (by rw [List.getElem?_map, hky]; rfl)
            obtain ⟨kb, ko, rfl, _, d0, d1, d2, d3⟩ := HKc.out.get hy
            have HTH := Lib.hid t0
            have HC := Lib.hid (fun (wq : World) (hb : Below wc.heap.size wc wq) => (show (wq.cell? ⟨kb, ko + k * 4, none⟩ = some (.int .i64 y.k) ∧ wq.cell? ⟨kb, ko + k * 4 + 1, none⟩ = some (.int .i64 y.n) ∧ wq.cell? ⟨kb, ko + k * 4 + 2, none⟩ = some (.string y.s) ∧ wq.cell? ⟨kb, ko + k * 4 + 3, none⟩ = some (.int .i64 y.ar)) ∧ (wq.cell? ⟨ab, 2, none⟩ = some (.int .i64 kq.k) ∧ wq.cell? ⟨ab, 3, none⟩ = some (.int .i64 kq.n) ∧ wq.cell? ⟨ab, 4, none⟩ = some (.string kq.s) ∧ wq.cell? ⟨ab, 5, none⟩ = some (.int .i64 kq.ar)) from
              ⟨⟨cell_later hb d0, cell_later hb d1, cell_later hb d2, cell_later hb d3⟩, cell_later hb HXc.out.2.2.1, cell_later hb HXc.out.2.2.2.1, cell_later hb HXc.out.2.2.2.2.1, cell_later hb HXc.out.2.2.2.2.2⟩))
            have hkqi : (k : Int) < (q' : Int) := by omega
            clear hy hky d0 d1 d2 d3 t0
            go_upto_region 27 with fail
            refine wp_region_held_drew (S := fun wq => (wq.cell? ⟨kb, ko + k * 4, none⟩ = some (.int .i64 y.k) ∧ wq.cell? ⟨kb, ko + k * 4 + 1, none⟩ = some (.int .i64 y.n) ∧ wq.cell? ⟨kb, ko + k * 4 + 2, none⟩ = some (.string y.s) ∧ wq.cell? ⟨kb, ko + k * 4 + 3, none⟩ = some (.int .i64 y.ar)) ∧ (wq.cell? ⟨ab, 2, none⟩ = some (.int .i64 kq.k) ∧ wq.cell? ⟨ab, 3, none⟩ = some (.int .i64 kq.n) ∧ wq.cell? ⟨ab, 4, none⟩ = some (.string kq.s) ∧ wq.cell? ⟨ab, 5, none⟩ = some (.int .i64 kq.ar))) (by kernel_rfl) (HC.out _ HB.out.drew) (fun hHeld => ?_)
            obtain ⟨wd, ewd⟩ : ∃ wd, wr.drew = wd := ⟨_, rfl⟩
            have HBd := Lib.hid (show Below wc.heap.size wc wd from by rw [← ewd]; exact HB.out.drew)
            have HTd := Lib.hid (show TwoR wc.heap.size wd (.slice aa qa ca) qa (pickT kq (ks1.take k) 0) (.slice ab2 qb cb) qb (pickF kq (kl1.take k) 0) from by rw [← ewd]; exact HT.out.ext (Below.refl _ _).drew)
            rw [ewd] at hHeld ⊢
            clear ewd
            obtain ⟨mb, hmb⟩ : ∃ mb, mayK y kq = mb := ⟨_, rfl⟩
            have HMB := Lib.hid hmb
            clear hmb
            first | (refine held_t (i := 0) hHeld ?_; constructor; constructor; intro wq hq; focus ((try dsimp only at hq); go_simp; first | done | with_reducible rfl | fail)) | refine held_s (i := 0) hHeld ?_ | fail
            first | (refine held_t (i := 1) hHeld ?_; constructor; constructor; intro wq hq; focus ((try dsimp only at hq); go_simp; first | done | with_reducible rfl | fail)) | refine held_s (i := 1) hHeld ?_ | fail
            first | (refine held_t (i := 2) hHeld ?_; constructor; constructor; intro wq hq; focus ((try dsimp only at hq); go_simp; first | done | with_reducible rfl | fail)) | refine held_s (i := 2) hHeld ?_ | fail
            first | (refine held_t (i := 3) hHeld ?_; constructor; constructor; intro wq hq; focus ((try dsimp only at hq); go_simp; first | done | with_reducible rfl | fail)) | refine held_s (i := 3) hHeld ?_ | fail
            first | (refine held_t (i := 5) hHeld ?_; constructor; constructor; intro wq hq; focus ((try dsimp only at hq); go_simp; first | done | with_reducible rfl | fail)) | refine held_s (i := 5) hHeld ?_ | fail
            first | (refine held_t (i := 6) hHeld ?_; constructor; constructor; intro wq hq; focus ((try dsimp only at hq); go_simp; first | done | with_reducible rfl | fail)) | refine held_s (i := 6) hHeld ?_ | fail
            try simp only [Act.put, lay4]
            refine held_c 4 fun K hK => ?_
            go_simp
            (go_at_call 49; refine (ixKey_at y _).mono ?_; rintro e u1 ⟨rfl, g1⟩; have HG1 := Lib.hid g1; have HBu1 := Lib.hid (Ext.trans' HBd.out g1); clear g1)
            refine hK.out _ _ (HC.out _ HBu1.out) (fun hHeld => ?_)
            clear hK K
            try simp only [Act.put, lay4]
            refine held_c 7 fun K hK => ?_
            go_simp
            (go_at_call 49; refine (ixKey_at kq _).mono ?_; rintro e u2 ⟨rfl, g2⟩; have HG2 := Lib.hid (Ext.trans' HG1.out g2); have HBu2 := Lib.hid (Ext.trans' HBu1.out g2); clear g2)
            refine hK.out _ _ (HC.out _ HBu2.out) (fun hHeld => ?_)
            clear hK K
            try simp only [Act.put, lay4]
            refine held_c 8 fun K hK => ?_
            go_simp
            (go_at_call 48; refine (rxMay_at y kq _).mono ?_; rintro e u3 ⟨rfl, g3⟩; rw [HMB.out]; have HG3 := Lib.hid (Ext.trans' HG2.out g3); have HBu3 := Lib.hid (Ext.trans' HBu2.out g3); clear g3)
            refine hK.out _ _ (HC.out _ HBu3.out) (fun hHeld => ?_)
            clear hK K
            try simp only [Act.put, lay4]
            first | (refine held_t (i := 9) hHeld ?_; constructor; constructor; intro wq hq; focus ((try dsimp only at hq); go_simp; first | done | with_reducible rfl | fail)) | refine held_s (i := 9) hHeld ?_ | fail
            try simp only [Act.put, lay4]
            refine wpAnyH_done (by kernel_rfl) ?_ _
            have HT3 := Lib.hid (HTd.out.ext HG3.out)
            have HBsu3 := Lib.hid HBu3.out.size
            clear hHeld
            cases mb
            · have HN1 := Lib.hid (show pickT kq (ks1.take (k + 1)) 0 = pickT kq (ks1.take k) 0 from by rw [HNT.out, HMB.out]; simp)
              have HN2 := Lib.hid (show pickF kq (kl1.take (k + 1)) 0 = pickF kq (kl1.take k) 0 from by rw [HNF.out, HMB.out]; simp)
              go_wp2
              go_roundw
              case rel => exact ⟨k + 1, qa, qb, ca, cb, aa, ab2, hkq, by go_num, by go_num, by go_num, by omega, by omega, Lib.hid (by rw [HN1.out, HN2.out]; exact HT3.out), HBu3⟩
              case measure => simp [RowKit.intOf]; omega
            have HN2 := Lib.hid (show pickF kq (kl1.take (k + 1)) 0 = pickF kq (kl1.take k) 0 ++ [(k : Int)] from by rw [HNF.out, HMB.out, if_pos rfl])
            cases bt
            · have HN1 := Lib.hid (show pickT kq (ks1.take (k + 1)) 0 = pickT kq (ks1.take k) 0 from by rw [HNT.out, HMB.out]; simp)
              go_wp2_with (first
                | (at_builtin; refine wpList_append_k rfl _ _ 81 rfl wc.heap.size 3 i0 (.int .i64 0) 1 8 Try.underlying81 hi0 hz0 hs0 (by decide) hb0 rfl (.slice ab2 qb cb) qb ((pickF kq (kl1.take k) 0).flatMap numCells) rfl (row_at HT3.out.r2 (fun g hg => (bel1' u3 _).block g (row_in HT3.out.r2 hg).2)) (some ⟨u3.heap.size, 0, none⟩) 1 1 [.int .i64 (k : Int)] rfl rfl (Or.inr ⟨_, rfl, fun jj uu hu => cell_new u3 #[.int .i64 (k : Int)] _ jj uu hu⟩) (by simp [Value.oneCell']) (by unfold maxLen; omega) (by omega) (by have := HBsu3.out; simp; omega) (qb + 1) ((pickF kq (kl1.take k) 0).flatMap numCells ++ [.int .i64 (k : Int)]) rfl rfl ?_; intro a4 c4 w4 hown4 hgrow4 hat4
                   have HT4 := Lib.hid ((HT3.out.ext (bel1' u3 _)).snd (l2' := pickF kq (kl1.take k) 0 ++ [(k : Int)]) (by rw [List.flatMap_append]; exact hown4) hgrow4 hat4)
                   have HB4 := Lib.hid (show Below wc.heap.size wc w4 from (HBu3.out.trans ((bel1' u3 _).mono HBu3.out.size)).grown hgrow4 (by have := HBsu3.out; simp; omega) (fun g hg => (row_in HT3.out.r2 hg).1))
                   have HBsw4 := Lib.hid HB4.out.size
                   have q4 := cell_later HB4.out HTH.out
                   clear hown4 hgrow4 hat4)
                | fail)
              go_roundw
              case rel => exact ⟨k + 1, qa, qb + 1, ca, c4, aa, a4, hkq, by go_num, by go_num, by go_num, by omega, by omega, Lib.hid (by rw [HN1.out, HN2.out]; exact HT4.out), HB4⟩
              case measure => simp [RowKit.intOf]; omega
            · have HN1 := Lib.hid (show pickT kq (ks1.take (k + 1)) 0 = pickT kq (ks1.take k) 0 ++ [(k : Int)] from by rw [HNT.out, HMB.out]; simp)
              go_wp2_with (first
                | (at_builtin; refine wpList_append_k rfl _ _ 81 rfl wc.heap.size 3 i0 (.int .i64 0) 1 8 Try.underlying81 hi0 hz0 hs0 (by decide) hb0 rfl (.slice ab2 qb cb) qb ((pickF kq (kl1.take k) 0).flatMap numCells) rfl (row_at HT3.out.r2 (fun g hg => (bel1' u3 _).block g (row_in HT3.out.r2 hg).2)) (some ⟨u3.heap.size, 0, none⟩) 1 1 [.int .i64 (k : Int)] rfl rfl (Or.inr ⟨_, rfl, fun jj uu hu => cell_new u3 #[.int .i64 (k : Int)] _ jj uu hu⟩) (by simp [Value.oneCell']) (by unfold maxLen; omega) (by omega) (by have := HBsu3.out; simp; omega) (qb + 1) ((pickF kq (kl1.take k) 0).flatMap numCells ++ [.int .i64 (k : Int)]) rfl rfl ?_; intro a4 c4 w4 hown4 hgrow4 hat4
                   have HT4 := Lib.hid ((HT3.out.ext (bel1' u3 _)).snd (l2' := pickF kq (kl1.take k) 0 ++ [(k : Int)]) (by rw [List.flatMap_append]; exact hown4) hgrow4 hat4)
                   have HB4 := Lib.hid (show Below wc.heap.size wc w4 from (HBu3.out.trans ((bel1' u3 _).mono HBu3.out.size)).grown hgrow4 (by have := HBsu3.out; simp; omega) (fun g hg => (row_in HT3.out.r2 hg).1))
                   have HBsw4 := Lib.hid HB4.out.size
                   have q4 := cell_later HB4.out HTH.out
                   clear hown4 hgrow4 hat4)
                | (at_builtin; refine wpList_append_k rfl _ _ 81 rfl wc.heap.size 3 i0 (.int .i64 0) 1 8 Try.underlying81 hi0 hz0 hs0 (by decide) hb0 rfl (.slice aa qa ca) qa ((pickT kq (ks1.take k) 0).flatMap numCells) rfl (row_at HT4.out.r1 (fun g hg => (bel1' w4 _).block g (row_in HT4.out.r1 hg).2)) (some ⟨w4.heap.size, 0, none⟩) 1 1 [.int .i64 (k : Int)] rfl rfl (Or.inr ⟨_, rfl, fun jj uu hu => cell_new w4 #[.int .i64 (k : Int)] _ jj uu hu⟩) (by simp [Value.oneCell']) (by unfold maxLen; omega) (by omega) (by have := HBsw4.out; simp; omega) (qa + 1) ((pickT kq (ks1.take k) 0).flatMap numCells ++ [.int .i64 (k : Int)]) rfl rfl ?_; intro a5 c5 w5 hown5 hgrow5 hat5
                   have HT5 := Lib.hid ((HT4.out.ext (bel1' w4 _)).fst (l1' := pickT kq (ks1.take k) 0 ++ [(k : Int)]) (by rw [List.flatMap_append]; exact hown5) hgrow5 hat5)
                   have HB5 := Lib.hid (show Below wc.heap.size wc w5 from (HB4.out.trans ((bel1' w4 _).mono HB4.out.size)).grown hgrow5 (by have := HBsw4.out; simp; omega) (fun g hg => (row_in HT4.out.r1 hg).1))
                   clear hown5 hgrow5 hat5)
                | fail)
              go_roundw
              case rel => exact ⟨k + 1, qa + 1, qb + 1, c5, c4, a5, a4, hkq, by go_num, by go_num, by go_num, by omega, by omega, Lib.hid (by rw [HN1.out, HN2.out]; exact HT5.out), HB5⟩
              case measure => simp [RowKit.intOf]; omega
          have hke : q' = k := by omega
          subst hke
          have hkx : ¬ (q' : Int) < q' := by omega
          have e1 : ks1.take q' = ks1 := List.take_of_length_le (by rw [HRc.out.len]; exact Nat.le_refl _)
          have e2 : kl1.take q' = kl1 := List.take_of_length_le (by rw [HRc.out.2.2]; exact Nat.le_refl _)
          have hT := HT.out
          rw [e1, e2] at hT
          have HTf := Lib.hid hT
          clear e1 e2 hT HT
          have HXl := Lib.hid (fun (wq : World) (hb : Below wc.heap.size wc wq) => (show wq.cell? ⟨ab, 2, none⟩ = some (.int .i64 kq.k) ∧ wq.cell? ⟨ab, 3, none⟩ = some (.int .i64 kq.n) ∧ wq.cell? ⟨ab, 4, none⟩ = some (.string kq.s) ∧ wq.cell? ⟨ab, 5, none⟩ = some (.int .i64 kq.ar) from
            ⟨cell_later hb HXc.out.2.2.1, cell_later hb HXc.out.2.2.2.1, cell_later hb HXc.out.2.2.2.2.1, cell_later hb HXc.out.2.2.2.2.2⟩))
          obtain ⟨x2, x3, x4, x5⟩ := HXl.out _ HB.out
          have C := ixPickM_at (HBc.out.1.ix.ext HB.out) (by rw [HRc.out.len]; omega) kq HXO.out.2
          (go_wp2_with fail; go_fit (C); rintro e v1 ⟨r1, rfl, n1, b1⟩)
          have HV1 := Lib.hid (Ext.trans' HB.out b1)
          have C := ints_at n1 (HTf.out.num1.ext b1)
          rw [same_i] at C
          have HT1 := Lib.hid (HTf.out.ext b1)
          clear n1 b1 x2 x3 x4 x5
          (go_wp2_with fail; go_fit (C); rintro e v2 ⟨rfl, b2⟩)
          have HV2 := Lib.hid (Ext.trans' HV1.out b2)
          have HT2 := Lib.hid (HT1.out.ext b2)
          clear b2 C
          obtain ⟨x2, x3, x4, x5⟩ := HXl.out _ HV2.out
          have C := ixPick_at (HKc.out.ext HV2.out) (by rw [HRc.out.2.2]; omega) kq
          (go_wp2_with fail; go_fit (C); rintro e v3 ⟨r3, rfl, n3, b3⟩)
          have HV3 := Lib.hid (Ext.trans' HV2.out b3)
          have C := ints_at (Elems.owned (cells := numCells) (fun _ => rfl) n3) (HT2.out.num2.ext b3)
          rw [same_i] at C
          clear n3 b3 x2 x3 x4 x5
          (go_wp2_with fail; go_fit (C); rintro e v4 ⟨rfl, b4⟩)
          have HV4 := Lib.hid (Ext.trans' HV3.out b4)
          clear b4 C
          go_wp2
          go_roundw
          case rel => exact ⟨i + 1, q', ck', ct', ak', at2, him, by go_num, by go_num, by go_num, by omega, Lib.hid ⟨F1, ks1, kl1, HBc.out.1.ext HV4.out, HRc.out⟩⟩
          case measure => simp [RowKit.intOf]; omega
    obtain ⟨F0, ks, kl, hP, hR⟩ := HP.out
    have HPb := Lib.hid hP.bel
    have hie : m = i := by omega
    subst hie
    have hmx : ¬ (m : Int) < m := by omega
    clear hP hR HP
    go_wp2
    go_ret
    exact ⟨rfl, Ext.trans' HB1.out HPb.out⟩
end Go.Proofs.Ytchbbaehdcmcfaa
/- IndexPlays: whatever is added, dropped and picked, what is picked is what the document says: for every input the law answers true. No condition. -/
namespace Go.Proofs.Ytchbbaehdcmcfaa
open Go.RowKit
namespace indexPlays
open Go.ChangeShapes Go.WideShapes Go.ChangeAt Go.RowKit
theorem own : ownKnob Try.prog.godebug = none := by kernel_rfl
theorem laidOut : laidOutB Try.prog = true := by kernel_rfl
set_option linter.unusedVariables false
set_option maxRecDepth 100000 in
theorem lifted (os : Os) (started : os.Started) (H : Type) (enc : TypeId × Value → H) :
  ReturnsInHanded {} Try.checked os 8 .any (Rows.indexPlaysSpec.pre6 enc Try.prog Try.f8 Rows.indexPlaysRow.domain false) (Rows.indexPlaysSpec.post enc Try.prog Try.f8 false true false false) := by
 refine returnsInHanded_of_change_sized (C := Try.checked) own started (by kernel_rfl) Try.func8
  (ChangeSpec.witness6 (enc := enc) (C := Try.checked) false ⟨#[], #[.slice none 0 0], []⟩ 8 (by kernel_rfl) (by kernel_rfl) (by kernel_rfl) (by kernel_rfl)) ?_
 intro W base args ds gs before hval0 hW hcnd hsz0 _
 have hval : ∀ (j : Nat) t v, Try.f8.params[j]? = some t → args[j]? = some v → Value.okWide Try.prog W .any base t v := hval0
 have hW' := hW
 obtain ⟨p, q, hA0, hV, rfl, hfz, hnd⟩ := hW
 have hA : DataW.TrodAll enc Try.prog W 0 (fun _ => true) true Try.f8.params.toList args.toList ds p := hA0
 have hsz : (DataW.weightsEach Try.prog (Try.f8.params.toList ++ []) (ds ++ gs)).all (· ≤ reachBytes) = true := hsz0
 rw [Try.params8] at hA hval hsz
 obtain ⟨v0, vs0, d0, ds0, p0, q0, hargs, rfl, rfl, h0, r0⟩ := trodAll_cons hA
 obtain ⟨rfl, rfl, rfl⟩ := trodAll_nil r0
 obtain rfl : args = #[v0] := by cases args; simp_all
 obtain ⟨rfl, rfl⟩ := trodVars_none hV
 clear hA0 hval0 hsz0
 have k0 := h0
 have lt0 := lt_of_trod h0
 obtain ⟨a0, w0⟩ := acts_of_trod h0 (hval 0 86 v0 rfl rfl) (weights_ok hsz (j := 0) (t := 86) (d := d0) rfl rfl)
 refine (indexPlays_at w0).mono fun e W' ⟨he, bel⟩ => ?_
 subst he
 exact ⟨_, rfl, _, _, _, [], _, [], hW', trodAll_mk1 (shut_bool Try.underlying4 _), (trodAll_cons_mk (Below.trod laidOut (by kernel_rfl) (of_decide_eq_true (by kernel_rfl)) k0 bel lt0) trodAll_mk0), rfl, bel.frame _, fun h => by cases h⟩
theorem proved : Rows.IndexPlaysSaid :=
 OpenClaim.holds_of_wide 8 Try.f8 rfl rfl rfl rfl rfl rfl rfl ⟨rfl, rfl, rfl, rfl, rfl⟩ rfl rfl rfl rfl rfl (by kernel_rfl) Try.func8 (by kernel_rfl)
  (of_decide_eq_true (by kernel_rfl)) (by unfold Func.isWrapper; first | (rw [if_pos (by decide +kernel)]; kernel_rfl) | (rw [if_neg (by decide +kernel)]; exact ⟨rfl, rfl⟩))
  (fun os started H enc _ => lifted os started H enc)
#print axioms proved
end indexPlays
end Go.Proofs.Ytchbbaehdcmcfaa
