import Derived.Test.YtchbbaehdcmcfaaHzxae
import Derived.Deep.CutRange
import Derived.Test.YtchbbaehdcmcfaaHzxaa
import Derived.Test.YtchbbaehdcmcfaaRows
set_option linter.unusedVariables false
set_option linter.unusedSimpArgs false
/- Stage 16's laws: IndexAll. -/
namespace Go.Proofs.Ytchbbaehdcmcfaa
open Go.RowKit
set_option linter.unusedVariables false
theorem found_is {KS : List (KeyM × Bool)} {i : Nat} {x : KeyM} {b : Bool} (h : KS[i]? = some (plainK x, b)) : decide ((i : Int) ∈ pickT x KS 0) = b := by
 have e : (i : Int) ∈ pickT x KS 0 ↔ b = true := by
  rw [mem_pickT]
  constructor
  ·rintro ⟨j, y, h1, h2, h3, h4⟩
   obtain rfl : i = j := by omega
   rw [h] at h1
   injection h1 with h1
   subst h1
   exact h4
  ·intro hb
   exact ⟨i, _, h, by omega, by rw [plain_may]; exact mayK_self x, hb⟩
 cases b with
 | true => simpa using e
 | false => simpa using e
theorem allI_next {KS : List (KeyM × Bool)} {i : Nat} {k : KeyM} {b : Bool} (h : KS[i]? = some (k, b)) : allI (KS.take (i + 1)) = allI (KS.take i) ++ (if b = true then [(i : Int)] else []) := by
 have hi := (List.getElem?_eq_some_iff.1 h).1
 show selI _ _ _ = _
 rw [take_next h, selI_snoc, List.length_take, Nat.min_eq_left (by omega)]
def fnd (P : List Int) (i : Nat) (t : Nat) : Bool := decide ((i : Int) ∈ P.take t)
theorem found_step {P : List Int} {i t : Nat} {y : Int} (h : P[t]? = some y) : fnd P i (t + 1) = (fnd P i t || (y == (i : Int))) := by
 unfold fnd
 rw [take_next h, Bool.eq_iff_iff]
 simp only [List.mem_append, List.mem_singleton, decide_eq_true_eq, Bool.or_eq_true, beq_iff_eq]
 exact or_congr Iff.rfl eq_comm
def addsM (l : List KeyM) (i : Nat) : List (KeyM × Bool) := (l.take i).map fun k => (plainK k, true)
theorem adds_next {l : List KeyM} {i : Nat} {x : KeyM} (h : l[i]? = some x) : addsM l (i + 1) = addsM l i ++ [(plainK x, true)] := by
 unfold addsM
 rw [take_next h, List.map_append]
 rfl
theorem adds_len {l : List KeyM} {i : Nat} (h : i ≤ l.length) : (addsM l i).length = i := by
 unfold addsM
 rw [List.length_map, List.length_take]
 omega
theorem reps_next {m i : Nat} (h : i < m) : (List.replicate i true ++ List.replicate (m - i) false).set i true = List.replicate (i + 1) true ++ List.replicate (m - (i + 1)) false := by
 apply List.ext_getElem?
 intro j
 by_cases e : j = i
 ·subst e
  rw [List.getElem?_set_self (by simp; omega), List.getElem?_append_left (by simp), List.getElem?_replicate, if_pos (by omega)]
 ·rw [List.getElem?_set_ne (fun e' => e e'.symm)]
  by_cases h1 : j < i
  ·rw [List.getElem?_append_left (by simpa using h1), List.getElem?_append_left (by simp; omega), List.getElem?_replicate, List.getElem?_replicate, if_pos h1, if_pos (by omega)]
  ·rw [List.getElem?_append_right (by simp; omega), List.getElem?_append_right (by simp; omega), List.getElem?_replicate, List.getElem?_replicate]
   simp
   by_cases h2 : j < m
   ·rw [if_pos (by omega), if_pos (by omega)]
   ·rw [if_neg (by omega), if_neg (by omega)]
set_option maxHeartbeats 16000000 in
set_option maxRecDepth 100000 in
theorem indexAll_at {W : World} {vl vd : Value} {l : List KeyM} {ds : List Int} (hl0 : KeysIn W vl l) (hd0 : NumsIn W vd ds) : Calls Try.prog 10 #[vl, vd] W fun e w' => IsBool W true e w' := by
  obtain ⟨hl, hlo⟩ := hl0
  obtain ⟨hd, hdo⟩ := hd0
  obtain ⟨la, lc, rfl, hl1, hl2⟩ := hl.len
  obtain ⟨da, dc, rfl, hd1, hd2⟩ := hd.len
  unfold maxLen at hl2 hd2
  obtain ⟨m, hm⟩ : ∃ m, l.length = m := ⟨_, rfl⟩
  obtain ⟨n, hn⟩ : ∃ n, ds.length = n := ⟨_, rfl⟩
  have HL := Lib.hid (And.intro hm hn)
  rw [hm] at hl hl1 ⊢
  rw [hn] at hd hd1 ⊢
  have HK := Lib.hid hl
  have HD := Lib.hid hd
  have HO := Lib.hid (And.intro hlo hdo)
  clear hl hd hlo hdo hm hn
  go_enter Try.func10, Try.ntmps10
  (go_wp2_with fail; go_fit (awake16_at _); rintro e w1 ⟨rfl, b1⟩)
  have HB1 := Lib.hid b1
  clear b1
  by_cases hm60 : 60 < m
  · have h1 : (60 : Int) < m := by omega
    go_wp2
    go_ret
    exact ⟨rfl, HB1.out⟩
  have h60 : ¬ (60 : Int) < m := by omega
  by_cases hn60 : 60 < n
  · have h1 : (60 : Int) < n := by omega
    go_wp2
    go_ret
    exact ⟨rfl, HB1.out⟩
  have h61 : ¬ (60 : Int) < n := by omega
  (go_wp2_with fail; go_fit (ixNew_at w1); rintro e w2 ⟨p, F, rfl, hx, b2, hF⟩)
  have hmk := make_bools16 m (by omega) w2
  obtain ⟨bb, hbb⟩ : ∃ bb, w2.heap.size = bb := ⟨_, rfl⟩
  have HS3 := Lib.hid (show IxS w1 (w2.alloc (.cells (madeCells #[.bool false] m) 4)) F p [] bb (List.replicate m false) from
    ⟨hx.ext (bel1' _ _), by rw [← hbb]; exact bools_made w2 m, fun hm => by have := hx.lt bb hm; omega, hF, by rw [← hbb]; exact b2.size, Ext.trans' b2 (bel1' _ _)⟩)
  have HBB := Lib.hid hbb
  clear hx b2 hF
  go_upto_region 7 with fail
  obtain ⟨w3, e3⟩ : ∃ w3, w2.alloc (.cells (madeCells #[.bool false] m) 4) = w3 := ⟨_, rfl⟩
  rw [e3] at HS3 ⊢
  (try rw [hbb])
  clear e3 hmk hbb
  go_wp2_with fail
  go_loopw [7] (fun z wr => ∃ i : Nat, i ≤ m ∧ z = .int .i64 i ∧ Hid (∃ F, IxS w1 wr F p (addsM l i) bb (List.replicate i true ++ List.replicate (m - i) false))) (fun z _ => m - (RowKit.intOf z).toNat)
  case atStart => exact ⟨0, Nat.zero_le _, rfl, Lib.hid ⟨F, HS3.out⟩⟩
  case round =>
    obtain ⟨i, hi, rfl, HI⟩ := hrel
    by_cases him : i < m
    · obtain ⟨x, hx⟩ : ∃ x, l[i]? = some x := ⟨_, List.getElem?_eq_getElem (by rw [HL.out.1]; exact him)⟩
      obtain ⟨F1, hS⟩ := HI.out
      have HXK := Lib.hid (And.intro hx (HO.out.1 x (List.mem_of_getElem? hx)))
      obtain ⟨b, off, rfl, _, c0, c1, c2, c3⟩ := (HK.out.ext (Ext.trans' HB1.out hS.2.2.2.2.2)).get hx
      have C := ixAdd_at hS.1 (by rw [adds_len (by rw [HL.out.1]; omega)]; omega) x HXK.out.2
      rw [adds_len (by rw [HL.out.1]; omega)] at C
      have HSS := Lib.hid hS
      clear hS hx HI
      (go_wp2_with fail; go_fit (C); rintro e w4 ⟨rfl, F2, hx2, ht2, hf2⟩)
      have hS4 := HSS.out.turn hx2 ht2 hf2
      rw [← adds_next HXK.out.1] at hS4
      have HS4 := Lib.hid hS4
      have q0 := hS4.2.1.cells i false (by rw [List.getElem?_append_right (by simp), List.getElem?_replicate]; simp; omega)
      have qf := hS4.2.1.fz
      have himi : (i : Int) < m := by omega
      clear hx2 ht2 hf2 hS4 C c0 c1 c2 c3
      go_upto_region 9 with fail
      obtain ⟨w5, e5⟩ : ∃ w5, w4.setCell ⟨bb, i, none⟩ (.bool true) = w5 := ⟨_, rfl⟩
      have HS5 := Lib.hid (show ∃ F, IxS w1 w5 F p (addsM l (i + 1)) bb (List.replicate (i + 1) true ++ List.replicate (m - (i + 1)) false) from ⟨F2, by
        have h := HS4.out.store (i := i) (by simp; omega) true
        rw [reps_next him, e5] at h
        exact h⟩)
      rw [e5]
      clear e5 q0 qf
      go_wp2
      go_roundw
      case rel => exact ⟨i + 1, him, by go_num, HS5⟩
      case measure => simp [RowKit.intOf]; omega
    have hie : m = i := by omega
    subst hie
    have hmx : ¬ (m : Int) < m := by omega
    obtain ⟨w6, rfl⟩ : ∃ w6, w6 = wr := ⟨_, rfl⟩
    have HS6 := Lib.hid (show ∃ F ks, IxS w1 w6 F p ks bb (ks.map (·.2)) ∧ ks.map (·.1) = l.map plainK from by
      obtain ⟨F1, h⟩ := HI.out
      have e1 : addsM l m = l.map fun k => (plainK k, true) := by unfold addsM; rw [List.take_of_length_le (by rw [HL.out.1]; exact Nat.le_refl _)]
      have e2 : List.replicate m true ++ List.replicate (m - m) false = (addsM l m).map (·.2) := by
        rw [e1, Nat.sub_self, List.map_map]
        simp only [List.replicate_zero, List.append_nil]
        rw [← HL.out.1]
        exact (List.map_const' ..).symm
      rw [e2] at h
      exact ⟨F1, _, h, by rw [e1, List.map_map]; rfl⟩)
    clear HI
    go_upto_region 13 with fail
    go_wp2_with fail
    go_loopw [8] (fun z wr => ∃ i : Nat, i ≤ n ∧ z = .int .i64 i ∧ Hid (∃ F ks, IxS w1 wr F p ks bb (ks.map (·.2)) ∧ ks.map (·.1) = l.map plainK)) (fun z _ => n - (RowKit.intOf z).toNat)
    case atStart => exact ⟨0, Nat.zero_le _, rfl, HS6⟩
    case round =>
      obtain ⟨i, hi, rfl, HI⟩ := hrel
      by_cases him : i < n
      · obtain ⟨d, hd⟩ : ∃ d, ds[i]? = some d := ⟨_, List.getElem?_eq_getElem (by rw [HL.out.2]; exact him)⟩
        obtain ⟨F1, ks, hS, hks⟩ := HI.out
        have hd64 := HO.out.2 d (List.mem_of_getElem? hd)
        obtain ⟨b, off, rfl, _, c0⟩ := (HD.out.ext (Ext.trans' HB1.out hS.2.2.2.2.2)).get hd
        have hkl : ks.length = m := by have := congrArg List.length hks; rw [List.length_map, List.length_map, HL.out.1] at this; exact this
        have C := ixDrop_at hS.1 (by omega) d hd64
        have HSS := Lib.hid (And.intro hS hks)
        have HDQ := Lib.hid hd
        clear hd hS hks HI
        by_cases h0 : 0 ≤ d
        rotate_left
        · have hdm : dropM ks d = (false, ks) := by unfold dropM; rw [if_neg h0]
          rw [hdm] at C
          go_upto_region 17 with fail
          (go_wp2_with fail; go_fit (C); rintro e w7 ⟨rfl, hx7, ht7⟩)
          have HS7 := Lib.hid (show ∃ F ks, IxS w1 w7 F p ks bb (ks.map (·.2)) ∧ ks.map (·.1) = l.map plainK from ⟨F1, ks, HSS.out.1.turn hx7 ht7 (fun g hg => Or.inl hg), HSS.out.2⟩)
          clear hx7 ht7 C c0 hdm
          go_wp2
          go_roundw
          case rel => exact ⟨i + 1, him, by go_num, HS7⟩
          case measure => simp [RowKit.intOf]; omega
        obtain ⟨q, rfl⟩ : ∃ q : Nat, d = (q : Int) := ⟨d.toNat, by omega⟩
        have hq0 : (0 : Int) ≤ (q : Int) := by omega
        by_cases hqm : q < m
        rotate_left
        · have hqm' : ¬ (q : Int) < (m : Int) := by omega
          have hdm : dropM ks (q : Int) = (false, ks) := by
            unfold dropM
            rw [if_pos (by omega), Int.toNat_natCast, List.getElem?_eq_none (by omega)]
          rw [hdm] at C
          go_upto_region 17 with fail
          (go_wp2_with fail; go_fit (C); rintro e w7 ⟨rfl, hx7, ht7⟩)
          have HS7 := Lib.hid (show ∃ F ks, IxS w1 w7 F p ks bb (ks.map (·.2)) ∧ ks.map (·.1) = l.map plainK from ⟨F1, ks, HSS.out.1.turn hx7 ht7 (fun g hg => Or.inl hg), HSS.out.2⟩)
          clear hx7 ht7 C c0 hdm
          go_wp2
          go_roundw
          case rel => exact ⟨i + 1, him, by go_num, HS7⟩
          case measure => simp [RowKit.intOf]; omega
        have hqm' : (q : Int) < (m : Int) := by omega
        obtain ⟨⟨k, fl⟩, hkq⟩ : ∃ y, ks[q]? = some y := ⟨_, List.getElem?_eq_getElem (by omega)⟩
        have q0 := HSS.out.1.2.1.cells q fl (by rw [List.getElem?_map, hkq]; rfl)
        cases fl
        · have hdm : dropM ks (q : Int) = (false, ks) := by
            unfold dropM
            rw [if_pos (by omega), Int.toNat_natCast, hkq]
          rw [hdm] at C
          clear hkq
          go_upto_region 17 with fail
          (go_wp2_with fail; go_fit (C); rintro e w7 ⟨rfl, hx7, ht7⟩)
          have HS7 := Lib.hid (show ∃ F ks, IxS w1 w7 F p ks bb (ks.map (·.2)) ∧ ks.map (·.1) = l.map plainK from ⟨F1, ks, HSS.out.1.turn hx7 ht7 (fun g hg => Or.inl hg), HSS.out.2⟩)
          clear hx7 ht7 C c0 hdm q0
          go_wp2
          go_roundw
          case rel => exact ⟨i + 1, him, by go_num, HS7⟩
          case measure => simp [RowKit.intOf]; omega
        · have hdm : dropM ks (q : Int) = (true, ks.set q (k, false)) := drop_in hkq
          rw [hdm] at C
          have HKQ := Lib.hid hkq
          clear hkq
          go_upto_region 17 with fail
          (go_wp2_with fail; go_fit (C); rintro e w7 ⟨rfl, hx7, ht7⟩)
          have hS7 := HSS.out.1.turn hx7 ht7 (fun g hg => Or.inl hg)
          have HS7 := Lib.hid hS7
          have q1 := hS7.2.1.cells q true (by rw [List.getElem?_map, HKQ.out]; rfl)
          have qf := hS7.2.1.fz
          have c1 : w7.cell? ⟨b, off + i, none⟩ = some (.int .i64 (q : Int)) := by
            obtain ⟨b', off', e, _, cc⟩ := (HD.out.ext (Ext.trans' HB1.out hS7.2.2.2.2.2)).get HDQ.out
            cases e
            exact cc
          clear hx7 ht7 hS7 C c0 hdm q0
          go_upto_region 15 with fail
          obtain ⟨w8, e8⟩ : ∃ w8, w7.setCell ⟨bb, q, none⟩ (.bool false) = w8 := ⟨_, rfl⟩
          have HS8 := Lib.hid (show ∃ F ks, IxS w1 w8 F p ks bb (ks.map (·.2)) ∧ ks.map (·.1) = l.map plainK from ⟨F1, ks.set q (k, false), by
            have h := HS7.out.store (i := q) (by rw [List.length_map]; omega) false
            rw [e8] at h
            rw [List.map_set]
            exact h, by
            rw [List.map_set, ← HSS.out.2]
            apply List.ext_getElem?
            intro j
            by_cases e : j = q
            · subst e
              rw [List.getElem?_set_self (by rw [List.length_map]; omega), List.getElem?_map, HKQ.out]
              rfl
            · rw [List.getElem?_set_ne (fun e' => e e'.symm)]⟩)
          rw [e8]
          clear e8 q1 qf c1
          go_wp2
          go_roundw
          case rel => exact ⟨i + 1, him, by go_num, HS8⟩
          case measure => simp [RowKit.intOf]; omega
      have hie : n = i := by omega
      subst hie
      have hnx : ¬ (n : Int) < n := by omega
      obtain ⟨F, ks, hS, hks⟩ := HI.out
      obtain ⟨wz, rfl⟩ : ∃ wz, wz = wr := ⟨_, rfl⟩
      have hkl : ks.length = m := by have := congrArg List.length hks; rw [List.length_map, List.length_map, HL.out.1] at this; exact this
      have HSZ := Lib.hid (And.intro hS hks)
      have HKL := Lib.hid hkl
      have HBZ := Lib.hid (Ext.trans' HB1.out hS.2.2.2.2.2)
      clear HI hS hks hkl
      obtain ⟨i0, hi0, hz0, hs0, hb0⟩ := infoIntP
      go_upto_region 23 with fail
      go_wp2_with fail
      go_loopw [10, 11] (fun r z wr => ∃ (i q cr : Nat) (ar : Option Addr), i ≤ m ∧ z = .int .i64 i ∧ r = .slice ar q cr ∧ Hid ((allI (ks.take i)).length = q) ∧ Hid (wr.ownsRow wz.heap.size 3 1 (.slice ar q cr) q ((allI (ks.take i)).flatMap numCells)) ∧ Hid (Below wz.heap.size wz wr)) (fun _ z _ => m - (RowKit.intOf z).toNat)
      case atStart => exact ⟨0, 0, 0, none, Nat.zero_le _, rfl, rfl, Lib.hid rfl, Lib.hid (World.ownsRow_nil _ _ _ _), Lib.hid (Below.refl _ _)⟩
      case round =>
        obtain ⟨i, q, cr, ar, hi, rfl, rfl, HQ, HRow, HB⟩ := hrel
        by_cases him : i < m
        · obtain ⟨x, hx⟩ : ∃ x, l[i]? = some x := ⟨_, List.getElem?_eq_getElem (by rw [HL.out.1]; exact him)⟩
          obtain ⟨⟨kk, fl⟩, hky⟩ : ∃ y, ks[i]? = some y := ⟨_, List.getElem?_eq_getElem (by rw [HKL.out]; exact him)⟩
          have hkx : kk = plainK x := by
            have h1 : (ks.map (·.1))[i]? = (l.map plainK)[i]? := by rw [HSZ.out.2]
            rw [List.getElem?_map, List.getElem?_map, hky, hx] at h1
            simpa using h1
          subst hkx
          have HXK := Lib.hid (And.intro hx (HO.out.1 x (List.mem_of_getElem? hx)))
          have HFI := Lib.hid (found_is hky)
          have HNX := Lib.hid (allI_next hky)
          have HKI := Lib.hid (show (ks.map (·.2))[i]? = some fl from by rw [List.getElem?_map, hky]; rfl)
          have hq : q ≤ i := by
            rw [← HQ.out]
            exact Nat.le_trans selI_len (by rw [List.length_take]; omega)
          obtain ⟨b, off, rfl, _, _⟩ := (HK.out.ext HBZ.out).get hx
          have q0 := (HSZ.out.1.2.1.ext HB.out).cells i fl HKI.out
          clear hx hky
          cases fl
          · have HN := Lib.hid (show allI (ks.take (i + 1)) = allI (ks.take i) from by rw [HNX.out, if_neg (by simp), List.append_nil])
            obtain ⟨wa, rfl⟩ : ∃ wa, wa = wr := ⟨_, rfl⟩
            have HQA := Lib.hid (show (allI (ks.take (i + 1))).length = q from by rw [HN.out]; exact HQ.out)
            have HRA := Lib.hid (show wa.ownsRow wz.heap.size 3 1 (.slice ar q cr) q ((allI (ks.take (i + 1))).flatMap numCells) from by rw [HN.out]; exact HRow.out)
            have HBA := HB
            obtain ⟨qa, rfl⟩ : ∃ qa, qa = q := ⟨_, rfl⟩
            obtain ⟨ca, rfl⟩ : ∃ ca, ca = cr := ⟨_, rfl⟩
            obtain ⟨aa, rfl⟩ : ∃ aa, aa = ar := ⟨_, rfl⟩
            go_upto_region 27 with fail
            obtain ⟨b', off', e, _, c0, c1, c2, c3⟩ := (HK.out.ext (Ext.trans' HBZ.out HBA.out)).get HXK.out.1
            cases e
            have C := ixPickM_at (HSZ.out.1.1.ext HBA.out) (by rw [HKL.out]; omega) x HXK.out.2
            obtain ⟨P, hP⟩ : ∃ P, pickT x ks 0 = P := ⟨_, rfl⟩
            rw [hP] at C
            have HFP := Lib.hid (show decide ((i : Int) ∈ P) = false from by rw [← hP]; exact HFI.out)
            clear hP q0
            (go_wp2_with fail; go_fit (C); rintro e w4 ⟨r4, rfl, n4, b4⟩)
            obtain ⟨ra, rc, rfl, hr1, hr2⟩ := n4.len
            unfold maxLen at hr2
            obtain ⟨mp, hmp⟩ : ∃ mp, P.length = mp := ⟨_, rfl⟩
            have HMP := Lib.hid hmp
            rw [hmp] at n4 hr1 ⊢
            have HN4 := Lib.hid n4
            have HB4a := Lib.hid b4
            have HB4 := Lib.hid (Ext.trans' HBA.out b4)
            have q1 := (HSZ.out.1.2.1.ext HB4.out).cells i false HKI.out
            have HQ1 := Lib.hid q1
            clear n4 b4 C c0 c1 c2 c3 hmp q1
            go_upto_region 30 with fail
            go_wp2_with fail
            go_loopw [13, 14] (fun fz z wr => ∃ t : Nat, t ≤ mp ∧ z = .int .i64 t ∧ fz = .bool (fnd P i t) ∧ Hid (Below w4.heap.size w4 wr)) (fun _ z _ => mp - (RowKit.intOf z).toNat)
            case atStart => exact ⟨0, Nat.zero_le _, rfl, rfl, Lib.hid (Below.refl _ _)⟩
            case round =>
              obtain ⟨t, ht, rfl, rfl, HT⟩ := hrel
              by_cases htm : t < mp
              · obtain ⟨y, hy⟩ : ∃ y, P[t]? = some y := ⟨_, List.getElem?_eq_getElem (by rw [HMP.out]; exact htm)⟩
                have HST := Lib.hid (found_step (i := i) hy)
                obtain ⟨b3, o3, rfl, _, cy⟩ := (HN4.out.ext HT.out).get hy
                clear hy
                obtain ⟨f0, hf0⟩ : ∃ f0, fnd P i t = f0 := ⟨_, rfl⟩
                have HF0 := Lib.hid hf0
                rw [hf0]
                clear hf0
                cases f0
                · have HN2 := Lib.hid (show fnd P i (t + 1) = (y == (i : Int)) from by rw [HST.out, HF0.out, Bool.false_or])
                  go_wp2
                  go_roundw
                  case rel => exact ⟨t + 1, htm, by go_num, by rw [HN2.out], HT⟩
                  case measure => simp [RowKit.intOf]; omega
                · have HN2 := Lib.hid (show fnd P i (t + 1) = true from by rw [HST.out, HF0.out, Bool.true_or])
                  go_wp2
                  go_roundw
                  case rel => exact ⟨t + 1, htm, by go_num, by rw [HN2.out], HT⟩
                  case measure => simp [RowKit.intOf]; omega
              have hte : mp = t := by omega
              subst hte
              have hmx : ¬ (mp : Int) < mp := by omega
              have hff : fnd P i mp = false := by unfold fnd; rw [List.take_of_length_le (by rw [HMP.out]; exact Nat.le_refl _)]; exact HFP.out
              rw [hff]
              clear hff
              have q1 := (HSZ.out.1.2.1.ext (Ext.trans' HB4.out HT.out)).cells i false HKI.out
              have HB5 := Lib.hid (Ext.trans' HB4.out HT.out)
              go_wp2
              go_roundw
              case rel => exact ⟨i + 1, qa, ca, aa, him, by go_num, by go_num, HQA, Lib.hid (row_at HRA.out (fun g hg => (Ext.trans' HB4a.out HT.out).block g (row_in HRA.out hg).2)), HB5⟩
              case measure => simp [RowKit.intOf]; omega
          · have HN := Lib.hid (show allI (ks.take (i + 1)) = allI (ks.take i) ++ [(i : Int)] from by rw [HNX.out, if_pos rfl])
            have HSZr := Lib.hid HB.out.size
            go_upto_region 27 with (first
              | (at_builtin; refine wpList_append_k rfl _ _ 81 rfl wz.heap.size 3 i0 (.int .i64 0) 1 8 Try.underlying81 hi0 hz0 hs0 (by decide) hb0 rfl (.slice ar q cr) q ((allI (ks.take i)).flatMap numCells) rfl (row_at HRow.out (fun g hg => (bel1' wr _).block g (row_in HRow.out hg).2)) (some ⟨wr.heap.size, 0, none⟩) 1 1 [.int .i64 (i : Int)] rfl rfl (Or.inr ⟨_, rfl, fun jj uu hu => cell_new wr #[.int .i64 (i : Int)] _ jj uu hu⟩) (by simp [Value.oneCell']) (by unfold maxLen; omega) (by omega) (by have := HSZr.out; simp; omega) (q + 1) ((allI (ks.take i)).flatMap numCells ++ [.int .i64 (i : Int)]) rfl rfl ?_; intro aa ca wa hown4 hgrow4 hat4
                 have HRA0 := Lib.hid hown4
                 have HBA := Lib.hid (show Below wz.heap.size wz wa from (HB.out.trans ((bel1' wr _).mono HB.out.size)).grown hgrow4 (by have := HB.out.size; simp; omega) (fun g hg => (row_in HRow.out hg).1))
                 clear hown4 hgrow4 hat4)
              | fail)
            have HQA := Lib.hid (show (allI (ks.take (i + 1))).length = q + 1 from by rw [HN.out, List.length_append, HQ.out]; rfl)
            have HRA := Lib.hid (show wa.ownsRow wz.heap.size 3 1 (.slice aa (q + 1) ca) (q + 1) ((allI (ks.take (i + 1))).flatMap numCells) from by rw [HN.out, List.flatMap_append]; exact HRA0.out)
            obtain ⟨qa, hqa⟩ : ∃ qa, q + 1 = qa := ⟨_, rfl⟩
            (try rw [hqa])
            rw [hqa] at HQA HRA
            clear hqa
            obtain ⟨b', off', e, _, c0, c1, c2, c3⟩ := (HK.out.ext (Ext.trans' HBZ.out HBA.out)).get HXK.out.1
            cases e
            have C := ixPickM_at (HSZ.out.1.1.ext HBA.out) (by rw [HKL.out]; omega) x HXK.out.2
            obtain ⟨P, hP⟩ : ∃ P, pickT x ks 0 = P := ⟨_, rfl⟩
            rw [hP] at C
            have HFP := Lib.hid (show decide ((i : Int) ∈ P) = true from by rw [← hP]; exact HFI.out)
            clear hP q0
            (go_wp2_with fail; go_fit (C); rintro e w4 ⟨r4, rfl, n4, b4⟩)
            obtain ⟨ra, rc, rfl, hr1, hr2⟩ := n4.len
            unfold maxLen at hr2
            obtain ⟨mp, hmp⟩ : ∃ mp, P.length = mp := ⟨_, rfl⟩
            have HMP := Lib.hid hmp
            rw [hmp] at n4 hr1 ⊢
            have HN4 := Lib.hid n4
            have HB4a := Lib.hid b4
            have HB4 := Lib.hid (Ext.trans' HBA.out b4)
            have q1 := (HSZ.out.1.2.1.ext HB4.out).cells i true HKI.out
            have HQ1 := Lib.hid q1
            clear n4 b4 C c0 c1 c2 c3 hmp q1
            go_upto_region 30 with fail
            go_wp2_with fail
            go_loopw [13, 14] (fun fz z wr => ∃ t : Nat, t ≤ mp ∧ z = .int .i64 t ∧ fz = .bool (fnd P i t) ∧ Hid (Below w4.heap.size w4 wr)) (fun _ z _ => mp - (RowKit.intOf z).toNat)
            case atStart => exact ⟨0, Nat.zero_le _, rfl, rfl, Lib.hid (Below.refl _ _)⟩
            case round =>
              obtain ⟨t, ht, rfl, rfl, HT⟩ := hrel
              by_cases htm : t < mp
              · obtain ⟨y, hy⟩ : ∃ y, P[t]? = some y := ⟨_, List.getElem?_eq_getElem (by rw [HMP.out]; exact htm)⟩
                have HST := Lib.hid (found_step (i := i) hy)
                obtain ⟨b3, o3, rfl, _, cy⟩ := (HN4.out.ext HT.out).get hy
                clear hy
                obtain ⟨f0, hf0⟩ : ∃ f0, fnd P i t = f0 := ⟨_, rfl⟩
                have HF0 := Lib.hid hf0
                rw [hf0]
                clear hf0
                cases f0
                · have HN2 := Lib.hid (show fnd P i (t + 1) = (y == (i : Int)) from by rw [HST.out, HF0.out, Bool.false_or])
                  go_wp2
                  go_roundw
                  case rel => exact ⟨t + 1, htm, by go_num, by rw [HN2.out], HT⟩
                  case measure => simp [RowKit.intOf]; omega
                · have HN2 := Lib.hid (show fnd P i (t + 1) = true from by rw [HST.out, HF0.out, Bool.true_or])
                  go_wp2
                  go_roundw
                  case rel => exact ⟨t + 1, htm, by go_num, by rw [HN2.out], HT⟩
                  case measure => simp [RowKit.intOf]; omega
              have hte : mp = t := by omega
              subst hte
              have hmx : ¬ (mp : Int) < mp := by omega
              have hff : fnd P i mp = true := by unfold fnd; rw [List.take_of_length_le (by rw [HMP.out]; exact Nat.le_refl _)]; exact HFP.out
              rw [hff]
              clear hff
              have q1 := (HSZ.out.1.2.1.ext (Ext.trans' HB4.out HT.out)).cells i true HKI.out
              have HB5 := Lib.hid (Ext.trans' HB4.out HT.out)
              go_wp2
              go_roundw
              case rel => exact ⟨i + 1, qa, ca, aa, him, by go_num, by go_num, HQA, Lib.hid (row_at HRA.out (fun g hg => (Ext.trans' HB4a.out HT.out).block g (row_in HRA.out hg).2)), HB5⟩
              case measure => simp [RowKit.intOf]; omega
        · have hie : m = i := by omega
          subst hie
          have hmx : ¬ (m : Int) < m := by omega
          have hall : allI (ks.take m) = allI ks := by rw [List.take_of_length_le (by rw [HKL.out]; exact Nat.le_refl _)]
          have HRow2 := HRow
          rw [hall] at HRow2
          have HQ2 := Lib.hid (show (allI ks).length = q from by rw [← hall]; exact HQ.out)
          clear hall
          have C := ixPickM_at (HSZ.out.1.1.ext HB.out) (by rw [HKL.out]; omega) zeroKey ixZero
          rw [show pickT zeroKey ks 0 = allI ks from pick_zero rfl] at C
          (go_wp2_with fail; go_fit (C); rintro e w4 ⟨r4, rfl, n4, b4⟩)
          have HB4 := Lib.hid (Ext.trans' HB.out b4)
          have hN2 : Nums w4 (.slice ar q cr) (allI ks) := by
            have h := Elems.owned (cells := numCells) (L := allI ks) (fun _ => rfl) (by rw [HQ2.out]; exact HRow2.out)
            exact Nums.ext h b4
          have C2 := ints_at n4 hN2
          clear n4 hN2 b4 C
          (go_wp2_with fail; go_fit (C2); rintro e w5 ⟨rfl, b5⟩)
          have HB5 := Lib.hid (Ext.trans' HB4.out b5)
          clear b5 C2
          go_wp2
          go_ret
          exact ⟨by first | rfl | (rw [decide_eq_true rfl]), Ext.trans' HBZ.out HB5.out⟩
end Go.Proofs.Ytchbbaehdcmcfaa
/- IndexAll: of no kind all that are there are picked; each is picked by its own key: for every input the law answers true. No condition. -/
namespace Go.Proofs.Ytchbbaehdcmcfaa
open Go.RowKit
namespace indexAll
open Go.ChangeShapes Go.WideShapes Go.ChangeAt Go.RowKit
theorem own : ownKnob Try.prog.godebug = none := by kernel_rfl
theorem laidOut : laidOutB Try.prog = true := by kernel_rfl
set_option linter.unusedVariables false
set_option maxRecDepth 100000 in
theorem lifted (os : Os) (started : os.Started) (H : Type) (enc : TypeId × Value → H) :
  ReturnsInHanded {} Try.checked os 10 .any (Rows.indexAllSpec.pre6 enc Try.prog Try.f10 Rows.indexAllRow.domain false) (Rows.indexAllSpec.post enc Try.prog Try.f10 false true false false) := by
 refine returnsInHanded_of_change_sized (C := Try.checked) own started (by kernel_rfl) Try.func10
  (ChangeSpec.witness6 (enc := enc) (C := Try.checked) false ⟨#[], #[.slice none 0 0, .slice none 0 0], []⟩ 8 (by kernel_rfl) (by kernel_rfl) (by kernel_rfl) (by kernel_rfl)) ?_
 intro W base args ds gs before hval0 hW hcnd hsz0 _
 have hval : ∀ (j : Nat) t v, Try.f10.params[j]? = some t → args[j]? = some v → Value.okWide Try.prog W .any base t v := hval0
 have hW' := hW
 obtain ⟨p, q, hA0, hV, rfl, hfz, hnd⟩ := hW
 have hA : DataW.TrodAll enc Try.prog W 0 (fun _ => true) true Try.f10.params.toList args.toList ds p := hA0
 have hsz : (DataW.weightsEach Try.prog (Try.f10.params.toList ++ []) (ds ++ gs)).all (· ≤ reachBytes) = true := hsz0
 rw [Try.params10] at hA hval hsz
 obtain ⟨v0, vs0, d0, ds0, p0, q0, hargs, rfl, rfl, h0, r0⟩ := trodAll_cons hA
 obtain ⟨v1, vs1, d1, ds1, p1, q1, rfl, rfl, rfl, h1, r1⟩ := trodAll_cons r0
 obtain ⟨rfl, rfl, rfl⟩ := trodAll_nil r1
 obtain rfl : args = #[v0, v1] := by cases args; simp_all
 obtain ⟨rfl, rfl⟩ := trodVars_none hV
 clear hA0 hval0 hsz0
 have k0 := h0
 have lt0 := lt_of_trod h0
 have k1 := h1
 have lt1 := lt_of_trod h1
 obtain ⟨a0, w0⟩ := keys_of_trod h0 (hval 0 87 v0 rfl rfl) (weights_ok hsz (j := 0) (t := 87) (d := d0) rfl rfl)
 obtain ⟨a1, w1⟩ := ints_of_trod h1 (hval 1 81 v1 rfl rfl) (weights_ok hsz (j := 1) (t := 81) (d := d1) rfl rfl)
 refine (indexAll_at w0 w1).mono fun e W' ⟨he, bel⟩ => ?_
 subst he
 exact ⟨_, rfl, _, _, _, [], _, [], hW', trodAll_mk1 (shut_bool Try.underlying4 _), (trodAll_cons_mk (Below.trod laidOut (by kernel_rfl) (of_decide_eq_true (by kernel_rfl)) k0 bel lt0) (trodAll_cons_mk (Below.trod laidOut (by kernel_rfl) (of_decide_eq_true (by kernel_rfl)) k1 bel lt1) trodAll_mk0)), rfl, bel.frame _, fun h => by cases h⟩
theorem proved : Rows.IndexAllSaid :=
 OpenClaim.holds_of_wide 10 Try.f10 rfl rfl rfl rfl rfl rfl rfl ⟨rfl, rfl, rfl, rfl, rfl⟩ rfl rfl rfl rfl rfl (by kernel_rfl) Try.func10 (by kernel_rfl)
  (of_decide_eq_true (by kernel_rfl)) (by unfold Func.isWrapper; first | (rw [if_pos (by decide +kernel)]; kernel_rfl) | (rw [if_neg (by decide +kernel)]; exact ⟨rfl, rfl⟩))
  (fun os started H enc _ => lifted os started H enc)
#print axioms proved
end indexAll
end Go.Proofs.Ytchbbaehdcmcfaa
