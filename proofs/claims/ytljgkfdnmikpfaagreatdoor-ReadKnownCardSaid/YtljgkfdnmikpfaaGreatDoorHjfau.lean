import Derived.Test.YtljgkfdnmikpfaaGreatDoorHjfat
import Derived.Test.YtljgkfdnmikpfaaGreatDoorHjfab
import Derived.Test.YtljgkfdnmikpfaaGreatDoorHjfah
import Derived.Test.YtljgkfdnmikpfaaGreatDoorHjfap
import Derived.Test.YtljgkfdnmikpfaaGreatDoorHjfas
import Derived.Lib.SmallJoins
import Derived.Lib.LaidTab
import Derived.Lib.ItoaMem
import Derived.Test.YtljgkfdnmikpfaaGreatDoorHjfad
import Derived.Lib.ItoaLen
import Derived.Lib.AppendIntMem
import Derived.Test.YtljgkfdnmikpfaaGreatDoorHjfag
import Derived.Deep.RegionHeld3
import Derived.Test.YtljgkfdnmikpfaaGreatDoorHjfan
import Derived.Laws.StructEq
import Derived.Test.YtljgkfdnmikpfaaGreatDoorHjfac
set_option linter.unusedVariables false
set_option linter.unusedSimpArgs false
/- ReadKnown: the chapter's texts read as it says: the law, walked. -/
namespace Go.Proofs.YtljgkfdnmikpfaaGreatDoor
open Go.Shelf Go.RowKit
set_option linter.unusedVariables false
set_option maxRecDepth 100000

theorem bad_size : (badL.all fun s => decide (s.size ≤ 4096)) = true := by kernel_rfl
theorem in_size : (inL.all fun s => decide (s.size ≤ 4096)) = true := by kernel_rfl
theorem bad_at {k : Nat} (h : k < 20) : ∃ x, badL[k]? = some x ∧ textOK (bl x) = true ∧ textB (bl x) = [101, 114, 114, 111, 114] ∧ x.size ≤ 4096 := by
  have hk : k < badL.length := h
  have hm : badL[k] ∈ badL := List.getElem_mem hk
  have h1 := List.all_eq_true.1 bad_all _ hm
  have h2 := List.all_eq_true.1 bad_size _ hm
  rw [Bool.and_eq_true] at h1
  exact ⟨badL[k], List.getElem?_eq_getElem hk, h1.1, eq_of_beq h1.2, of_decide_eq_true h2⟩
theorem in_at {k : Nat} (h : k < 24) : ∃ x y, inL[k]? = some x ∧ outL[k]? = some y ∧ textOK (bl x) = true ∧ textB (bl x) = bl y ∧ x.size ≤ 4096 := by
  have hk : k < inL.length := h
  have hk2 : k < outL.length := h
  have hm : (inL[k], outL[k]) ∈ inL.zip outL := by
    rw [List.mem_iff_getElem]
    exact ⟨k, by rw [List.length_zip]; omega, List.getElem_zip⟩
  have h1 := List.all_eq_true.1 out_all _ hm
  have h2 := List.all_eq_true.1 in_size _ (List.getElem_mem hk)
  rw [Bool.and_eq_true] at h1
  exact ⟨inL[k], outL[k], List.getElem?_eq_getElem hk, List.getElem?_eq_getElem hk2, h1.1, eq_of_beq h1.2, of_decide_eq_true h2⟩
theorem pba_bl (y : ByteArray) : baS (bl y) = y := rfl
theorem var_row (x2 : World) : Tms (x2.alloc (.cells #[.int .i64 0, .int .i64 0, .string ⟨#[]⟩, .slice none 0 0] 27)) (.slice (some ⟨x2.heap.size, 0, none⟩) 1 1) [.mk 0 0 ⟨#[]⟩ []] := by
  have h := World.ownsRow_lit (e := 27) (size := 4) (base := x2.heap.size) x2 #[.int .i64 0, .int .i64 0, .string ⟨#[]⟩, .slice none 0 0] 1 (Nat.le_refl _) (by unfold maxLen; omega) rfl
  have h2 : RowP _ x2.heap.size 27 (.slice (some ⟨x2.heap.size, 0, none⟩) 1 1) [((.mk 0 0 ⟨#[]⟩ [] : Tm), Value.slice none 0 0)] := h
  exact h2.terms (fun p hp => by
    rw [List.mem_singleton] at hp
    subst hp
    exact leaf_tm _ i64_0 i64_0 (by unfold BIG; decide)) (by unfold BIG; decide)
abbrev zOp : O := ⟨⟨#[]⟩, ⟨#[]⟩, 0⟩
def lS : ByteArray := ⟨#[112, 40, 88, 41, 46, 32, 113, 40, 89, 44, 32, 88, 41, 32, 58, 45, 32, 114, 46]⟩
def mS : ByteArray := ⟨#[32, 37, 32, 110, 111, 116, 104, 105, 110, 103]⟩
def qS : ByteArray := ⟨#[112, 46, 32, 113]⟩
def lA : Tm := .mk 2 0 ⟨#[112]⟩ [.mk 0 0 ⟨#[]⟩ []]
def lB : Tm := .mk 2 0 ⟨#[58, 45]⟩ [.mk 2 0 ⟨#[113]⟩ [.mk 0 0 ⟨#[]⟩ [], .mk 0 1 ⟨#[]⟩ []], .mk 2 0 ⟨#[114]⟩ []]
theorem l_read : readB ALL opsB (bl lS) = .ok [lA, lB] := by kernel_rfl
theorem m_read : readB ALL opsB (bl mS) = .ok [] := by kernel_rfl
theorem q_read : readB ALL opsB (bl qS) = .bad 2 := by kernel_rfl
theorem same_p : (goodT lA && goodT (.mk 2 0 ⟨#[112]⟩ [.mk 0 0 ⟨#[]⟩ []]) && sameT lA (.mk 2 0 ⟨#[112]⟩ [.mk 0 0 ⟨#[]⟩ []])) = true := by kernel_rfl
theorem vars_q : (if goodT lB then varsT lB [] else []) = [0, 1] := by kernel_rfl
theorem bad_op_at {w : World} {v : Value} (he : Err w) (ho : Ops w v [zOp]) : Calls Tryz.prog 15 #[.agg #[v], .string ⟨#[97, 46]⟩] w fun e w' => e = .returned (.tuple #[zeroT, .slice none 0 0, .int .i64 1]) ∧ Below w.heap.size w w' :=
  (term8_at ho ⟨#[97, 46]⟩ he (by decide)).mono fun e w' (h : TermX w (readB oneR [zOp] (bl ⟨#[97, 46]⟩)) e w') => by
    rw [show readB oneR [zOp] (bl ⟨#[97, 46]⟩) = .bad 1 from by kernel_rfl] at h
    exact h
set_option maxHeartbeats 8000000 in
theorem readKnown_walk {w : World} (he : Err w) : Calls Tryz.prog 3 #[] w fun e w' => e = .returned (.bool true) ∧ Below w.heap.size w w' := by
  have HAW := Lib.hid (awake8_at he)
  have HE := Lib.hid he
  clear he
  go_enter Tryz.func3, Tryz.ntmps3
  (go_wp2_with fail; go_fit (HAW.out); rintro e w1 ⟨rfl, b1⟩)
  have B1 := Lib.hid b1
  clear b1
  obtain ⟨w2, hw2, hb2, hz2, hx2⟩ := box_new w1 #[.string ⟨#[]⟩, .string ⟨#[97]⟩, .string ⟨#[97, 32, 98, 46]⟩, .string ⟨#[97, 46, 98]⟩, .string ⟨#[97, 32, 61, 32, 98, 32, 61, 32, 99, 46]⟩, .string ⟨#[102, 40, 97, 46]⟩, .string ⟨#[91, 97, 124, 98, 44, 99, 93, 46]⟩, .string ⟨#[97, 32, 58, 45, 32, 98, 32, 58, 45, 32, 99, 46]⟩, .string ⟨#[61, 32, 97, 46]⟩, .string ⟨#[102, 40, 97, 32, 58, 45, 32, 98, 41, 46]⟩, .string ⟨#[40, 97, 46]⟩, .string ⟨#[97, 41, 46]⟩, .string ⟨#[97, 46, 32, 98, 46]⟩, .string ⟨#[123, 97, 46]⟩, .string ⟨#[88, 40, 97, 41, 46]⟩, .string ⟨#[102, 40, 41, 46]⟩, .string ⟨#[91, 97, 124, 93, 46]⟩, .string ⟨#[44, 32, 46]⟩, .string ⟨#[97, 32, 59, 32, 46]⟩, .string ⟨#[97, 32, 45, 62, 32, 46]⟩] 9
  obtain ⟨bb, hbb⟩ : ∃ bb, w1.heap.size = bb := ⟨_, rfl⟩
  have HX2 := Lib.hid (show ∀ k x, badL[k]? = some x → w2.cell? ⟨bb, k, none⟩ = some (.string x) from fun k x hx => by
    rw [← hbb]
    exact hx2.cells k (.string x) (by
      show (badL.map Value.string)[k]? = _
      rw [List.getElem?_map, hx]; rfl))
  have HB2 := Lib.hid (Ext.trans' B1.out hb2)
  clear hb2 hz2 hx2
  go_wp2_with fail
  (try rw [hw2])
  clear hw2
  (try rw [hbb])
  clear hbb
  go_loopw [2] (fun v wr => ∃ k : Nat, k ≤ 20 ∧ v = .int .i64 k ∧ Hid (Below w2.heap.size w2 wr)) (fun v _ => 20 - (intOf v).toNat)
  case atStart => exact ⟨0, by omega, rfl, Lib.hid (Below.refl _ _)⟩
  case round =>
    obtain ⟨k, hk, rfl, HB⟩ := hrel
    by_cases hlt : k < 20
    · obtain ⟨x, hx, h1, h2, h3⟩ := bad_at hlt
      have c0 : wr.cell? ⟨bb, k, none⟩ = some (.string x) := cell_later HB.out (HX2.out k x hx)
      have T := text_any h1 h3 (HE.out.ext (Ext.trans' HB2.out HB.out))
      rw [h2] at T
      clear hx h1 h2 h3
      (go_wp2_with fail; go_fit (T); rintro e w3 ⟨rfl, b3⟩)
      have HB3 := Lib.hid (Ext.trans' HB.out b3)
      clear b3 c0
      go_wp2
      go_roundw
      case rel => exact ⟨k + 1, by omega, by go_num, HB3⟩
      case measure => simp [intOf]; omega
    · obtain rfl : k = 20 := by omega
      have HB3 := Lib.hid (Ext.trans' HB2.out HB.out)
      have HERR := Lib.hid (HE.out.ext HB3.out)
      clear HB HX2 hlt hk
      obtain ⟨w3, hw3, hb3, hz3, hx3⟩ := box_new wr #[.string ⟨#[97, 32, 43, 32, 98, 32, 43, 32, 99, 46]⟩, .string ⟨#[97, 32, 59, 32, 98, 32, 59, 32, 99, 46]⟩, .string ⟨#[45, 32, 49, 46]⟩, .string ⟨#[45, 49, 46]⟩, .string ⟨#[45, 32, 40, 49, 41, 46]⟩, .string ⟨#[97, 32, 45, 32, 49, 46]⟩, .string ⟨#[97, 32, 45, 49, 46]⟩, .string ⟨#[102, 40, 45, 41, 46]⟩, .string ⟨#[91, 97, 44, 98, 124, 84, 93, 46]⟩, .string ⟨#[123, 97, 44, 98, 125, 46]⟩, .string ⟨#[92, 43, 32, 97, 32, 61, 32, 98, 46]⟩, .string ⟨#[45, 32, 45, 32, 97, 46]⟩, .string ⟨#[102, 40, 97, 44, 32, 40, 98, 32, 58, 45, 32, 99, 41, 41, 46]⟩, .string ⟨#[39, 43, 39, 40, 49, 44, 50, 41, 46]⟩, .string ⟨#[97, 58, 45, 98, 44, 99, 59, 100, 45, 62, 101, 46]⟩, .string ⟨#[88, 32, 61, 32, 39, 61, 39, 46]⟩, .string ⟨#[91, 93, 46]⟩, .string ⟨#[102, 40, 43, 41, 46]⟩, .string ⟨#[45, 32, 97, 32, 42, 32, 98, 46]⟩, .string ⟨#[91, 45, 93, 46]⟩, .string ⟨#[45, 40, 49, 44, 50, 41, 46]⟩, .string ⟨#[95, 32, 61, 32, 95, 46]⟩, .string ⟨#[50, 32, 45, 32, 45, 49, 46]⟩, .string ⟨#[97, 32, 105, 115, 32, 98, 32, 109, 111, 100, 32, 99, 46]⟩] 9
      obtain ⟨w4, hw4, hb4, hz4, hx4⟩ := box_new w3 #[.string ⟨#[43, 40, 43, 40, 97, 44, 98, 41, 44, 99, 41]⟩, .string ⟨#[59, 40, 97, 44, 59, 40, 98, 44, 99, 41, 41]⟩, .string ⟨#[45, 40, 49, 41]⟩, .string ⟨#[45, 49]⟩, .string ⟨#[45, 40, 49, 41]⟩, .string ⟨#[45, 40, 97, 44, 49, 41]⟩, .string ⟨#[45, 40, 97, 44, 49, 41]⟩, .string ⟨#[102, 40, 45, 41]⟩, .string ⟨#[39, 46, 39, 40, 97, 44, 39, 46, 39, 40, 98, 44, 95, 48, 41, 41]⟩, .string ⟨#[123, 125, 40, 39, 44, 39, 40, 97, 44, 98, 41, 41]⟩, .string ⟨#[92, 43, 40, 61, 40, 97, 44, 98, 41, 41]⟩, .string ⟨#[45, 40, 45, 40, 97, 41, 41]⟩, .string ⟨#[102, 40, 97, 44, 58, 45, 40, 98, 44, 99, 41, 41]⟩, .string ⟨#[43, 40, 49, 44, 50, 41]⟩, .string ⟨#[58, 45, 40, 97, 44, 59, 40, 39, 44, 39, 40, 98, 44, 99, 41, 44, 45, 62, 40, 100, 44, 101, 41, 41, 41]⟩, .string ⟨#[61, 40, 95, 48, 44, 61, 41]⟩, .string ⟨#[91, 93]⟩, .string ⟨#[102, 40, 43, 41]⟩, .string ⟨#[42, 40, 45, 40, 97, 41, 44, 98, 41]⟩, .string ⟨#[39, 46, 39, 40, 45, 44, 91, 93, 41]⟩, .string ⟨#[45, 40, 49, 44, 50, 41]⟩, .string ⟨#[61, 40, 95, 48, 44, 95, 49, 41]⟩, .string ⟨#[45, 40, 50, 44, 45, 49, 41]⟩, .string ⟨#[105, 115, 40, 97, 44, 109, 111, 100, 40, 98, 44, 99, 41, 41]⟩] 9
      obtain ⟨bi, hbi⟩ : ∃ bi, wr.heap.size = bi := ⟨_, rfl⟩
      obtain ⟨bo, hbo⟩ : ∃ bo, w3.heap.size = bo := ⟨_, rfl⟩
      have HXI := Lib.hid (show ∀ k x, inL[k]? = some x → w4.cell? ⟨bi, k, none⟩ = some (.string x) from fun k x hx => by
        rw [← hbi]
        exact cell_later hb4 (hx3.cells k (.string x) (by
          show (inL.map Value.string)[k]? = _
          rw [List.getElem?_map, hx]; rfl)))
      have HXO := Lib.hid (show ∀ k x, outL[k]? = some x → w4.cell? ⟨bo, k, none⟩ = some (.string x) from fun k x hx => by
        rw [← hbo]
        exact hx4.cells k (.string x) (by
          show (outL.map Value.string)[k]? = _
          rw [List.getElem?_map, hx]; rfl))
      have HB4 := Lib.hid (Ext.trans' HB3.out (Ext.trans' hb3 hb4))
      clear hb3 hb4 hz3 hz4 hx3 hx4
      go_wp2_with fail
      (try rw [hw3])
      (try rw [hw4])
      clear hw3 hw4
      (try rw [hbi])
      (try rw [hbo])
      clear hbi hbo HB3
      go_loopw [5] (fun v wr => ∃ k : Nat, k ≤ 24 ∧ v = .int .i64 k ∧ Hid (Below w4.heap.size w4 wr)) (fun v _ => 24 - (intOf v).toNat)
      case atStart => exact ⟨0, by omega, rfl, Lib.hid (Below.refl _ _)⟩
      case round =>
        obtain ⟨k, hk, rfl, HB⟩ := hrel
        by_cases hlt : k < 24
        · obtain ⟨x, y, hx, hy, h1, h2, h3⟩ := in_at hlt
          have c0 : wr.cell? ⟨bi, k, none⟩ = some (.string x) := cell_later HB.out (HXI.out k x hx)
          have c1 : wr.cell? ⟨bo, k, none⟩ = some (.string y) := cell_later HB.out (HXO.out k y hy)
          have T := Lib.hid (fun (wq : World) (hq : Below wr.heap.size wr wq) => text_any h1 h3 (HE.out.ext (Ext.trans' HB4.out (Ext.trans' HB.out hq))))
          rw [h2, pba_bl] at T
          clear hx hy h1 h2 h3
          go_upto_region 14 with fail
          (refine wp_region_class (fun w' => (w'.cell? ⟨bi, k, none⟩ = some (.string x) ∧ w'.cell? ⟨bo, k, none⟩ = some (.string y)) ∧ Below wr.heap.size wr w') (by kernel_rfl) (by kernel_rfl) (⟨⟨c0, c1⟩, (Below.refl _ _).drew⟩) ?_; (repeat (first | go_big_quiet_skip | (go_big_quiet_want; refine quiet_of ?_; apply Exists.intro; refine ⟨fun wq hq => ?_, ?_⟩; (focus ((try dsimp only at hq); go_simp; (first | done | with_reducible rfl | ((go_at_call 14; refine (T.out wq hq.2).mono ?_; rintro e w6 ⟨rfl, h6⟩; exact ⟨rfl, ⟨cell_later h6 hq.1.1, cell_later h6 hq.1.2⟩, Below.trans hq.2 (h6.mono hq.2.size)⟩)) | fail))); try simp only [Act.put, List.setIfInBounds_toArray, List.set_cons_zero, List.set_cons_succ]; go_big_quiet_on) | fail)); refine wpQuiet_nil ?_; intro wz hz)
          have HB5 := Lib.hid (Ext.trans' HB.out hz.2)
          clear hz c0 c1 T
          go_wp2
          go_roundw
          case rel => exact ⟨k + 1, by omega, by go_num, HB5⟩
          case measure => simp [intOf]; omega
        · obtain rfl : k = 24 := by omega
          have HB5 := Lib.hid (Ext.trans' HB4.out HB.out)
          clear HB HXI HXO hlt hk
          have HE5 := Lib.hid (HE.out.ext HB5.out)
          obtain ⟨w6, hw6, hb6, hz6, hx6⟩ := box_new wr #[.string ⟨#[]⟩, .string ⟨#[]⟩, .int .i64 0] 33
          have HOW := World.ownsRow_lit (e := 33) (size := 3) (base := wr.heap.size) wr #[.string ⟨#[]⟩, .string ⟨#[]⟩, .int .i64 0] 1 (Nat.le_refl _) (by unfold maxLen; omega) rfl
          rw [hw6] at HOW
          have HOP := Lib.hid (show Ops w6 (.slice (some ⟨wr.heap.size, 0, none⟩) 1 1) [zOp] from Elems.owned oCells_len HOW)
          have HT1 := Lib.hid (bad_op_at (HE5.out.ext hb6) HOP.out)
          have HB6 := Lib.hid (Ext.trans' HB5.out hb6)
          clear HOW hb6 hz6 hx6 HB5 HOP
          go_upto_region 16 with fail
          (try rw [hw6])
          (go_wp2_with fail; go_fit (HT1.out); rintro e w7 ⟨rfl, hb7⟩)
          obtain ⟨w8, hw8, hb8, hz8, hx8⟩ := box_new w7 #[.int .i64 0, .int .i64 0, .string ⟨#[]⟩, .slice none 0 0] 27
          have HB8 := Lib.hid (Ext.trans' HB6.out (Ext.trans' hb7 hb8))
          have HW8 := Lib.hid hw8
          clear hw6 hb7 hb8 hz8 hx8 hw8 HB6 HT1
          go_upto_region 17 with fail
          rw [HW8.out]
          (go_wp2_with fail; go_fit (plain_walk w8); rintro e w9 ⟨v9, rfl, ho9, hb9⟩)
          have HB9 := Lib.hid (Ext.trans' HB8.out hb9)
          have HA := Lib.hid ((allP_at l_read (by decide) (HE.out.ext HB9.out) ho9).mono fun e w' (h : AllX w9 (.ok [lA, lB]) e w') => (show (∃ a c, e = .returned (.tuple #[.slice a 2 c, .int .i64 0]) ∧ Tms w' (.slice a 2 c) [lA, lB]) ∧ Below w9.heap.size w9 w' from h))
          clear hb9 ho9 HB8 HW8
          (go_wp2_with fail; go_fit (HA.out); rintro e wa ⟨⟨al, cl, rfl, hl⟩, hba⟩)
          have HBA := Lib.hid (Ext.trans' HB9.out hba)
          have HL := Lib.hid hl
          clear hl hba HA HB9
          (go_wp2_with fail; go_fit (plain_walk wa); rintro e wb ⟨vb, rfl, hob, hbb⟩)
          have HBB := Lib.hid (Ext.trans' HBA.out hbb)
          have HLB := Lib.hid (HL.out.ext hbb)
          have HM := Lib.hid ((allP_at m_read (by decide) (HE.out.ext HBB.out) hob).mono fun e w' (h : AllX wb (.ok []) e w') => (show (∃ a c, e = .returned (.tuple #[.slice a 0 c, .int .i64 0]) ∧ Tms w' (.slice a 0 c) []) ∧ Below wb.heap.size wb w' from h))
          clear hbb hob HBA HL
          (go_wp2_with fail; go_fit (HM.out); rintro e wc ⟨⟨am, cm, rfl, hm⟩, hbc⟩)
          have HBC := Lib.hid (Ext.trans' HBB.out hbc)
          have HLC := Lib.hid (HLB.out.ext hbc)
          clear hm hbc HM HBB HLB
          (go_wp2_with fail; go_fit (plain_walk wc); rintro e wd ⟨vd, rfl, hod, hbd⟩)
          have HBD := Lib.hid (Ext.trans' HBC.out hbd)
          have HLD := Lib.hid (HLC.out.ext hbd)
          have HQ := Lib.hid ((allP_at q_read (by decide) (HE.out.ext HBD.out) hod).mono fun e w' (h : AllX wd (.bad 2) e w') => (show e = .returned (.tuple #[.slice none 0 0, .int .i64 2]) ∧ Below wd.heap.size wd w' from h))
          clear hbd hod HBC HLC
          (go_wp2_with fail; go_fit (HQ.out); rintro e wf ⟨rfl, hbf⟩)
          have HBF := Lib.hid (Ext.trans' HBD.out hbf)
          have HLF := Lib.hid (HLD.out.ext hbf)
          clear hbf HQ HBD HLD
          obtain ⟨b0, off0, k0, n0, s0, u0, hal0, hb0, rfl, rfl, rfl, c00, c01, c02, c03, _, hA0⟩ := HLF.out.get (i := 0) (x := lA) rfl
          obtain ⟨b1', off1, k1, n1, s1, u1, hal1, hb1, rfl, rfl, rfl, c10, c11, c12, c13, _, hB0⟩ := HLF.out.get (i := 1) (x := lB) rfl
          cases hal0
          cases hal1
          simp only [Nat.zero_mul, Nat.add_zero] at c00 c01 c02 c03
          replace c10 : wf.cell? ⟨b0, off0 + 4, none⟩ = some (.int .i64 lB.k) := c10
          replace c11 : wf.cell? ⟨b0, off0 + 5, none⟩ = some (.int .i64 lB.n) := c11
          replace c12 : wf.cell? ⟨b0, off0 + 6, none⟩ = some (.string lB.s) := c12
          replace c13 : wf.cell? ⟨b0, off0 + 7, none⟩ = some u1 := c13
          go_upto_region 20 with fail
          refine wp_region_held_drew (S := fun w' => (w'.cell? ⟨b0, off0, none⟩ = some (.int .i64 lA.k) ∧ w'.cell? ⟨b0, off0 + 1, none⟩ = some (.int .i64 lA.n) ∧ w'.cell? ⟨b0, off0 + 2, none⟩ = some (.string lA.s) ∧ w'.cell? ⟨b0, off0 + 3, none⟩ = some u0 ∧ w'.cell? ⟨b0, off0 + 4, none⟩ = some (.int .i64 lB.k) ∧ w'.cell? ⟨b0, off0 + 5, none⟩ = some (.int .i64 lB.n) ∧ w'.cell? ⟨b0, off0 + 6, none⟩ = some (.string lB.s) ∧ w'.cell? ⟨b0, off0 + 7, none⟩ = some u1) ∧ Below wf.heap.size wf w') (by kernel_rfl) (⟨⟨c00, c01, c02, c03, c10, c11, c12, c13⟩, (Below.refl _ _).drew⟩) (fun hHeld => ?_)
          first | (refine held_t (i := 0) hHeld ?_; apply Exists.intro; refine ⟨fun wq hq => ?_, ?_⟩; (focus ((try dsimp only at hq); go_simp; (first | done | with_reducible rfl | fail)))) | refine held_s (i := 0) hHeld ?_ | fail
          first | (refine held_t (i := 1) hHeld ?_; apply Exists.intro; refine ⟨fun wq hq => ?_, ?_⟩; (focus ((try dsimp only at hq); go_simp; (first | done | with_reducible rfl | fail)))) | refine held_s (i := 1) hHeld ?_ | fail
          try simp only [Act.put, List.setIfInBounds_toArray, List.set_cons_zero, List.set_cons_succ]
          first | (refine held_t (i := 2) hHeld ?_; apply Exists.intro; refine ⟨fun wq hq => ?_, ?_⟩; (focus ((try dsimp only at hq); go_simp; (first | done | with_reducible rfl | fail)))) | refine held_s (i := 2) hHeld ?_ | fail
          first | (refine held_t (i := 3) hHeld ?_; apply Exists.intro; refine ⟨fun wq hq => ?_, ?_⟩; (focus ((try dsimp only at hq); go_simp; (first | done | with_reducible rfl | fail)))) | refine held_s (i := 3) hHeld ?_ | fail
          try simp only [Act.put, List.setIfInBounds_toArray, List.set_cons_zero, List.set_cons_succ]
          first | (refine held_t (i := 4) hHeld ?_; apply Exists.intro; refine ⟨fun wq hq => ?_, ?_⟩; (focus ((try dsimp only at hq); go_simp; (first | done | with_reducible rfl | fail)))) | refine held_s (i := 4) hHeld ?_ | fail
          first | (refine held_t (i := 5) hHeld ?_; apply Exists.intro; refine ⟨fun wq hq => ?_, ?_⟩; (focus ((try dsimp only at hq); go_simp; (first | done | with_reducible rfl | fail)))) | refine held_s (i := 5) hHeld ?_ | fail
          try simp only [Act.put, List.setIfInBounds_toArray, List.set_cons_zero, List.set_cons_succ]
          first | (refine held_t (i := 6) hHeld ?_; apply Exists.intro; refine ⟨fun wq hq => ?_, ?_⟩; (focus ((try dsimp only at hq); go_simp; (first | done | with_reducible rfl | fail)))) | refine held_s (i := 6) hHeld ?_ | fail
          first | (refine held_t (i := 7) hHeld ?_; apply Exists.intro; refine ⟨fun wq hq => ?_, ?_⟩; (focus ((try dsimp only at hq); go_simp; (first | done | with_reducible rfl | fail)))) | refine held_s (i := 7) hHeld ?_ | fail
          try simp only [Act.put, List.setIfInBounds_toArray, List.set_cons_zero, List.set_cons_succ]
          first | (refine held_t (i := 8) hHeld ?_; apply Exists.intro; refine ⟨fun wq hq => ?_, ?_⟩; (focus ((try dsimp only at hq); go_simp; (first | done | with_reducible rfl | fail)))) | refine held_s (i := 8) hHeld ?_ | fail
          first | (refine held_t (i := 9) hHeld ?_; apply Exists.intro; refine ⟨fun wq hq => ?_, ?_⟩; (focus ((try dsimp only at hq); go_simp; (first | done | with_reducible rfl | fail)))) | refine held_s (i := 9) hHeld ?_ | fail
          try simp only [Act.put, List.setIfInBounds_toArray, List.set_cons_zero, List.set_cons_succ]
          first | (refine held_t (i := 10) hHeld ?_; apply Exists.intro; refine ⟨fun wq hq => ?_, ?_⟩; (focus ((try dsimp only at hq); go_simp; (first | done | with_reducible rfl | fail)))) | refine held_s (i := 10) hHeld ?_ | fail
          first | (refine held_t (i := 11) hHeld ?_; apply Exists.intro; refine ⟨fun wq hq => ?_, ?_⟩; (focus ((try dsimp only at hq); go_simp; (first | done | with_reducible rfl | fail)))) | refine held_s (i := 11) hHeld ?_ | fail
          try simp only [Act.put, List.setIfInBounds_toArray, List.set_cons_zero, List.set_cons_succ]
          first | (refine held_t (i := 12) hHeld ?_; apply Exists.intro; refine ⟨fun wq hq => ?_, ?_⟩; (focus ((try dsimp only at hq); go_simp; (first | done | with_reducible rfl | fail)))) | refine held_s (i := 12) hHeld ?_ | fail
          first | (refine held_t (i := 13) hHeld ?_; apply Exists.intro; refine ⟨fun wq hq => ?_, ?_⟩; (focus ((try dsimp only at hq); go_simp; (first | done | with_reducible rfl | fail)))) | refine held_s (i := 13) hHeld ?_ | fail
          try simp only [Act.put, List.setIfInBounds_toArray, List.set_cons_zero, List.set_cons_succ]
          first | (refine held_t (i := 14) hHeld ?_; apply Exists.intro; refine ⟨fun wq hq => ?_, ?_⟩; (focus ((try dsimp only at hq); go_simp; (first | done | with_reducible rfl | fail)))) | refine held_s (i := 14) hHeld ?_ | fail
          try simp only [Act.put, List.setIfInBounds_toArray, List.set_cons_zero, List.set_cons_succ]
          refine held_c 15 fun K hK => ?_
          go_simp
          (go_at_call 20; refine (var_at _ 0).mono ?_; rintro e x2 ⟨rfl, hy2⟩)
          refine hK.out _ _ (⟨⟨cell_later hy2 hHeld.1.1, cell_later hy2 hHeld.1.2.1, cell_later hy2 hHeld.1.2.2.1, cell_later hy2 hHeld.1.2.2.2.1, cell_later hy2 hHeld.1.2.2.2.2.1, cell_later hy2 hHeld.1.2.2.2.2.2.1, cell_later hy2 hHeld.1.2.2.2.2.2.2.1, cell_later hy2 hHeld.1.2.2.2.2.2.2.2⟩, Ext.trans' hHeld.2 hy2⟩) (fun hHeld => ?_)
          clear hK K
          try simp only [Act.put, List.setIfInBounds_toArray, List.set_cons_zero, List.set_cons_succ]
          refine held_c 16 fun K hK => ?_
          go_simp
          skip
          refine hK.out _ _ (⟨⟨cell_later (bel1' _ _) hHeld.1.1, cell_later (bel1' _ _) hHeld.1.2.1, cell_later (bel1' _ _) hHeld.1.2.2.1, cell_later (bel1' _ _) hHeld.1.2.2.2.1, cell_later (bel1' _ _) hHeld.1.2.2.2.2.1, cell_later (bel1' _ _) hHeld.1.2.2.2.2.2.1, cell_later (bel1' _ _) hHeld.1.2.2.2.2.2.2.1, cell_later (bel1' _ _) hHeld.1.2.2.2.2.2.2.2⟩, Ext.trans' hHeld.2 (bel1' _ _)⟩) (fun hHeld => ?_)
          clear hK K
          try simp only [Act.put, List.setIfInBounds_toArray, List.set_cons_zero, List.set_cons_succ]
          refine held_c 17 fun K hK => ?_
          go_simp
          (go_at_call 19; refine (comp_at ⟨#[112]⟩ (by unfold BIG; decide) (var_row x2)).mono ?_; rintro e x3 ⟨a3, c3, rfl, hv3, hy3⟩)
          refine hK.out _ _ (⟨⟨cell_later hy3 hHeld.1.1, cell_later hy3 hHeld.1.2.1, cell_later hy3 hHeld.1.2.2.1, cell_later hy3 hHeld.1.2.2.2.1, cell_later hy3 hHeld.1.2.2.2.2.1, cell_later hy3 hHeld.1.2.2.2.2.2.1, cell_later hy3 hHeld.1.2.2.2.2.2.2.1, cell_later hy3 hHeld.1.2.2.2.2.2.2.2⟩, Ext.trans' hHeld.2 hy3⟩) (fun hHeld => ?_)
          clear hK K
          try simp only [Act.put, List.setIfInBounds_toArray, List.set_cons_zero, List.set_cons_succ]
          refine held_c 18 fun K hK => ?_
          go_simp
          (go_at_call 18; refine (Same_at (TmV.ext hHeld.2 _ _ hA0) hv3).mono ?_; rw [same_p]; rintro e x4 ⟨rfl, hy4⟩)
          refine hK.out _ _ (⟨⟨cell_later hy4 hHeld.1.1, cell_later hy4 hHeld.1.2.1, cell_later hy4 hHeld.1.2.2.1, cell_later hy4 hHeld.1.2.2.2.1, cell_later hy4 hHeld.1.2.2.2.2.1, cell_later hy4 hHeld.1.2.2.2.2.2.1, cell_later hy4 hHeld.1.2.2.2.2.2.2.1, cell_later hy4 hHeld.1.2.2.2.2.2.2.2⟩, Ext.trans' hHeld.2 hy4⟩) (fun hHeld => ?_)
          clear hK K
          try simp only [Act.put, List.setIfInBounds_toArray, List.set_cons_zero, List.set_cons_succ]
          first | (refine held_t (i := 19) hHeld ?_; apply Exists.intro; refine ⟨fun wq hq => ?_, ?_⟩; (focus ((try dsimp only at hq); go_simp; (first | done | with_reducible rfl | fail)))) | refine held_s (i := 19) hHeld ?_ | fail
          first | (refine held_t (i := 20) hHeld ?_; apply Exists.intro; refine ⟨fun wq hq => ?_, ?_⟩; (focus ((try dsimp only at hq); go_simp; (first | done | with_reducible rfl | fail)))) | refine held_s (i := 20) hHeld ?_ | fail
          try simp only [Act.put, List.setIfInBounds_toArray, List.set_cons_zero, List.set_cons_succ]
          first | (refine held_t (i := 21) hHeld ?_; apply Exists.intro; refine ⟨fun wq hq => ?_, ?_⟩; (focus ((try dsimp only at hq); go_simp; (first | done | with_reducible rfl | fail)))) | refine held_s (i := 21) hHeld ?_ | fail
          first | (refine held_t (i := 22) hHeld ?_; apply Exists.intro; refine ⟨fun wq hq => ?_, ?_⟩; (focus ((try dsimp only at hq); go_simp; (first | done | with_reducible rfl | fail)))) | refine held_s (i := 22) hHeld ?_ | fail
          try simp only [Act.put, List.setIfInBounds_toArray, List.set_cons_zero, List.set_cons_succ]
          first | (refine held_t (i := 23) hHeld ?_; apply Exists.intro; refine ⟨fun wq hq => ?_, ?_⟩; (focus ((try dsimp only at hq); go_simp; (first | done | with_reducible rfl | fail)))) | refine held_s (i := 23) hHeld ?_ | fail
          try simp only [Act.put, List.setIfInBounds_toArray, List.set_cons_zero, List.set_cons_succ]
          refine held_c 24 fun K hK => ?_
          go_simp
          (go_at_call 21; refine (Vars_at lB _ _ (TmV.ext hHeld.2 _ _ hB0)).mono ?_; rw [vars_q]; rintro e x5 ⟨r5, rfl, hn5, hy5⟩; obtain ⟨a5, c5, rfl, _⟩ := hn5.len)
          refine hK.out _ _ (⟨⟨cell_later hy5 hHeld.1.1, cell_later hy5 hHeld.1.2.1, cell_later hy5 hHeld.1.2.2.1, cell_later hy5 hHeld.1.2.2.2.1, cell_later hy5 hHeld.1.2.2.2.2.1, cell_later hy5 hHeld.1.2.2.2.2.2.1, cell_later hy5 hHeld.1.2.2.2.2.2.2.1, cell_later hy5 hHeld.1.2.2.2.2.2.2.2⟩, Ext.trans' hHeld.2 hy5⟩) (fun hHeld => ?_)
          clear hK K
          try simp only [Act.put, List.setIfInBounds_toArray, List.set_cons_zero, List.set_cons_succ]
          first | (refine held_t (i := 25) hHeld ?_; apply Exists.intro; refine ⟨fun wq hq => ?_, ?_⟩; (focus ((try dsimp only at hq); go_simp; (first | done | with_reducible rfl | fail)))) | refine held_s (i := 25) hHeld ?_ | fail
          first | (refine held_t (i := 26) hHeld ?_; apply Exists.intro; refine ⟨fun wq hq => ?_, ?_⟩; (focus ((try dsimp only at hq); go_simp; (first | done | with_reducible rfl | fail)))) | refine held_s (i := 26) hHeld ?_ | fail
          try simp only [Act.put, List.setIfInBounds_toArray, List.set_cons_zero, List.set_cons_succ]
          first | (refine held_t (i := 27) hHeld ?_; apply Exists.intro; refine ⟨fun wq hq => ?_, ?_⟩; (focus ((try dsimp only at hq); go_simp; (first | done | with_reducible rfl | fail)))) | refine held_s (i := 27) hHeld ?_ | fail
          first | (refine held_t (i := 28) hHeld ?_; apply Exists.intro; refine ⟨fun wq hq => ?_, ?_⟩; (focus ((try dsimp only at hq); go_simp; (first | done | with_reducible rfl | fail)))) | refine held_s (i := 28) hHeld ?_ | fail
          try simp only [Act.put, List.setIfInBounds_toArray, List.set_cons_zero, List.set_cons_succ]
          first | (refine held_t (i := 29) hHeld ?_; apply Exists.intro; refine ⟨fun wq hq => ?_, ?_⟩; (focus ((try dsimp only at hq); go_simp; (first | done | with_reducible rfl | fail)))) | refine held_s (i := 29) hHeld ?_ | fail
          first | (refine held_t (i := 30) hHeld ?_; apply Exists.intro; refine ⟨fun wq hq => ?_, ?_⟩; (focus ((try dsimp only at hq); go_simp; (first | done | with_reducible rfl | fail)))) | refine held_s (i := 30) hHeld ?_ | fail
          try simp only [Act.put, List.setIfInBounds_toArray, List.set_cons_zero, List.set_cons_succ]
          first | (refine held_t (i := 31) hHeld ?_; apply Exists.intro; refine ⟨fun wq hq => ?_, ?_⟩; (focus ((try dsimp only at hq); go_simp; (first | done | with_reducible rfl | fail)))) | refine held_s (i := 31) hHeld ?_ | fail
          first | (refine held_t (i := 32) hHeld ?_; apply Exists.intro; refine ⟨fun wq hq => ?_, ?_⟩; (focus ((try dsimp only at hq); go_simp; (first | done | with_reducible rfl | fail)))) | refine held_s (i := 32) hHeld ?_ | fail
          try simp only [Act.put, List.setIfInBounds_toArray, List.set_cons_zero, List.set_cons_succ]
          first | (refine held_t (i := 33) hHeld ?_; apply Exists.intro; refine ⟨fun wq hq => ?_, ?_⟩; (focus ((try dsimp only at hq); go_simp; (first | done | with_reducible rfl | fail)))) | refine held_s (i := 33) hHeld ?_ | fail
          first | (refine held_t (i := 34) hHeld ?_; apply Exists.intro; refine ⟨fun wq hq => ?_, ?_⟩; (focus ((try dsimp only at hq); go_simp; (first | done | with_reducible rfl | fail)))) | refine held_s (i := 34) hHeld ?_ | fail
          try simp only [Act.put, List.setIfInBounds_toArray, List.set_cons_zero, List.set_cons_succ]
          first | (refine held_t (i := 35) hHeld ?_; apply Exists.intro; refine ⟨fun wq hq => ?_, ?_⟩; (focus ((try dsimp only at hq); go_simp; (first | done | with_reducible rfl | fail)))) | refine held_s (i := 35) hHeld ?_ | fail
          first | (refine held_t (i := 36) hHeld ?_; apply Exists.intro; refine ⟨fun wq hq => ?_, ?_⟩; (focus ((try dsimp only at hq); go_simp; (first | done | with_reducible rfl | fail)))) | refine held_s (i := 36) hHeld ?_ | fail
          try simp only [Act.put, List.setIfInBounds_toArray, List.set_cons_zero, List.set_cons_succ]
          first | (refine held_t (i := 37) hHeld ?_; apply Exists.intro; refine ⟨fun wq hq => ?_, ?_⟩; (focus ((try dsimp only at hq); go_simp; (first | done | with_reducible rfl | fail)))) | refine held_s (i := 37) hHeld ?_ | fail
          first | (refine held_t (i := 38) hHeld ?_; apply Exists.intro; refine ⟨fun wq hq => ?_, ?_⟩; (focus ((try dsimp only at hq); go_simp; (first | done | with_reducible rfl | fail)))) | refine held_s (i := 38) hHeld ?_ | fail
          try simp only [Act.put, List.setIfInBounds_toArray, List.set_cons_zero, List.set_cons_succ]
          first | (refine held_t (i := 39) hHeld ?_; apply Exists.intro; refine ⟨fun wq hq => ?_, ?_⟩; (focus ((try dsimp only at hq); go_simp; (first | done | with_reducible rfl | fail)))) | refine held_s (i := 39) hHeld ?_ | fail
          first | (refine held_t (i := 40) hHeld ?_; apply Exists.intro; refine ⟨fun wq hq => ?_, ?_⟩; (focus ((try dsimp only at hq); go_simp; (first | done | with_reducible rfl | fail)))) | refine held_s (i := 40) hHeld ?_ | fail
          try simp only [Act.put, List.setIfInBounds_toArray, List.set_cons_zero, List.set_cons_succ]
          first | (refine held_t (i := 41) hHeld ?_; apply Exists.intro; refine ⟨fun wq hq => ?_, ?_⟩; (focus ((try dsimp only at hq); go_simp; (first | done | with_reducible rfl | fail)))) | refine held_s (i := 41) hHeld ?_ | fail
          try simp only [Act.put, List.setIfInBounds_toArray, List.set_cons_zero, List.set_cons_succ]
          refine wpAnyH_done (by kernel_rfl) ?_ _
          have HF := Lib.hid (Ext.trans' HBF.out hHeld.2)
          clear hHeld
          go_wp2
          go_ret
          exact ⟨rfl, HF.out⟩
end Go.Proofs.YtljgkfdnmikpfaaGreatDoor
/- ReadKnown, handed in: the law answers true. The card ties the package variables of the standard library that its row lists. -/
namespace Go.Proofs.YtljgkfdnmikpfaaGreatDoor
open Go.Shelf Go.RowKit
set_option linter.unusedVariables false

theorem ctxRk {w : World} (h : laidMetH Tryz.prog Rows.readKnownRow.laid w) : Err w := err_of (text := [118, 97, 108, 117, 101, 32, 111, 117, 116, 32, 111, 102, 32, 114, 97, 110, 103, 101]) (by kernel_rfl) (by kernel_rfl) rfl h
namespace readKnown
open Go.ChangeShapes Go.WideShapes Go.ChangeAt Go.RowKit
theorem own : ownKnob Tryz.prog.godebug = none := by kernel_rfl
set_option linter.unusedVariables false
set_option maxRecDepth 100000 in
theorem lifted (os : Os) (started : os.Started) (H : Type) (enc : TypeId × Value → H) :
    ReturnsInHanded {} Tryz.checked os 3 .any (fun w args => (Rows.readKnownSpec.pre enc Tryz.prog Tryz.f3 [] false w args ∧ laidMetH Tryz.prog Rows.readKnownRow.laid w) ∧ sizedMet enc Tryz.prog Tryz.f3 (OpenSpec.ofChange Rows.readKnownSpec) false w args)
      (Rows.readKnownSpec.post enc Tryz.prog Tryz.f3 false true false false) := by
  refine returnsInHanded_of_change_and (C := Tryz.checked) (X := fun w _ => laidMetH Tryz.prog Rows.readKnownRow.laid w) (fun _ _ _ hh h => h.of_heap hh) own started (by kernel_rfl) Tryz.func3
    (ChangeSpec.witness_shaped (enc := enc) (C := Tryz.checked) (os := os) (X := fun w _ => laidMetH Tryz.prog Rows.readKnownRow.laid w) false (World.laidAll Tryz.prog os Rows.readKnownRow.laid) #[] 8 (World.laidAll_os _ _ _)
      (World.shaped_of_ZipB (by kernel_rfl) (by kernel_rfl)) (by kernel_rfl) (by kernel_rfl) (by kernel_rfl)
      (by rw [MakeChecks.laidMetH_plain _ _ _ (by kernel_rfl)]; exact laidMet_laidAll _ (by kernel_rfl) (by kernel_rfl))) ?_
  intro W base args ds gs before hval0 hW hcnd hsz0 hL _
  have hval : ∀ (j : Nat) t v, Tryz.f3.params[j]? = some t → args[j]? = some v → Value.okWide Tryz.prog W .any base t v := hval0
  have hW' := hW
  obtain ⟨p, q, hA0, hV, rfl, hfz, hnd⟩ := hW
  have hA : DataW.TrodAll enc Tryz.prog W 0 (fun _ => true) true Tryz.f3.params.toList args.toList ds p := hA0
  have hsz : (DataW.weightsEach Tryz.prog (Tryz.f3.params.toList ++ []) (ds ++ gs)).all (· ≤ reachBytes) = true := hsz0
  rw [Tryz.params3] at hA hval hsz
  obtain ⟨rfl, rfl, rfl⟩ := trodAll_none hA
  obtain ⟨rfl, rfl⟩ := trodVars_none hV
  clear hA0 hval0 hsz0


  refine (readKnown_walk (ctxRk hL)).mono fun e W' ⟨he, bel⟩ => ?_
  subst he
  exact ⟨_, rfl, _, _, _, [], _, [], hW', trodAll_mk1 (shut_bool Tryz.underlying4 _), rfl, rfl, bel.frame _, fun h => by cases h⟩
theorem proved : Rows.ReadKnownSaid :=
  OpenClaim.holds_of_wide 3 Tryz.f3 rfl rfl rfl rfl rfl rfl rfl ⟨rfl, rfl, rfl, rfl, rfl⟩ rfl rfl rfl rfl rfl (by kernel_rfl) Tryz.func3 (by kernel_rfl)
    (of_decide_eq_true (by kernel_rfl)) (by unfold Func.isWrapper; first | (rw [if_pos (by decide +kernel)]; kernel_rfl) | (rw [if_neg (by decide +kernel)]; exact ⟨rfl, rfl⟩))
    (fun os started H enc _ => lifted os started H enc)
theorem carded : Rows.ReadKnownCardSaid :=
  Claim7.holds_tied_plain_at .later [] [.data, .data, .data, .sentinel, .sentinel] true (true, "f00b49542ba4a8c92a7fc946f6030d37583e9e6c28cfd70f94577bd756c544ac") true
    proved (fun _ h => by cases h) (by kernel_rfl) (fun _ h => by cases h) readKnown_row_tie rfl ⟨rfl, rfl⟩ (by kernel_rfl) rfl
    (fun f fn hf hfn => by
      obtain rfl : f = 3 := Option.some.inj ((show Tryz.prog.funcNamed "sizar/sizarlaw8.ReadKnown" = some 3 by kernel_rfl).symm.trans hf) |>.symm
      obtain rfl : fn = Tryz.f3 := (Option.some.inj (Tryz.func3.symm.trans hfn)).symm
      exact ⟨by kernel_rfl, fun j t ht => by
        rw [Tryz.params3] at ht; simp at ht⟩)
    (by kernel_rfl)
#print axioms carded
end readKnown

end Go.Proofs.YtljgkfdnmikpfaaGreatDoor
