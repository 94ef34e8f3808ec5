import Derived.Test.YtchbbaehdcmcfaaHgezz
import Derived.Test.YtchbbaehdcmcfaaHgeac
import Derived.Test.YtchbbaehdcmcfaaHgeab
import Derived.Deep.RegionHeld3
set_option linter.unusedVariables false
set_option linter.unusedSimpArgs false
/- Package index: Drop. -/
namespace Go.Proofs.Ytchbbaehdcmcfaa
open Go.RowKit Go.Maps Go.Sort
set_option linter.unusedVariables false
def dropM (ks : List (KeyM × Bool)) (i : Int) : Bool × List (KeyM × Bool) :=
 if 0 ≤ i then (match ks[i.toNat]? with
  | some (k, true) => (true, ks.set i.toNat (k, false))
  | _ => (false, ks)) else (false, ks)
theorem drop_in {ks : List (KeyM × Bool)} {j : Nat} {k : KeyM} (h : ks[j]? = some (k, true)) : dropM ks (j : Int) = (true, ks.set j (k, false)) := by
 unfold dropM
 rw [if_pos (by omega), Int.toNat_natCast, h]
theorem drop_out {ks : List (KeyM × Bool)} {i : Int} (h : ¬ i ∈ allI ks) : dropM ks i = (false, ks) := by
 unfold dropM
 by_cases h0 : 0 ≤ i
 ·rw [if_pos h0]
  cases hx : ks[i.toNat]? with
  | none => rfl
  | some x =>
   obtain ⟨k, b⟩ := x
   cases b with
   | false => rfl
   | true => exact absurd (mem_selI.2 ⟨i.toNat, _, hx, by omega, rfl⟩) h
 ·rw [if_neg h0]
theorem count_cut {A B : List Int} {j : Int} (hA : ∀ m ∈ A, m < j) (hB : ∀ m ∈ B, j < m) : (A ++ j :: B).countP (fun x => decide (x < j)) = A.length := by
 rw [List.countP_append, List.countP_cons]
 have h1 : A.countP (fun x => decide (x < j)) = A.length := List.countP_eq_length.2 fun x hx => by simp [hA x hx]
 have h2 : B.countP (fun x => decide (x < j)) = 0 := List.countP_eq_zero.2 fun x hx => by have := hB x hx; simp; omega
 rw [h1, h2]
 simp
theorem ixZeroKey (w : World) : (zeroValue 76).run Try.prog w = .ok (.agg #[.int .i64 0, .int .i64 0, .string ⟨#[]⟩, .int .i64 0]) w := by
 have := Try.zeroValue76
 exact this w
theorem row_less {w : World} {B n n' : Nat} {e : TypeId} {a : Option Addr} {c : Nat} {xs : List Value} (h : w.ownsRow B e 1 (.slice a n c) n xs) (hn : n' ≤ n) (h0 : 0 < n) : w.ownsRow B e 1 (.slice a n' c) n' (xs.take n') := by
 obtain ⟨h1, h2⟩ := h
 refine ⟨by rw [List.length_take, h1]; omega, ?_⟩
 rcases h2 with ⟨_, hz⟩ | ⟨g, cap, cur, e1, q1, q2, q3, q4, q5, q6⟩
 ·omega
 ·cases e1
  refine Or.inr ⟨g, c, cur, rfl, q1, q2, Nat.le_trans hn q3, q4, q5, ?_⟩
  rw [← q6, List.take_take]
  congr 1
  omega
set_option maxHeartbeats 8000000 in
set_option maxRecDepth 100000 in
theorem ixDrop_at {w : World} {F : List Nat} {p : Value} {ks : List (KeyM × Bool)} (h : IsX w F p ks) (hl : ks.length ≤ 400000) (i : Int) (hi : I64 i) :
  Calls Try.prog 45 #[p, .int .i64 i] w fun e w' => e = .returned (.bool (dropM ks i).1) ∧ IsX w' F p (dropM ks i).2 ∧ Touch F w w' := by
 have HX := Lib.hid h
 obtain ⟨xb, kb, rb, D1, D2, rv, rfl, H⟩ := h
 have HH := Lib.hid H
 have i1 := H.box.cells 1 _ rfl
 obtain ⟨v, ps, hrun, hv⟩ := H.own1.look_ok (int_keyed Try.underlying3) Try.underlying128 (ixZeroKey w) (show keepV _ = some (.held (.agg #[.int .i64 0, .int .i64 0, .string ⟨#[]⟩, .int .i64 0]), []) from rfl) (keyOf_int_mk Try.underlying3 (a := i) (ixWf hi))
 have hv1 := (Prod.mk.inj (Option.some.inj hv)).1
 by_cases hin : i ∈ allI ks
 rotate_left
 ·have hno : Maps.has D1 (.int .i64 i) = false := by
   cases hh : Maps.has D1 (.int .i64 i) with
   | false => rfl
   | true => exact absurd ((H.has1 i).1 hh) hin
  rw [atKey_of_not_has hno] at hv1
  obtain rfl : v = .agg #[.int .i64 0, .int .i64 0, .string ⟨#[]⟩, .int .i64 0] := DataW.held.inj hv1
  rw [hno] at hrun
  rw [drop_out hin]
  have HB := Lib.hid (fun (o : Obj) => bel1' w o)
  clear H hv hv1 hno hin
  go_enter Try.func45, Try.ntmps45
  go_wp2
  go_ret
  exact ⟨rfl, HX.out.ext (HB.out _), Touch.of_below (HB.out _) _⟩
 obtain ⟨j, ⟨k, b⟩, hj, hij, hb⟩ := mem_selI.1 hin
 obtain rfl : b = true := hb
 rw [Nat.zero_add] at hij
 subst hij
 have hk : ixOk k := H.oks _ (List.mem_of_getElem? hj)
 rw [H.at1 j _ hj rfl] at hv1
 obtain rfl : v = ixV k := DataW.held.inj hv1
 rw [(H.has1 _).2 hin] at hrun
 rw [drop_in hj]
 have hjl := (List.getElem?_eq_some_iff.1 hj).1
 obtain ⟨A, B, hA, hB, hA1, hB1⟩ := rowI_cut hj
 have HJ := Lib.hid (And.intro hj (And.intro hA (And.intro hB (And.intro hA1 hB1))))
 have hrk : rowI k ks ≠ [] := by rw [hA]; simp
 obtain ⟨m, hm⟩ : ∃ m, (rowI k ks).length = m := ⟨_, rfl⟩
 have HM := Lib.hid hm
 have hml : m ≤ 400000 := by rw [← hm]; exact Nat.le_trans selI_len hl
 have hm1 : A.length + 1 + B.length = m := by rw [← hm, hA, List.length_append, List.length_cons]; omega
 have hrow := H.row k hk hrk
 rw [hm] at hrow
 obtain ⟨g, cap, cur, hrv, _, hg, hc1, hc2, hc3, hc4⟩ := hrow.2.resolve_left (fun e => by have := e.2; omega)
 obtain ⟨b1, b2, b3, b4⟩ := H.blk k hk hrk g (by rw [hrv]; rfl)
 have hgl := H.lt g b1
 have HG := Lib.hid (And.intro hrv (And.intro hg (And.intro hc1 (And.intro hc2 (And.intro hc3 hc4)))))
 have HR := Lib.hid (show w.ownsRow 0 3 1 (.slice (some ⟨g, 0, none⟩) m cap) m ((rowI k ks).flatMap numCells) from by rw [← hrv]; exact hrow)
 have hN := H.ne
 have hkb := H.lt kb H.inF.2.1
 have hrb := H.lt rb H.inF.2.2
 obtain ⟨vr, hvr, hvo⟩ := H.look hk
 obtain rfl : vr = .slice (some ⟨g, 0, none⟩) m cap := by
  rcases hvo with ⟨e, _⟩ | ⟨_, e⟩
  ·exact absurd e hrk
  ·rw [e, hrv]
 have hrun' : (Instr.lookup 128 (.map (some kb)) (.int .i64 (j : Int)) true).run Try.prog w = .ok (.tuple #[.agg #[.int .i64 k.k, .int .i64 k.n, .string k.s, .int .i64 k.ar], .bool true]) w := hrun
 obtain ⟨w1, e1, B1, z1, X1⟩ := box_new w #[.int .i64 k.k, .int .i64 k.n, .string k.s, .int .i64 k.ar] 76
 obtain ⟨qb, hqb⟩ : ∃ qb, w.heap.size = qb := ⟨_, rfl⟩
 rw [hqb] at X1
 have HE := Lib.hid (And.intro e1 hqb)
 have HB1 := Lib.hid B1
 have HX1 := Lib.hid X1
 have HXB := Lib.hid (H.box.ext B1)
 have O1 := owns_mapN (w' := w1) H.own1 (B1.block kb hkb)
 obtain ⟨w2, r2, o2, t2⟩ := O1.drop (int_keyed Try.underlying3) Try.underlying128 (keyOf_int_mk Try.underlying3 (a := (j : Int)) (ixWf hi)) 0
 have HO2 := Lib.hid o2
 have t2' := turned_touch t2
 have HT2 := Lib.hid (show Touch [kb] w w2 from (Touch.of_below B1 [kb]).on t2')
 have hqk : qb ≠ kb := by omega
 have hqr : qb ≠ rb := by omega
 have hqg : qb ≠ g := by omega
 have HX2 := Lib.hid (And.intro (X1.block (t2'.block qb X1.lt (by simp; exact hqk)) (Nat.lt_of_lt_of_le X1.lt t2'.size)) (HXB.out.block (t2'.block xb HXB.out.lt (by simp; exact hN.1)) (Nat.lt_of_lt_of_le HXB.out.lt t2'.size)))
 have HVR := Lib.hid hvr
 have HIN := Lib.hid H.inF
 clear H hv hv1 hrun hin hj hA hB hA1 hB1 hrow hvr hvo hm hg hc4 hc3 O1 o2 t2 t2' B1 X1 z1 hqb hrv
 go_enter Try.func45, Try.ntmps45
 go_upto_region 2 with fail
 (try rw [e1])
 (try rw [HE.out.2])
 clear e1 hrun' i1
 have i1 := HXB.out.cells 1 _ rfl
 go_upto_region 5 with fail
 clear i1
 have hS : ∀ wq : World, Box wq qb [.int .i64 k.k, .int .i64 k.n, .string k.s, .int .i64 k.ar] → Box wq xb [.int .i64 (ks.length : Int), .map (some kb), .map (some rb)] → wq.cell? ⟨xb, 2, none⟩ = some (.map (some rb)) ∧ (wq.cell? ⟨qb, 0, none⟩ = some (.int .i64 k.k) ∧ wq.cell? ⟨qb, 1, none⟩ = some (.int .i64 k.n) ∧ wq.cell? ⟨qb, 2, none⟩ = some (.string k.s) ∧ wq.cell? ⟨qb, 3, none⟩ = some (.int .i64 k.ar)) := fun wq h1 h2 => by
  obtain ⟨x0, x1, x2, x3, _⟩ := h1.four
  exact ⟨h2.cells 2 _ rfl, x0, x1, x2, x3⟩
 have HS := Lib.hid hS
 obtain ⟨wd, ewd⟩ : ∃ wd, w2.drew = wd := ⟨_, rfl⟩
 have HBd := Lib.hid (show Below w2.heap.size w2 wd from by rw [← ewd]; exact (Below.refl _ _).drew)
 have HTd := Lib.hid (HT2.out.on (Touch.of_below HBd.out [kb]))
 have HXd := Lib.hid (And.intro (HX2.out.1.ext HBd.out) (HX2.out.2.ext HBd.out))
 have hrd : wd.heap[rb]? = w.heap[rb]? := HTd.out.block rb hrb (by simp; exact fun e => hN.2.2 e.symm)
 have hrun := HVR.out wd hrd
 refine wp_region_held_drew (S := fun wq => (wq.cell? ⟨xb, 2, none⟩ = some (.map (some rb)) ∧ (wq.cell? ⟨qb, 0, none⟩ = some (.int .i64 k.k) ∧ wq.cell? ⟨qb, 1, none⟩ = some (.int .i64 k.n) ∧ wq.cell? ⟨qb, 2, none⟩ = some (.string k.s) ∧ wq.cell? ⟨qb, 3, none⟩ = some (.int .i64 k.ar))) ∧ (Instr.lookup 129 (.map (some rb)) (.agg #[.int .i64 k.k, .int .i64 k.n, .string k.s, .int .i64 k.ar]) false).run Try.prog wq = .ok (.slice (some ⟨g, 0, none⟩) m cap) wq) (by kernel_rfl) (by rw [ewd]; exact ⟨HS.out _ HXd.out.1 HXd.out.2, hrun⟩) (fun hHeld => ?_)
 rw [ewd] at hHeld ⊢
 clear ewd
 first | (refine held_t (i := 0) hHeld ?_; constructor; constructor; intro wq hq; focus ((try dsimp only at hq); go_simp; first | done | with_reducible rfl | fail)) | refine held_s (i := 0) hHeld ?_ | fail
 first | (refine held_t (i := 1) hHeld ?_; constructor; constructor; intro wq hq; focus ((try dsimp only at hq); go_simp; first | done | with_reducible rfl | fail)) | refine held_s (i := 1) hHeld ?_ | fail
 first | (refine held_t (i := 2) hHeld ?_; constructor; constructor; intro wq hq; focus ((try dsimp only at hq); go_simp; first | done | with_reducible rfl | fail)) | refine held_s (i := 2) hHeld ?_ | fail
 first | (refine held_t (i := 3) hHeld ?_; constructor; constructor; intro wq hq; focus ((try dsimp only at hq); go_simp; first | done | with_reducible rfl | fail)) | refine held_s (i := 3) hHeld ?_ | fail
 first | (refine held_t (i := 4) hHeld ?_; constructor; constructor; intro wq hq; focus ((try dsimp only at hq); go_simp; first | done | with_reducible rfl | fail)) | refine held_s (i := 4) hHeld ?_ | fail
 first | (refine held_t (i := 5) hHeld ?_; constructor; constructor; intro wq hq; focus ((try dsimp only at hq); go_simp; first | done | with_reducible rfl | fail)) | refine held_s (i := 5) hHeld ?_ | fail
 first | (refine held_t (i := 6) hHeld ?_; constructor; constructor; intro wq hq; focus ((try dsimp only at hq); go_simp; first | done | with_reducible rfl | fail)) | refine held_s (i := 6) hHeld ?_ | fail
 try simp only [Act.put, lay4]
 refine wpAnyH_done (by kernel_rfl) ?_ _
 clear hHeld hrun hS
 by_cases hmo : m = 1
 ·have hmo' : ((m : Int) == 1) = true := by simp; omega
  have hempty : rowI k (ks.set j (k, false)) = [] := by
   rw [HJ.out.2.2.1]
   have h1 : A = [] := List.length_eq_zero_iff.1 (by omega)
   have h2 : B = [] := List.length_eq_zero_iff.1 (by omega)
   rw [h1, h2]
   rfl
  have HEM := Lib.hid hempty
  clear hempty
  go_upto_region 7 with fail
  obtain ⟨we, ewe⟩ : ∃ we, wd.drew = we := ⟨_, rfl⟩
  have HBe := Lib.hid (show Below wd.heap.size wd we from by rw [← ewe]; exact (Below.refl _ _).drew)
  have HXe := Lib.hid (And.intro (HXd.out.1.ext HBe.out) (HXd.out.2.ext HBe.out))
  have hre : we.heap[rb]? = w.heap[rb]? := (HBe.out.block rb (Nat.lt_of_lt_of_le hrb HTd.out.size)).trans hrd
  obtain ⟨w3, r3, o3, t3⟩ := (owns_mapN HH.out.own2 hre).drop ixLaw Try.underlying129 (ixKeyOf hk) 0
  have r3' : (Builtin.delete_ #[129, 76] 0 #[.map (some rb), .agg #[.int .i64 k.k, .int .i64 k.n, .string k.s, .int .i64 k.ar]]).run Try.prog we = .ok (.tuple #[]) w3 := r3
  have t3' := turned_touch t3
  have HO3 := Lib.hid o3
  have HX3 := Lib.hid (And.intro (HXe.out.1.block (t3'.block qb HXe.out.1.lt (by simp; exact hqr)) (Nat.lt_of_lt_of_le HXe.out.1.lt t3'.size)) (HXe.out.2.block (t3'.block xb HXe.out.2.lt (by simp; exact hN.2.1)) (Nat.lt_of_lt_of_le HXe.out.2.lt t3'.size)))
  have HT3 := Lib.hid (And.intro t3' (show Touch [kb, rb] w w3 from ((HTd.out.wide (by simp)).on (Touch.of_below HBe.out _)).on (t3'.wide (by simp))))
  clear t3 t3' r3 o3
  refine wp_region_held_drew (S := fun wq => wq.cell? ⟨xb, 2, none⟩ = some (.map (some rb)) ∧ (wq.cell? ⟨qb, 0, none⟩ = some (.int .i64 k.k) ∧ wq.cell? ⟨qb, 1, none⟩ = some (.int .i64 k.n) ∧ wq.cell? ⟨qb, 2, none⟩ = some (.string k.s) ∧ wq.cell? ⟨qb, 3, none⟩ = some (.int .i64 k.ar))) (by kernel_rfl) (by rw [ewe]; exact HS.out _ HXe.out.1 HXe.out.2) (fun hHeld => ?_)
  rw [ewe] at hHeld ⊢
  clear ewe
  first | (refine held_t (i := 0) hHeld ?_; constructor; constructor; intro wq hq; focus ((try dsimp only at hq); go_simp; first | done | with_reducible rfl | fail)) | refine held_s (i := 0) hHeld ?_ | fail
  first | (refine held_t (i := 1) hHeld ?_; constructor; constructor; intro wq hq; focus ((try dsimp only at hq); go_simp; first | done | with_reducible rfl | fail)) | refine held_s (i := 1) hHeld ?_ | fail
  first | (refine held_t (i := 2) hHeld ?_; constructor; constructor; intro wq hq; focus ((try dsimp only at hq); go_simp; first | done | with_reducible rfl | fail)) | refine held_s (i := 2) hHeld ?_ | fail
  first | (refine held_t (i := 3) hHeld ?_; constructor; constructor; intro wq hq; focus ((try dsimp only at hq); go_simp; first | done | with_reducible rfl | fail)) | refine held_s (i := 3) hHeld ?_ | fail
  first | (refine held_t (i := 4) hHeld ?_; constructor; constructor; intro wq hq; focus ((try dsimp only at hq); go_simp; first | done | with_reducible rfl | fail)) | refine held_s (i := 4) hHeld ?_ | fail
  try simp only [Act.put, lay4]
  refine held_c 5 fun K hK => ?_
  go_simp
  skip
  refine hK.out _ _ (HS.out _ HX3.out.1 HX3.out.2) (fun hHeld => ?_)
  clear hK K
  try simp only [Act.put, lay4]
  refine wpAnyH_done (by kernel_rfl) ?_ _
  clear hHeld r3'
  have HFin := Lib.hid (show IsX w3 F (.pointer (some ⟨xb, 0, none⟩)) (ks.set j (k, false)) from by
   have hk3 : w3.heap[kb]? = w2.heap[kb]? := (HT3.out.1.block kb (Nat.lt_of_lt_of_le (Nat.lt_of_lt_of_le hkb HTd.out.size) HBe.out.size) (by simp; exact hN.2.2)).trans ((HBe.out.block kb (Nat.lt_of_lt_of_le hkb HTd.out.size)).trans (HBd.out.block kb (Nat.lt_of_lt_of_le hkb HT2.out.size)))
   exact HH.out.dropped (v' := .slice none 0 0) HJ.out.1 (HT3.out.2.wide (fun q hq => List.mem_append_left _ hq)) (owns_mapN HO2.out hk3) HO3.out (Or.inl ⟨HEM.out, rfl⟩))
  have HTF := Lib.hid (HT3.out.2.wide (F' := F) (fun q hq => by
   simp at hq
   rcases hq with rfl | rfl
   ·exact HIN.out.2.1
   ·exact HIN.out.2.2))
  go_wp2
  go_ret
  exact ⟨rfl, HFin.out, HTF.out⟩
 have hmo' : ((m : Int) == 1) = false := by simp; omega
 have hgd : wd.heap[g]? = w.heap[g]? := HTd.out.block g hgl (by simp; exact b3)
 have hcell : ∀ q, q < (rowI k ks).length → wd.cell? ⟨g, 0 + q, none⟩ = some (.int .i64 ((rowI k ks).getD q 0)) := fun q hq => by
  have hN1 : Nums w (.slice (some ⟨g, 0, none⟩) m cap) (rowI k ks) := by
   have := HR.out
   rw [← HM.out] at this ⊢
   exact Elems.owned (cells := numCells) (fun _ => rfl) this
  obtain ⟨b', off, e, _, hc⟩ := hN1.get (List.getElem?_eq_getElem hq)
  cases e
  rw [World.cell?_of_block hgd, hc]
  simp [List.getD_eq_getElem?_getD, List.getElem?_eq_getElem hq]
 have CB := Try.slices_BinarySearch_int g 0 m cap (rowI k ks) (j : Int) wd (by rw [HM.out]; exact Nat.le_refl _) (by omega) hcell (by
  refine List.Pairwise.sublist (List.take_sublist _ _) ((selI_rising (p := isK k) (l := ks) (i := 0)).imp fun {a b} hab => by omega))
 have hcnt : ((rowI k ks).take m).countP (fun x => decide (x < (j : Int))) = A.length := by
  rw [List.take_of_length_le (by rw [HM.out]; exact Nat.le_refl _), HJ.out.2.1]
  exact count_cut HJ.out.2.2.2.1 HJ.out.2.2.2.2
 rw [hcnt] at CB
 obtain ⟨al, hal⟩ : ∃ al, A.length = al := ⟨_, rfl⟩
 have HAL := Lib.hid hal
 rw [hal] at CB hm1
 generalize ((rowI k ks).take m).contains (j : Int) = cb at CB
 clear hcnt hal hcell
 (go_wp2_with fail; go_fit (CB); rintro e w4 ⟨rfl, q4, hw4⟩)
 have HB4 := Lib.hid (show Below wd.heap.size wd w4 from by rw [hw4]; exact bel_drewN (Below.refl _ _) q4)
 clear hw4 CB
 have hwr : IntKind.i64.wrap ((al : Int) + 1) = (al : Int) + 1 := by rw [IntKind.wrap_i64]; omega
 go_upto_region 10 with fail
 obtain ⟨w5, ew5⟩ : ∃ w5, w4.drew = w5 := ⟨_, rfl⟩
 have HB5 := Lib.hid (Ext.trans' HB4.out (show Below w4.heap.size w4 w5 from by rw [← ew5]; exact (Below.refl _ _).drew))
 have HX5 := Lib.hid (And.intro (HXd.out.1.ext HB5.out) (HXd.out.2.ext HB5.out))
 have HT5 := Lib.hid (show Touch [kb, rb] w w5 from (HTd.out.wide (by simp)).on (Touch.of_below HB5.out _))
 have hg5 : w5.heap[g]? = some (.cells cur 3 (0, 0)) := ((HB5.out.block g (Nat.lt_of_lt_of_le hgl HTd.out.size)).trans hgd).trans HG.out.2.1
 have hcc : cur.toList.take (rowI k ks).length = (rowI k ks).map encZ := by
  have := HG.out.2.2.2.2.2
  rw [Nat.mul_one, num_cells] at this
  rw [HM.out]
  exact this
 have CD := Try.slices_Delete_int g 0 cap al (al + 1) (rowI k ks) w5 (holds_of_block_i hg5 hcc) (by rw [HM.out]; exact hc1) (by unfold maxLen at hc2; omega) (by omega) (by rw [HM.out]; omega)
 rw [show ((al + 1 : Nat) : Int) = (al : Int) + 1 by omega, show (rowI k ks).length - (al + 1 - al) = m - 1 by rw [HM.out]; omega, HM.out] at CD
 have HCut := Lib.hid (show (rowI k ks).take al ++ (rowI k ks).drop (al + 1) ++ List.replicate (al + 1 - al) 0 = A ++ B ++ [0] from by
  have h1 : (A ++ (j : Int) :: B).take A.length = A := List.take_left' rfl
  have h2 : (A ++ (j : Int) :: B).drop (A.length + 1) = B := by
   rw [← List.drop_drop, List.drop_left' rfl]
   rfl
  rw [HJ.out.2.1, ← HAL.out, h1, h2, show A.length + 1 - A.length = 1 by omega]
  rfl)
 rw [HCut.out] at CD
 have HAB := Lib.hid (show (A ++ B).length = m - 1 ∧ (A ++ B ++ [0]).length = (rowI k ks).length from by
  rw [HM.out, List.length_append, List.length_append, List.length_append, HAL.out]
  simp
  omega)
 have HCD := Lib.hid CD
 have HG5 := Lib.hid hg5
 clear CD hg5 hcc
 refine wp_region_held_drew (S := fun wq => wq.cell? ⟨xb, 2, none⟩ = some (.map (some rb)) ∧ (wq.cell? ⟨qb, 0, none⟩ = some (.int .i64 k.k) ∧ wq.cell? ⟨qb, 1, none⟩ = some (.int .i64 k.n) ∧ wq.cell? ⟨qb, 2, none⟩ = some (.string k.s) ∧ wq.cell? ⟨qb, 3, none⟩ = some (.int .i64 k.ar))) (by kernel_rfl) (by rw [ew5]; exact HS.out _ HX5.out.1 HX5.out.2) (fun hHeld => ?_)
 rw [ew5] at hHeld ⊢
 clear ew5
 first | (refine held_t (i := 0) hHeld ?_; constructor; constructor; intro wq hq; focus ((try dsimp only at hq); go_simp; first | done | with_reducible rfl | fail)) | refine held_s (i := 0) hHeld ?_ | fail
 first | (refine held_t (i := 1) hHeld ?_; constructor; constructor; intro wq hq; focus ((try dsimp only at hq); go_simp; first | done | with_reducible rfl | fail)) | refine held_s (i := 1) hHeld ?_ | fail
 first | (refine held_t (i := 2) hHeld ?_; constructor; constructor; intro wq hq; focus ((try dsimp only at hq); go_simp; first | done | with_reducible rfl | fail)) | refine held_s (i := 2) hHeld ?_ | fail
 first | (refine held_t (i := 3) hHeld ?_; constructor; constructor; intro wq hq; focus ((try dsimp only at hq); go_simp; first | done | with_reducible rfl | fail)) | refine held_s (i := 3) hHeld ?_ | fail
 first | (refine held_t (i := 4) hHeld ?_; constructor; constructor; intro wq hq; focus ((try dsimp only at hq); go_simp; first | done | with_reducible rfl | fail)) | refine held_s (i := 4) hHeld ?_ | fail
 first | (refine held_t (i := 5) hHeld ?_; constructor; constructor; intro wq hq; focus ((try dsimp only at hq); go_simp; first | done | with_reducible rfl | fail)) | refine held_s (i := 5) hHeld ?_ | fail
 first | (refine held_t (i := 6) hHeld ?_; constructor; constructor; intro wq hq; focus ((try dsimp only at hq); go_simp; first | done | with_reducible rfl | fail)) | refine held_s (i := 6) hHeld ?_ | fail
 first | (refine held_t (i := 7) hHeld ?_; constructor; constructor; intro wq hq; focus ((try dsimp only at hq); go_simp; first | done | with_reducible rfl | fail)) | refine held_s (i := 7) hHeld ?_ | fail
 first | (refine held_t (i := 8) hHeld ?_; constructor; constructor; intro wq hq; focus ((try dsimp only at hq); go_simp; first | done | with_reducible rfl | fail)) | refine held_s (i := 8) hHeld ?_ | fail
 try simp only [Act.put, lay4]
 refine held_c 9 fun K hK => ?_
 go_simp
 (go_at_call 85; refine HCD.out.mono ?_; rintro e w6 ⟨rfl, q6, hw6⟩; have hw6' : w6 = grow (putRow encZ (Sort.ahead w5 q6) g 0 (A ++ B ++ [0]).toArray) #[] := (by rw [grow_empty]; exact hw6); have HG6 := Lib.hid (show w5.grownBy w6 (some g) from by rw [hw6']; exact grownBy_sorted_i _); have HR6 := Lib.hid (show w6.ownsRow 0 3 1 (.slice (some ⟨g, 0, none⟩) m cap) m ((A ++ B ++ [0]).map encZ) from by rw [hw6', ← HM.out]; exact ownsRow_sorted_i HAB.out.2 (Nat.zero_le _) HG5.out (by rw [HM.out]; exact hc1) hc2 HG.out.2.2.2.2.1); have HX6 := Lib.hid (And.intro (HX5.out.1.block (HG6.out.block qb HX5.out.1.lt (fun e => by injection e with e; exact hqg e)) (Nat.lt_of_lt_of_le HX5.out.1.lt HG6.out.size)) (HX5.out.2.block (HG6.out.block xb HX5.out.2.lt (fun e => by injection e with e; exact b2 e.symm)) (Nat.lt_of_lt_of_le HX5.out.2.lt HG6.out.size))); clear hw6 hw6')
 refine hK.out _ _ (HS.out _ HX6.out.1 HX6.out.2) (fun hHeld => ?_)
 clear hK K
 try simp only [Act.put, lay4]
 have hr5 : rb < w5.heap.size := Nat.lt_of_lt_of_le hrb HT5.out.size
 have hr6 : w6.heap[rb]? = w.heap[rb]? := (HG6.out.block rb hr5 (fun e => by injection e with e; exact b4 e.symm)).trans ((HB5.out.block rb (Nat.lt_of_lt_of_le hrb HTd.out.size)).trans hrd)
 obtain ⟨w7, r7, o7, t7⟩ := (owns_mapN HH.out.own2 hr6).store (val := .slice (some ⟨g, 0, none⟩) (m - 1) cap) ixLaw Try.underlying129 (by unfold maxLen; omega) (ixKeyOf hk) (show keepV (.slice (some ⟨g, 0, none⟩) (m - 1) cap) = some (.held (.slice (some ⟨g, 0, none⟩) (m - 1) cap), []) from rfl)
 have r7' : (Instr.mapUpdate 129 (.map (some rb)) (.agg #[.int .i64 k.k, .int .i64 k.n, .string k.s, .int .i64 k.ar]) (.slice (some ⟨g, 0, none⟩) (m - 1) cap)).run Try.prog w6 = .ok () w7 := r7
 have t7' := turned_touch t7
 have HO7 := Lib.hid o7
 have HX7 := Lib.hid (And.intro (HX6.out.1.block (t7'.block qb HX6.out.1.lt (by simp; exact hqr)) (Nat.lt_of_lt_of_le HX6.out.1.lt t7'.size)) (HX6.out.2.block (t7'.block xb HX6.out.2.lt (by simp; exact hN.2.1)) (Nat.lt_of_lt_of_le HX6.out.2.lt t7'.size)))
 have HT7 := Lib.hid (And.intro t7' (show Touch [kb, rb, g] w w7 from ((HT5.out.wide (by simp)).on (Touch.grownX HG6.out (fun q hq => by injection hq with hq; simp [hq]))).on (t7'.wide (by simp))))
 clear t7 t7' r7 o7
 refine held_c 10 fun K hK => ?_
 go_simp
 skip
 refine hK.out _ _ (HS.out _ HX7.out.1 HX7.out.2) (fun hHeld => ?_)
 clear hK K
 try simp only [Act.put, lay4]
 refine wpAnyH_done (by kernel_rfl) ?_ _
 clear hHeld r7'
 have HFin := Lib.hid (show IsX w7 F (.pointer (some ⟨xb, 0, none⟩)) (ks.set j (k, false)) from by
  have hkd : kb < wd.heap.size := Nat.lt_of_lt_of_le hkb HTd.out.size
  have hk5 : kb < w5.heap.size := Nat.lt_of_lt_of_le hkd HB5.out.size
  have hk7 : w7.heap[kb]? = w2.heap[kb]? := (HT7.out.1.block kb (Nat.lt_of_lt_of_le hk5 HG6.out.size) (by simp; exact hN.2.2)).trans ((HG6.out.block kb hk5 (fun e => by injection e with e; exact b3 e.symm)).trans ((HB5.out.block kb hkd).trans (HBd.out.block kb (Nat.lt_of_lt_of_le hkb HT2.out.size))))
  refine HH.out.dropped (v' := .slice (some ⟨g, 0, none⟩) (m - 1) cap) HJ.out.1 (by rw [HG.out.1]; exact HT7.out.2) (owns_mapN HO2.out hk7) HO7.out (Or.inr ⟨?_, rfl, by rw [HG.out.1]; rfl, ?_⟩)
  ·rw [HJ.out.2.2.1]
   intro e
   have := HAB.out.1
   rw [e] at this
   simp at this
   omega
  ·rw [HJ.out.2.2.1, HAB.out.1, num_cells]
   have h := row_less HR6.out (show m - 1 ≤ m by omega) (by omega)
   have e : ((A ++ B ++ [0]).map encZ).take (m - 1) = (A ++ B).map encZ := by
    rw [List.map_append, ← HAB.out.1]
    exact List.take_left' (by rw [List.length_map])
   rw [e] at h
   exact row_at h (fun q hq => by
    cases hq
    exact HT7.out.1.block g (Nat.lt_of_lt_of_le (Nat.lt_of_lt_of_le hgl HT5.out.size) HG6.out.size) (by simp; exact b4)))
 have HTF := Lib.hid (HT7.out.2.wide (F' := F) (fun q hq => by
  simp at hq
  rcases hq with rfl | rfl | rfl
  ·exact HIN.out.2.1
  ·exact HIN.out.2.2
  ·exact b1))
 go_wp2
 go_ret
 exact ⟨rfl, HFin.out, HTF.out⟩
end Go.Proofs.Ytchbbaehdcmcfaa
/- Package index: Pick over a row of keys; the law's ints. -/
namespace Go.Proofs.Ytchbbaehdcmcfaa
open Go.RowKit
set_option linter.unusedVariables false
def Keys (w : World) (v : Value) (l : List KeyM) : Prop := Elems 4 ixCells w v l
theorem Keys.ext {w w' : World} {v : Value} {l : List KeyM} (h : Keys w v l) (hb : Below w.heap.size w w') : Keys w' v l := Elems.ext h hb
theorem Keys.len {w : World} {v : Value} {l : List KeyM} (h : Keys w v l) : ∃ a c, v = .slice a l.length c ∧ l.length ≤ c ∧ c ≤ maxLen := by
 obtain ⟨a, c, h1, h2, h3, _⟩ := h
 exact ⟨a, c, h1, h2, h3⟩
theorem Keys.get {w : World} {a : Option Addr} {m c : Nat} {l : List KeyM} (h : Keys w (.slice a m c) l) {i : Nat} {x : KeyM} (hx : l[i]? = some x) : ∃ b off, a = some ⟨b, off, none⟩ ∧ b < w.heap.size ∧ w.cell? ⟨b, off + i * 4, none⟩ = some (.int .i64 x.k) ∧ w.cell? ⟨b, off + i * 4 + 1, none⟩ = some (.int .i64 x.n) ∧ w.cell? ⟨b, off + i * 4 + 2, none⟩ = some (.string x.s) ∧ w.cell? ⟨b, off + i * 4 + 3, none⟩ = some (.int .i64 x.ar) := by
 obtain ⟨a', c', e, h1, h2, h3⟩ := h
 cases e
 rcases h3 with rfl | ⟨b, off, rfl, hb, hc⟩
 ·simp at hx
 ·have c0 := hc i x hx 0 _ rfl
  have c1 := hc i x hx 1 _ rfl
  have c2 := hc i x hx 2 _ rfl
  have c3 := hc i x hx 3 _ rfl
  rw [Nat.add_zero] at c0
  rw [← Nat.add_assoc] at c1 c2 c3
  exact ⟨b, off, rfl, hb, c0, c1, c2, c3⟩
theorem pickF_len (k : KeyM) : ∀ (l : List KeyM) (i : Nat), (pickF k l i).length ≤ l.length
 | [], i => Nat.le_refl _
 | a :: l, i => by
  have := pickF_len k l (i + 1)
  rw [pickF]
  split
  ·simp only [List.length_cons]; omega
  ·simp only [List.length_cons]; omega
theorem pickF_next {k : KeyM} {l : List KeyM} {i : Nat} {x : KeyM} (h : l[i]? = some x) : pickF k (l.take (i + 1)) 0 = pickF k (l.take i) 0 ++ (if mayK x k = true then [(i : Int)] else []) := by
 have hi := (List.getElem?_eq_some_iff.1 h).1
 rw [take_next h, pickF_snoc, List.length_take, Nat.min_eq_left (by omega)]
set_option maxHeartbeats 4000000 in
set_option maxRecDepth 100000 in
theorem ixPick_at {w : World} {v : Value} {l : List KeyM} (h : Keys w v l) (hl : l.length ≤ 1000000) (k : KeyM) :
    Calls Try.prog 50 #[v, ixV k] w fun e w' => ∃ r, e = .returned r ∧ w'.ownsRow w.heap.size 3 1 r (pickF k l 0).length ((pickF k l 0).flatMap numCells) ∧ Below w.heap.size w w' := by
  obtain ⟨a, c, rfl, h1, h2⟩ := h.len
  unfold maxLen at h2
  obtain ⟨m, hm⟩ : ∃ m, l.length = m := ⟨_, rfl⟩
  have HM := Lib.hid hm
  rw [hm] at h h1 hl ⊢
  have HK := Lib.hid h
  obtain ⟨w1, e1, B1, z1, X1⟩ := box_new w #[.int .i64 k.k, .int .i64 k.n, .string k.s, .int .i64 k.ar] 76
  have HE := Lib.hid e1
  have HB1 := Lib.hid B1
  have HX1 := Lib.hid X1
  obtain ⟨i0, hi0, hz0, hs0, hb0⟩ := infoIntP
  obtain ⟨R, hR⟩ : ∃ R, pickF k l 0 = R := ⟨_, rfl⟩
  have HR := Lib.hid hR
  rw [hR]
  clear hm h e1 B1 z1 X1 hR
  go_enter Try.func50, Try.ntmps50
  go_upto_region 1 with fail
  (try rw [HE.out])
  clear HE
  go_wp2_with fail
  go_loopw [5, 10] (fun r z wr => ∃ (i q cr : Nat) (ar : Option Addr), i ≤ m ∧ z = .int .i64 i ∧ r = .slice ar q cr ∧ Hid ((pickF k (l.take i) 0).length = q) ∧ Hid (wr.ownsRow w1.heap.size 3 1 (.slice ar q cr) q ((pickF k (l.take i) 0).flatMap numCells)) ∧ Hid (Below w1.heap.size w1 wr)) (fun _ z _ => m - (RowKit.intOf z).toNat)
  case atStart => exact ⟨0, 0, 0, none, Nat.zero_le _, rfl, rfl, Lib.hid rfl, Lib.hid (World.ownsRow_nil _ _ _ _), Lib.hid (Below.refl _ _)⟩
  case round =>
    obtain ⟨i, q, cr, ar, hi, rfl, rfl, HQ, HRow, HB⟩ := hrel
    by_cases him : i < m
    · obtain ⟨x, hx⟩ : ∃ x, l[i]? = some x := ⟨_, List.getElem?_eq_getElem (by rw [HM.out]; exact him)⟩
      have HBr := Lib.hid (Ext.trans' HB1.out HB.out)
      have HNX := Lib.hid (pickF_next (k := k) hx)
      have hq : q ≤ i := by
        rw [← HQ.out]
        exact Nat.le_trans (pickF_len k _ 0) (by rw [List.length_take]; omega)
      obtain ⟨b, off, rfl, hbb, c0, c1, c2, c3⟩ := (HK.out.ext HBr.out).get hx
      clear hx
      go_upto_region 5 with fail
      obtain ⟨w2, e2, B2, z2, X2⟩ := box_new wr #[.int .i64 x.k, .int .i64 x.n, .string x.s, .int .i64 x.ar] 76
      (try rw [e2])
      obtain ⟨y0, y1, y2, y3, _⟩ := X2.four
      obtain ⟨x0, x1, x2, x3, _⟩ := (HX1.out.ext (Ext.trans' HB.out B2)).four
      have HB2 := Lib.hid B2
      clear e2 B2 z2 X2 c0 c1 c2 c3 hbb
      have C := ixMay_at x k w2
      obtain ⟨mb, hmb⟩ : ∃ mb, mayK x k = mb := ⟨_, rfl⟩
      have HMB := Lib.hid hmb
      rw [hmb] at C
      clear hmb
      (go_wp2_with fail; go_fit (C); rintro e w3 ⟨rfl, b3⟩)
      have HB3 := Lib.hid (Ext.trans' HB2.out b3)
      have HRow3 := Lib.hid (show w3.ownsRow w1.heap.size 3 1 (.slice ar q cr) q ((pickF k (l.take i) 0).flatMap numCells) from row_at HRow.out (fun g hg => HB3.out.block g (row_in HRow.out hg).2))
      have HBB3 := Lib.hid (Ext.trans' HB.out HB3.out)
      clear b3 C x0 x1 x2 x3 y0 y1 y2 y3
      cases mb
      · have HN := Lib.hid (show pickF k (l.take (i + 1)) 0 = pickF k (l.take i) 0 from by rw [HNX.out, HMB.out, if_neg (by simp), List.append_nil])
        go_wp2
        go_roundw
        case rel => exact ⟨i + 1, q, cr, ar, him, by go_num, by go_num, Lib.hid (by rw [HN.out]; exact HQ.out), Lib.hid (by rw [HN.out]; exact HRow3.out), HBB3⟩
        case measure => simp [RowKit.intOf]; omega
      · have HN := Lib.hid (show pickF k (l.take (i + 1)) 0 = pickF k (l.take i) 0 ++ [(i : Int)] from by rw [HNX.out, HMB.out, if_pos rfl])
        have HSZ := Lib.hid HBB3.out.size
        go_wp2_with (first
          | (at_builtin; refine wpList_append_k rfl _ _ 81 rfl w1.heap.size 3 i0 (.int .i64 0) 1 8 Try.underlying81 hi0 hz0 hs0 (by decide) hb0 rfl (.slice ar q cr) q ((pickF k (l.take i) 0).flatMap numCells) rfl (row_at HRow3.out (fun g hg => (bel1' w3 _).block g (row_in HRow3.out hg).2)) (some ⟨w3.heap.size, 0, none⟩) 1 1 [.int .i64 (i : Int)] rfl rfl (Or.inr ⟨_, rfl, fun jj uu hu => cell_new w3 #[.int .i64 (i : Int)] _ jj uu hu⟩) (by simp [Value.oneCell']) (by unfold maxLen; omega) (by omega) (by have := HSZ.out; simp; omega) (q + 1) ((pickF k (l.take i) 0).flatMap numCells ++ [.int .i64 (i : Int)]) rfl rfl ?_; intro a4 c4 w4 hown4 hgrow4 hat4
             have HO4 := Lib.hid hown4
             have HB4 := Lib.hid (show Below w1.heap.size w1 w4 from (HBB3.out.trans ((bel1' w3 _).mono HBB3.out.size)).grown hgrow4 (by have := HBB3.out.size; simp; omega) (fun g hg => (row_in HRow3.out hg).1))
             clear hown4 hgrow4 hat4)
          | fail)
        go_roundw
        case rel => exact ⟨i + 1, q + 1, c4, a4, him, by go_num, by go_num, Lib.hid (by rw [HN.out, List.length_append, HQ.out]; rfl), Lib.hid (by rw [HN.out, List.flatMap_append]; exact HO4.out), HB4⟩
        case measure => simp [RowKit.intOf]; omega
    · have hie : m = i := by omega
      subst hie
      have HQ2 := Lib.hid (show pickF k (l.take m) 0 = R from by rw [List.take_of_length_le (by rw [HM.out]; exact Nat.le_refl _)]; exact HR.out)
      have hmx : ¬ (m : Int) < m := by omega
      go_wp2
      go_ret
      refine ⟨_, rfl, ?_, Ext.trans' HB1.out HB.out⟩
      have h1 := HRow.out
      rw [HQ2.out] at h1
      have hqR : R.length = q := by rw [← HQ2.out]; exact HQ.out
      rw [hqR]
      exact ownsRow_base_a h1 HB1.out.size
end Go.Proofs.Ytchbbaehdcmcfaa
/- Stage 16's laws: ints, deep. -/
namespace Go.Proofs.Ytchbbaehdcmcfaa
open Go.RowKit
set_option linter.unusedVariables false
theorem Nums.cellsAt {w : World} {v : Value} {l : List Int} (h : Nums w v l) : ∃ a c, v = .slice a l.length c ∧ l.length ≤ c ∧ c ≤ maxLen ∧ ∀ (i : Nat) x, l[i]? = some x → ∃ b off, a = some ⟨b, off, none⟩ ∧ b < w.heap.size ∧ w.cell? ⟨b, off + i, none⟩ = some (.int .i64 x) := by
 obtain ⟨a, c, rfl, h1, h2⟩ := h.len
 exact ⟨a, c, rfl, h1, h2, fun i x hx => h.get hx⟩
set_option maxHeartbeats 4000000 in
theorem ints_at {w : World} {va vb : Value} {l r : List Int} (ha : Nums w va l) (hb : Nums w vb r) : Calls Try.prog 46 #[va, vb] w fun e w' => e = .returned (.bool (decide (l = r))) ∧ Below w.heap.size w w' := by
 obtain ⟨a, c, rfl, ha1, ha2, ha3⟩ := ha.cellsAt
 obtain ⟨b, d, rfl, hb1, hb2, hb3⟩ := hb.cellsAt
 unfold maxLen at ha2 hb2
 obtain ⟨m, hm⟩ : ∃ m, l.length = m := ⟨_, rfl⟩
 obtain ⟨n, hn⟩ : ∃ n, r.length = n := ⟨_, rfl⟩
 have HL := Lib.hid (And.intro hm hn)
 have HA := Lib.hid ha3
 have HB := Lib.hid hb3
 rw [hm] at ha1 ⊢
 rw [hn] at hb1 ⊢
 clear ha hb ha3 hb3 hm hn
 go_enter Try.func46, Try.ntmps46
 by_cases hmn : m = n
 rotate_left
 ·have hmn' : ((m : Int) == (n : Int)) = false := by simp; omega
  have hd : decide (l = r) = false := decide_eq_false fun e => hmn (by rw [← HL.out.1, ← HL.out.2, e])
  go_wp2
  go_ret
  exact ⟨by first | rfl | (rw [hd]; rfl), Below.refl _ _⟩
 subst hmn
 go_wp2_with fail
 go_loopw [5] (fun z wr => ∃ i : Nat, i ≤ m ∧ z = .int .i64 i ∧ Hid (Below w.heap.size w wr) ∧ Hid (l.take i = r.take i)) (fun z _ => m - (RowKit.intOf z).toNat)
 case atStart => exact ⟨0, Nat.zero_le _, rfl, Lib.hid (Below.refl _ _), Lib.hid rfl⟩
 case round =>
  obtain ⟨i, hi, rfl, HW, HT⟩ := hrel
  by_cases him : i < m
  ·obtain ⟨x, hx⟩ : ∃ x, l[i]? = some x := ⟨_, List.getElem?_eq_getElem (by rw [HL.out.1]; exact him)⟩
   obtain ⟨y, hy⟩ : ∃ y, r[i]? = some y := ⟨_, List.getElem?_eq_getElem (by rw [HL.out.2]; exact him)⟩
   obtain ⟨ba, oa, rfl, _, c0⟩ := HA.out i x hx
   obtain ⟨bb, ob, rfl, _, c1⟩ := HB.out i y hy
   have HX := Lib.hid (And.intro hx hy)
   replace c0 := cell_later HW.out c0
   replace c1 := cell_later HW.out c1
   have himi : (i : Int) < m := by omega
   clear hx hy
   by_cases hxy : x = y
   ·subst hxy
    have HN := Lib.hid (show l.take (i + 1) = r.take (i + 1) from by rw [take_next HX.out.1, take_next HX.out.2, HT.out])
    go_upto_region 6 with fail
    refine wp_region_held_drew (S := fun wq => wq.cell? ⟨ba, oa + i, none⟩ = some (.int .i64 x) ∧ wq.cell? ⟨bb, ob + i, none⟩ = some (.int .i64 x)) (by kernel_rfl) ⟨c0, c1⟩ (fun hHeld => ?_)
    first | (refine held_t (i := 0) hHeld ?_; constructor; constructor; intro wq hq; focus ((try dsimp only at hq); go_simp; first | done | with_reducible rfl | fail)) | refine held_s (i := 0) hHeld ?_ | fail
    first | (refine held_t (i := 1) hHeld ?_; constructor; constructor; intro wq hq; focus ((try dsimp only at hq); go_simp; first | done | with_reducible rfl | fail)) | refine held_s (i := 1) hHeld ?_ | fail
    first | (refine held_t (i := 2) hHeld ?_; constructor; constructor; intro wq hq; focus ((try dsimp only at hq); go_simp; first | done | with_reducible rfl | fail)) | refine held_s (i := 2) hHeld ?_ | fail
    first | (refine held_t (i := 3) hHeld ?_; constructor; constructor; intro wq hq; focus ((try dsimp only at hq); go_simp; first | done | with_reducible rfl | fail)) | refine held_s (i := 3) hHeld ?_ | fail
    first | (refine held_t (i := 4) hHeld ?_; constructor; constructor; intro wq hq; focus ((try dsimp only at hq); go_simp; first | done | with_reducible rfl | fail)) | refine held_s (i := 4) hHeld ?_ | fail
    first | (refine held_t (i := 5) hHeld ?_; constructor; constructor; intro wq hq; focus ((try dsimp only at hq); go_simp; first | done | with_reducible rfl | fail)) | refine held_s (i := 5) hHeld ?_ | fail
    first | (refine held_t (i := 6) hHeld ?_; constructor; constructor; intro wq hq; focus ((try dsimp only at hq); go_simp; first | done | with_reducible rfl | fail)) | refine held_s (i := 6) hHeld ?_ | fail
    first | (refine held_t (i := 7) hHeld ?_; constructor; constructor; intro wq hq; focus ((try dsimp only at hq); go_simp; first | done | with_reducible rfl | fail)) | refine held_s (i := 7) hHeld ?_ | fail
    first | (refine held_t (i := 8) hHeld ?_; constructor; constructor; intro wq hq; focus ((try dsimp only at hq); go_simp; first | done | with_reducible rfl | fail)) | refine held_s (i := 8) hHeld ?_ | fail
    try simp only [Act.put, lay4]
    refine wpAnyH_done (by kernel_rfl) ?_ _
    have HW2 := Lib.hid (show Below w.heap.size w wr.drew from HW.out.drew)
    clear hHeld c0 c1
    go_wp2
    go_roundw
    case rel => exact ⟨i + 1, him, by go_num, HW2, HN⟩
    case measure => simp [RowKit.intOf]; omega
   ·have hxy' : (x == y) = false := by simpa using hxy
    have hd : decide (l = r) = false := decide_eq_false fun e => hxy (by
     have h1 := HX.out.1
     rw [e, HX.out.2] at h1
     exact (Option.some.inj h1).symm)
    go_upto_region 6 with fail
    refine wp_region_held_drew (S := fun wq => wq.cell? ⟨ba, oa + i, none⟩ = some (.int .i64 x) ∧ wq.cell? ⟨bb, ob + i, none⟩ = some (.int .i64 y)) (by kernel_rfl) ⟨c0, c1⟩ (fun hHeld => ?_)
    first | (refine held_t (i := 0) hHeld ?_; constructor; constructor; intro wq hq; focus ((try dsimp only at hq); go_simp; first | done | with_reducible rfl | fail)) | refine held_s (i := 0) hHeld ?_ | fail
    first | (refine held_t (i := 1) hHeld ?_; constructor; constructor; intro wq hq; focus ((try dsimp only at hq); go_simp; first | done | with_reducible rfl | fail)) | refine held_s (i := 1) hHeld ?_ | fail
    first | (refine held_t (i := 2) hHeld ?_; constructor; constructor; intro wq hq; focus ((try dsimp only at hq); go_simp; first | done | with_reducible rfl | fail)) | refine held_s (i := 2) hHeld ?_ | fail
    first | (refine held_t (i := 3) hHeld ?_; constructor; constructor; intro wq hq; focus ((try dsimp only at hq); go_simp; first | done | with_reducible rfl | fail)) | refine held_s (i := 3) hHeld ?_ | fail
    first | (refine held_t (i := 4) hHeld ?_; constructor; constructor; intro wq hq; focus ((try dsimp only at hq); go_simp; first | done | with_reducible rfl | fail)) | refine held_s (i := 4) hHeld ?_ | fail
    first | (refine held_t (i := 5) hHeld ?_; constructor; constructor; intro wq hq; focus ((try dsimp only at hq); go_simp; first | done | with_reducible rfl | fail)) | refine held_s (i := 5) hHeld ?_ | fail
    first | (refine held_t (i := 6) hHeld ?_; constructor; constructor; intro wq hq; focus ((try dsimp only at hq); go_simp; first | done | with_reducible rfl | fail)) | refine held_s (i := 6) hHeld ?_ | fail
    first | (refine held_t (i := 7) hHeld ?_; constructor; constructor; intro wq hq; focus ((try dsimp only at hq); go_simp; first | done | with_reducible rfl | fail)) | refine held_s (i := 7) hHeld ?_ | fail
    first | (refine held_t (i := 8) hHeld ?_; constructor; constructor; intro wq hq; focus ((try dsimp only at hq); go_simp; first | done | with_reducible rfl | fail)) | refine held_s (i := 8) hHeld ?_ | fail
    try simp only [Act.put, lay4]
    refine wpAnyH_done (by kernel_rfl) ?_ _
    have HW2 := Lib.hid (show Below w.heap.size w wr.drew from HW.out.drew)
    clear hHeld c0 c1
    go_wp2
    go_ret
    exact ⟨by first | rfl | (rw [hd]; rfl), HW2.out⟩
  ·have hie : m = i := by omega
   subst hie
   have hd : decide (l = r) = true := decide_eq_true (by
    have h := HT.out
    rw [List.take_of_length_le (by rw [HL.out.1]; exact Nat.le_refl _), List.take_of_length_le (by rw [HL.out.2]; exact Nat.le_refl _)] at h
    exact h)
   have hmx : ¬ (m : Int) < m := by omega
   go_wp2
   go_ret
   exact ⟨by first | rfl | (rw [hd]; rfl), HW.out⟩
end Go.Proofs.Ytchbbaehdcmcfaa
/- Package index: Of; the document's KeyOf. -/
namespace Go.Proofs.Ytchbbaehdcmcfaa
open Go.RowKit
set_option linter.unusedVariables false
theorem argKey_is {a : Tm} (h : formedT a = true) (hk : a.k ≠ 0) : argKey a = ⟨a.k, a.n, a.s, (a.args.length : Nat)⟩ := by
 rcases formed_kids h with ⟨g, _⟩ | ⟨g, e⟩ | ⟨g, e⟩
 ·exact absurd g hk
 ·unfold argKey
  rw [if_neg hk, if_pos g]
  have e1 : a.s = ⟨#[]⟩ := by rw [e]; rfl
  have e2 : a.args = [] := by rw [e]; rfl
  rw [g, e1, e2]
  rfl
 ·unfold argKey
  rw [if_neg hk, if_neg (by rw [g]; decide)]
  have e1 : a.n = 0 := by rw [e]; rfl
  rw [g, e1]
theorem i64of1 : I64 1 := ⟨by decide, by decide⟩
theorem i64of2 : I64 2 := ⟨by decide, by decide⟩
theorem i64of0 : I64 0 := ⟨by decide, by decide⟩
set_option maxHeartbeats 4000000 in
set_option maxRecDepth 100000 in
theorem ixOf_at (t : Tm) (w : World) (v : Value) (hv : TmV w t v) : Calls Try.prog 41 #[v] w fun e w' => e = .returned (ixV (keyT t)) ∧ Below w.heap.size w w' := by
 have HV := Lib.hid hv
 obtain ⟨k, n, s, ts⟩ := t
 obtain ⟨u, rfl, hss, hkk, hnn, hts⟩ := tmV_iff.1 hv
 obtain ⟨a, c, rfl, ha1, ha2, ha3⟩ := hts.len
 unfold maxLen at ha2
 unfold BIG at ha3
 obtain ⟨m, hm⟩ : ∃ m, ts.length = m := ⟨_, rfl⟩
 have HM := Lib.hid hm
 have HT := Lib.hid hts
 obtain ⟨R, hR⟩ : ∃ R, keyT (.mk k n s ts) = R := ⟨_, rfl⟩
 have HR := Lib.hid hR
 rw [hR]
 rw [hm] at HV HT ha1 ha3 ⊢
 obtain ⟨w1, e1, B1, z1, X1⟩ := box_new w #[.int .i64 k, .int .i64 n, .string s, .slice a m c] 31
 obtain ⟨w2, e2, B2, z2, X2⟩ := box_new w1 #[.int .i64 0, .int .i64 0, .string ⟨#[]⟩, .int .i64 0] 76
 have hB := Ext.trans' B1 B2
 rw [z1] at X2
 have HE := Lib.hid (And.intro e1 e2)
 have HB := Lib.hid hB
 have HX := Lib.hid (And.intro (X1.ext B2) X2)
 obtain ⟨x0, x1, x2, x3, _⟩ := HX.out.1.four
 clear e1 e2 B1 B2 z1 z2 X1 X2 hB hv hss hkk hnn hts hm hR
 go_enter Try.func41, Try.ntmps41
 go_upto_region 1 with fail
 (try rw [HE.out.1])
 (try rw [HE.out.2])
 clear HE
 by_cases hm0 : m = 0
 ·subst hm0
  have hr : R = zeroKey := by
   rw [← HR.out]
   unfold keyT
   split
   ·rw [show (Tm.mk k n s ts).args = [] from List.length_eq_zero_iff.1 HM.out]
   ·rfl
  obtain ⟨y0, y1, y2, y3, yf⟩ := HX.out.2.four
  have hb2 := Below.set4 (b := w.heap.size + 1) HB.out (by omega) (.int .i64 0) (.int .i64 0) (.string ⟨#[]⟩) (.int .i64 0)
  go_wp2
  refine bodyPost_ret (v := .agg #[.int .i64 0, .int .i64 0, .string ⟨#[]⟩, .int .i64 0]) (by rw [results_cell1 rfl]; go_simp) rfl ⟨by first | rfl | (rw [hr]; rfl), hb2⟩
 have hm1 : ((m : Int) == 0) = false := by simp; omega
 have C := Good_at (.mk k n s ts) w2 _ (TmV.ext HB.out _ _ HV.out)
 cases hg : goodT (.mk k n s ts)
 ·rw [hg] at C
  (go_wp2_with fail; go_fit (C); rintro e w3 ⟨rfl, b3⟩)
  have hr : R = zeroKey := by rw [← HR.out]; unfold keyT; rw [if_neg (by rw [hg]; simp)]
  obtain ⟨y0, y1, y2, y3, yf⟩ := (HX.out.2.ext b3).four
  have hb2 := Below.set4 (b := w.heap.size + 1) (Ext.trans' HB.out b3) (by omega) (.int .i64 0) (.int .i64 0) (.string ⟨#[]⟩) (.int .i64 0)
  clear hg b3 C x0 x1 x2 x3
  go_wp2
  refine bodyPost_ret (v := .agg #[.int .i64 0, .int .i64 0, .string ⟨#[]⟩, .int .i64 0]) (by rw [results_cell1 rfl]; go_simp) rfl ⟨by first | rfl | (rw [hr]; rfl), hb2⟩
 rw [hg] at C
 (go_wp2_with fail; go_fit (C); rintro e w3 ⟨rfl, b3⟩)
 have HB3 := Lib.hid (Ext.trans' HB.out b3)
 have HX3 := Lib.hid (And.intro (HX.out.1.ext b3) (HX.out.2.ext b3))
 have HG := Lib.hid hg
 clear hg b3 C x0 x1 x2 x3
 obtain ⟨x0, x1, x2, x3, _⟩ := HX3.out.1.four
 obtain ⟨y, hy⟩ : ∃ y, ts[0]? = some y := ⟨_, List.getElem?_eq_getElem (by rw [HM.out]; omega)⟩
 obtain ⟨b, off, k1, n1, s1, u1, rfl, hbb, g1, g2, g3, c0, c1, c2, c3, hu1, ht⟩ := HT.out.get hy
 obtain ⟨a1, l1, rfl, _, hl2, _⟩ := hu1.len
 unfold maxLen at hl2
 replace c0 := cell_later HB3.out c0
 replace c1 := cell_later HB3.out c1
 replace c2 := cell_later HB3.out c2
 replace c3 := cell_later HB3.out c3
 rw [Nat.zero_mul, Nat.add_zero] at c0 c1 c2 c3
 have hR : R = argKey y := by
  rw [← HR.out]
  unfold keyT
  rw [if_pos HG.out]
  show (match ts with | [] => zeroKey | a :: _ => argKey a) = _
  cases ts with
  | nil => simp at hy
  | cons q r => injection hy with hy; rw [hy]
 have hf : formedT y = true := (good_parts (good_arg HG.out (t := .mk k n s ts) (List.mem_of_getElem? hy))).2.2
 have HKey := Lib.hid (And.intro hR (And.intro hf (And.intro g1 (And.intro g2 g3))))
 obtain ⟨q, hq⟩ : ∃ q, y.args.length = q := ⟨_, rfl⟩
 have HQ := Lib.hid hq
 rw [hq] at c3
 clear hR hf g1 g2 g3 hu1 ht hy hbb hq
 go_upto_region 4 with fail
 obtain ⟨w4, e4, B4, z4, X4⟩ := box_new w3 #[.int .i64 k1, .int .i64 n1, .string s1, .slice a1 q l1] 31
 (try rw [e4])
 obtain ⟨z0, zz1, zz2, zz3, _⟩ := X4.four
 obtain ⟨y0, y1, y2, y3, yf⟩ := (HX3.out.2.ext B4).four
 have HB4 := Lib.hid (Ext.trans' HB3.out B4)
 clear e4 B4 z4 X4 x0 x1 x2 x3 c0 c1 c2 c3
 by_cases hk1 : k1 = 0
 ·have hk1' : (k1 == 0) = true := by simpa using hk1
  have hr : R = zeroKey := by
   rw [HKey.out.1]
   unfold argKey
   rw [if_pos (by rw [HKey.out.2.2.1]; exact hk1)]
  have hb2 := Below.set4 (b := w.heap.size + 1) HB4.out (by omega) (.int .i64 0) (.int .i64 0) (.string ⟨#[]⟩) (.int .i64 0)
  go_wp2
  refine bodyPost_ret (v := .agg #[.int .i64 0, .int .i64 0, .string ⟨#[]⟩, .int .i64 0]) (by rw [results_cell1 rfl]; go_simp) rfl ⟨by first | rfl | (rw [hr]; rfl), hb2⟩
 ·have hk1' : (k1 == 0) = false := by simpa using hk1
  have hr : R = ⟨k1, n1, s1, (q : Int)⟩ := by
   rw [HKey.out.1, argKey_is HKey.out.2.1 (by rw [HKey.out.2.2.1]; exact hk1), HKey.out.2.2.1, HKey.out.2.2.2.1, HKey.out.2.2.2.2, HQ.out]
  have hb2 := Below.set4 (b := w.heap.size + 1) HB4.out (by omega) (.int .i64 k1) (.int .i64 n1) (.string s1) (.int .i64 (q : Int))
  go_wp2
  refine bodyPost_ret (v := .agg #[.int .i64 k1, .int .i64 n1, .string s1, .int .i64 (q : Int)]) (by rw [results_cell1 rfl]; go_simp) rfl ⟨by first | rfl | rw [hr], hb2⟩
end Go.Proofs.Ytchbbaehdcmcfaa
