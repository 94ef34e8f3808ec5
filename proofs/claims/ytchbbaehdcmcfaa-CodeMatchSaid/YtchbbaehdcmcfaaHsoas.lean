import Derived.Test.YtchbbaehdcmcfaaHsozz
import Derived.Test.YtchbbaehdcmcfaaHsoar
import Derived.Test.YtchbbaehdcmcfaaHsoae
import Derived.Test.YtchbbaehdcmcfaaHsoan
set_option linter.unusedVariables false
set_option linter.unusedSimpArgs false
/- Package code: Good's check of a step: val, int, atom, comp, and none of these. -/
namespace Go.Proofs.Ytchbbaehdcmcfaa
open Go.RowKit
set_option linter.unusedVariables false
section
variable {w : World} {kb rb sl next : Nat} {seen : List Int}
theorem step_int (h : CkS w kb rb sl next seen) (hl : seen.length ≤ 50000) (hn5 : next ≤ 50000) (x : InsM) (hx : InsIn x) (ha : x.a < (next : Int)) (hop : x.op = opInt) : Calls Try.prog 57 #[.pointer (some ⟨kb, 0, none⟩), insVal x] w (StepP w kb rb sl next seen x) := by
 obtain ⟨op, a, b, c, n, s⟩ := x
 obtain rfl : op = opInt := hop
 have ha : a < (next : Int) := ha
 have hP : partK sl next seen ⟨opInt, a, b, c, n, s⟩ = (b == 0 && (c == 0 && noS s)) := by
  unfold partK partI
  rw [if_neg (show ¬ opInt = opVar by decide), if_neg (show ¬ opInt = opVal by decide), if_pos rfl, decide_eq_true ha, Bool.true_and, Bool.and_assoc]
 obtain ⟨w1, e1, B1, z1, X1⟩ := box_new w #[.string opInt, .int .i64 a, .int .i64 b, .int .i64 c, .int .i64 n, .string s] 36
 have H1 := h.ext B1
 obtain ⟨c0, c1, c2, cf⟩ := H1.box.three
 have x0 := X1.cells 0 _ rfl
 have x1 := X1.cells 1 _ rfl
 have x2 := X1.cells 2 _ rfl
 have x3 := X1.cells 3 _ rfl
 have x4 := X1.cells 4 _ rfl
 have x5 := X1.cells 5 _ rfl
 have HB := Lib.hid B1
 have HE := Lib.hid e1
 have HX := Lib.hid hx
 have HH1 := Lib.hid H1
 have HN5 := Lib.hid hn5
 have HTB := Lib.hid (fun (wq : World) (hb : Below w1.heap.size w1 wq) => Touch.of_below (F := [kb, rb]) (Ext.trans' HB.out hb))
 have heq : ∀ wq, (Op.equalIn 10000 36 (.agg #[.string opInt, .int .i64 a, .int .i64 b, .int .i64 c, .int .i64 n, .string s]) (.agg #[.string opInt, .int .i64 a, .int .i64 0, .int .i64 0, .int .i64 n, .string ⟨#[]⟩])).run Try.prog wq = .ok (b == 0 && (c == 0 && noS s)) wq := fun wq => by
  rw [eq_ins]
  first | (rw [noS_list]; simp) | simp
 obtain ⟨z, hz⟩ : ∃ z, (b == 0 && (c == 0 && noS s)) = z := ⟨_, rfl⟩
 rw [hz] at heq hP
 have HPZ := Lib.hid hP
 unfold insVal
 clear h B1 z1 X1 e1 hP hz hx H1
 unfold opInt at heq x0 HE ⊢
 go_enter Try.func57, Try.ntmps57
 go_upto_region 1 with fail
 (try rw [HE.out])
 go_wp2_with fail
 go_quiet (fail)
 have BQ := Lib.hid (bel_drewN (Below.refl w1.heap.size w1) nq)
 go_wp2
 go_ret
 cases z
 ·exact StepP.no HPZ.out (HTB.out _ BQ.out)
 ·refine ⟨congrArg (fun v => Ending.returned (.bool v)) HPZ.out.symm, HTB.out _ BQ.out, fun _ => ?_⟩
  exact HH1.out.ext BQ.out
theorem step_atom (h : CkS w kb rb sl next seen) (hl : seen.length ≤ 50000) (hn5 : next ≤ 50000) (x : InsM) (hx : InsIn x) (ha : x.a < (next : Int)) (hop : x.op = opAtom) : Calls Try.prog 57 #[.pointer (some ⟨kb, 0, none⟩), insVal x] w (StepP w kb rb sl next seen x) := by
 obtain ⟨op, a, b, c, n, s⟩ := x
 obtain rfl : op = opAtom := hop
 have ha : a < (next : Int) := ha
 have hP : partK sl next seen ⟨opAtom, a, b, c, n, s⟩ = ((b == 0 && (c == 0 && n == 0)) && nmOk s) := by
  unfold partK partI
  rw [if_neg (show ¬ opAtom = opVar by decide), if_neg (show ¬ opAtom = opVal by decide), if_neg (show ¬ opAtom = opInt by decide), if_pos rfl, decide_eq_true ha, Bool.true_and]
  simp only [Bool.and_assoc]
 obtain ⟨w1, e1, B1, z1, X1⟩ := box_new w #[.string opAtom, .int .i64 a, .int .i64 b, .int .i64 c, .int .i64 n, .string s] 36
 have H1 := h.ext B1
 obtain ⟨c0, c1, c2, cf⟩ := H1.box.three
 have x0 := X1.cells 0 _ rfl
 have x1 := X1.cells 1 _ rfl
 have x2 := X1.cells 2 _ rfl
 have x3 := X1.cells 3 _ rfl
 have x4 := X1.cells 4 _ rfl
 have x5 := X1.cells 5 _ rfl
 have HB := Lib.hid B1
 have HE := Lib.hid e1
 have HX := Lib.hid hx
 have HH1 := Lib.hid H1
 have HN5 := Lib.hid hn5
 have HTB := Lib.hid (fun (wq : World) (hb : Below w1.heap.size w1 wq) => Touch.of_below (F := [kb, rb]) (Ext.trans' HB.out hb))
 have heq : ∀ wq, (Op.equalIn 10000 36 (.agg #[.string opAtom, .int .i64 a, .int .i64 b, .int .i64 c, .int .i64 n, .string s]) (.agg #[.string opAtom, .int .i64 a, .int .i64 0, .int .i64 0, .int .i64 0, .string s])).run Try.prog wq = .ok (b == 0 && (c == 0 && n == 0)) wq := fun wq => by
  rw [eq_ins]
  first | (rw [noS_list]; simp) | simp
 obtain ⟨z, hz⟩ : ∃ z, (b == 0 && (c == 0 && n == 0)) = z := ⟨_, rfl⟩
 rw [hz] at heq hP
 have HPZ := Lib.hid hP
 have HC := Lib.hid (fun (wq : World) => named_at ⟨opAtom, a, b, c, n, s⟩ HX.out.s wq)
 unfold insVal at HC
 unfold insVal
 clear h B1 z1 X1 e1 hP hz hx H1
 obtain ⟨y, hy⟩ : ∃ y, nmOk s = y := ⟨_, rfl⟩
 have HY := Lib.hid hy
 have HCY := Lib.hid (fun (wq : World) => by have := HC.out wq; rw [hy] at this; exact this : ∀ wq : World, Calls Try.prog 91 #[.agg #[.string opAtom, .int .i64 a, .int .i64 b, .int .i64 c, .int .i64 n, .string s]] wq fun e w' => e = .returned (.bool y) ∧ Below wq.heap.size wq w')
 clear HC hy
 unfold opAtom at heq x0 HE HCY ⊢
 go_enter Try.func57, Try.ntmps57
 go_upto_region 1 with fail
 (try rw [HE.out])
 go_wp2_with fail
 go_quiet (fail)
 have BQ := Lib.hid (bel_drewN (Below.refl w1.heap.size w1) nq)
 cases z
 ·go_wp2
  go_ret
  exact StepP.no (HPZ.out.trans rfl) (HTB.out _ BQ.out)
 ·(go_wp2_with fail; go_fit (HCY.out _); rintro e w' ⟨rfl, b3⟩)
  have HB3 := Lib.hid (Ext.trans' BQ.out b3)
  clear b3
  go_wp2
  go_ret
  cases y
  ·exact StepP.no (HPZ.out.trans (by rw [HY.out]; rfl)) (HTB.out _ HB3.out)
  ·have hq : partK sl next seen ⟨opAtom, a, b, c, n, s⟩ = true := HPZ.out.trans (by rw [HY.out]; rfl)
   exact ⟨congrArg (fun v => Ending.returned (.bool v)) hq.symm, HTB.out _ HB3.out, fun _ => HH1.out.ext HB3.out⟩
theorem step_none (h : CkS w kb rb sl next seen) (x : InsM) (hx : InsIn x) (ha : x.a < (next : Int)) (h1 : ¬ x.op = opVar) (h2 : ¬ x.op = opVal) (h3 : ¬ x.op = opInt) (h4 : ¬ x.op = opAtom) (h5 : ¬ x.op = opComp) : Calls Try.prog 57 #[.pointer (some ⟨kb, 0, none⟩), insVal x] w (StepP w kb rb sl next seen x) := by
 have hP : partK sl next seen x = false := by
  unfold partK partI
  rw [if_neg h1, if_neg h2, if_neg h3, if_neg h4, if_neg h5, Bool.and_false]
 obtain ⟨op, a, b, c, n, s⟩ := x
 have ha : a < (next : Int) := ha
 have g1 := op_ne (show ¬ op = opVar from h1)
 have g2 := op_ne (show ¬ op = opVal from h2)
 have g3 := op_ne (show ¬ op = opInt from h3)
 have g4 := op_ne (show ¬ op = opAtom from h4)
 have g5 := op_ne (show ¬ op = opComp from h5)
 have k1 : (op.toList == [118, 97, 114]) = false := by rw [← g1, show opVar.toList = _ from (Lib.toList_data _).trans rfl]; rfl
 have k2 : (op.toList == [118, 97, 108]) = false := by rw [← g2, show opVal.toList = _ from (Lib.toList_data _).trans rfl]; rfl
 have k3 : (op.toList == [105, 110, 116]) = false := by rw [← g3, show opInt.toList = _ from (Lib.toList_data _).trans rfl]; rfl
 have k4 : (op.toList == [97, 116, 111, 109]) = false := by rw [← g4, show opAtom.toList = _ from (Lib.toList_data _).trans rfl]; rfl
 have k5 : (op.toList == [99, 111, 109, 112]) = false := by rw [← g5, show opComp.toList = _ from (Lib.toList_data _).trans rfl]; rfl
 obtain ⟨w1, e1, B1, z1, X1⟩ := box_new w #[.string op, .int .i64 a, .int .i64 b, .int .i64 c, .int .i64 n, .string s] 36
 obtain ⟨c0, c1, c2, cf⟩ := (h.ext B1).box.three
 have x0 := X1.cells 0 _ rfl
 have x1 := X1.cells 1 _ rfl
 have HB := Lib.hid B1
 have HE := Lib.hid e1
 have HP := Lib.hid hP
 unfold insVal
 clear h B1 z1 X1 e1 hP h1 h2 h3 h4 h5 g1 g2 g3 g4 g5
 go_enter Try.func57, Try.ntmps57
 go_upto_region 1 with fail
 (try rw [HE.out])
 go_wp2_with fail
 go_quiet (fail)
 have BQ := Lib.hid (bel_drewN (Below.refl w1.heap.size w1) nq)
 go_wp2
 go_ret
 exact StepP.no HP.out (Touch.of_below (Ext.trans' HB.out BQ.out) _)
theorem not_seen (h : CkS w kb rb sl next seen) {b : Int} (hb : ¬ (0 ≤ b ∧ b < (sl : Int))) : seen.contains b = false := by
 cases hc : seen.contains b
 ·rfl
 ·exact absurd (h.rng b (by simpa using hc)) hb
theorem step_val (h : CkS w kb rb sl next seen) (hl : seen.length ≤ 50000) (hn5 : next ≤ 50000) (x : InsM) (hx : InsIn x) (ha : x.a < (next : Int)) (hop : x.op = opVal) : Calls Try.prog 57 #[.pointer (some ⟨kb, 0, none⟩), insVal x] w (StepP w kb rb sl next seen x) := by
 obtain ⟨op, a, b, c, n, s⟩ := x
 obtain rfl : op = opVal := hop
 have ha : a < (next : Int) := ha
 have hP : partK sl next seen ⟨opVal, a, b, c, n, s⟩ = ((c == 0 && (n == 0 && noS s)) && seen.contains b) := by
  unfold partK partI
  rw [if_neg (show ¬ opVal = opVar by decide), if_pos rfl, decide_eq_true ha, Bool.true_and]
  generalize seen.contains b = p1
  generalize (c == 0) = p4
  generalize (n == 0) = p5
  generalize noS s = p6
  cases p1 <;> cases p4 <;> cases p5 <;> cases p6 <;> rfl
 obtain ⟨w1, e1, B1, z1, X1⟩ := box_new w #[.string opVal, .int .i64 a, .int .i64 b, .int .i64 c, .int .i64 n, .string s] 36
 have H1 := h.ext B1
 obtain ⟨c0, c1, c2, cf⟩ := H1.box.three
 have x0 := X1.cells 0 _ rfl
 have x1 := X1.cells 1 _ rfl
 have x2 := X1.cells 2 _ rfl
 have x3 := X1.cells 3 _ rfl
 have x4 := X1.cells 4 _ rfl
 have x5 := X1.cells 5 _ rfl
 have HB := Lib.hid B1
 have HE := Lib.hid e1
 have HX := Lib.hid hx
 have HH1 := Lib.hid H1
 have HN5 := Lib.hid hn5
 have HTB := Lib.hid (fun (wq : World) (hb : Below w1.heap.size w1 wq) => Touch.of_below (F := [kb, rb]) (Ext.trans' HB.out hb))
 have heq : ∀ wq, (Op.equalIn 10000 36 (.agg #[.string opVal, .int .i64 a, .int .i64 b, .int .i64 c, .int .i64 n, .string s]) (.agg #[.string opVal, .int .i64 a, .int .i64 b, .int .i64 0, .int .i64 0, .string ⟨#[]⟩])).run Try.prog wq = .ok (c == 0 && (n == 0 && noS s)) wq := fun wq => by
  rw [eq_ins]
  first | (rw [noS_list]; simp) | simp
 obtain ⟨z, hz⟩ : ∃ z, (c == 0 && (n == 0 && noS s)) = z := ⟨_, rfl⟩
 rw [hz] at heq hP
 have HPZ := Lib.hid hP
 have HSL := Lib.hid (fun (wq : World) (hb : Below w1.heap.size w1 wq) => slot_at (HH1.out.ext hb) HX.out.b)
 have HNS := Lib.hid (fun hb => not_seen HH1.out (b := b) hb)
 have hrow := HH1.out.row
 unfold insVal
 clear h B1 z1 X1 e1 hP hz hx H1
 by_cases g : 0 ≤ b ∧ b < (sl : Int)
 ·obtain ⟨j, rfl⟩ : ∃ j : Nat, b = (j : Int) := ⟨b.toNat, by omega⟩
  have g1 : j < sl := by omega
  have hrow := hrow j g1
  have hs2 := HH1.out.small.1
  have hr1 : (decide (0 ≤ (j : Int)) && decide ((j : Int) < (sl : Int))) = true := by simp [g1]
  rw [hr1] at HSL
  obtain ⟨y, hy⟩ : ∃ y, seen.contains (j : Int) = y := ⟨_, rfl⟩
  rw [hy] at hrow
  have HY := Lib.hid hy
  clear hr1 hy HNS g
  unfold opVal at heq x0 HE ⊢
  go_enter Try.func57, Try.ntmps57
  go_upto_region 1 with fail
  (try rw [HE.out])
  go_wp2_with fail
  go_quiet (fail)
  cases z
  ·go_wp2_with fail
   (refine wp_region_class (fun w' => ((w'.cell? ⟨w.heap.size, 0, none⟩ = some (.string ⟨#[118, 97, 108]⟩) ∧ w'.cell? ⟨w.heap.size, 1, none⟩ = some (.int .i64 a) ∧ w'.cell? ⟨w.heap.size, 2, none⟩ = some (.int .i64 (j : Int)) ∧ w'.cell? ⟨w.heap.size, 3, none⟩ = some (.int .i64 c) ∧ w'.cell? ⟨w.heap.size, 4, none⟩ = some (.int .i64 n) ∧ w'.cell? ⟨w.heap.size, 5, none⟩ = some (.string s)) ∧ w'.cell? ⟨kb, 2, none⟩ = some (.slice (some ⟨rb, 0, none⟩) sl sl) ∧ w'.cell? ⟨rb, j, none⟩ = some (.bool y)) ∧ Below w1.heap.size w1 w') (by kernel_rfl) (by kernel_rfl) (⟨⟨⟨x0, x1, x2, x3, x4, x5⟩, c2, hrow⟩, (bel_drewN (Below.refl _ _) _).drew⟩) ?_; (repeat (first | go_big_quiet_skip | (go_big_quiet_want; refine quiet_of ?_; apply Exists.intro; refine ⟨fun wq hq => ?_, ?_⟩; (focus ((try dsimp only at hq); go_simp; (first | done | with_reducible rfl | ((go_at_call 90; refine (HSL.out wq hq.2).mono ?_; rintro e w6 ⟨rfl, rfl⟩; exact ⟨rfl, hq⟩)) | fail))); try simp only [Act.put, lay4]; go_big_quiet_on) | fail)); refine wpQuiet_nil ?_; intro wz hz)
   go_wp2
   go_ret
   exact StepP.no (HPZ.out.trans rfl) (HTB.out _ hz.2)
  ·go_wp2_with fail
   (refine wp_region_class (fun w' => ((w'.cell? ⟨w.heap.size, 0, none⟩ = some (.string ⟨#[118, 97, 108]⟩) ∧ w'.cell? ⟨w.heap.size, 1, none⟩ = some (.int .i64 a) ∧ w'.cell? ⟨w.heap.size, 2, none⟩ = some (.int .i64 (j : Int)) ∧ w'.cell? ⟨w.heap.size, 3, none⟩ = some (.int .i64 c) ∧ w'.cell? ⟨w.heap.size, 4, none⟩ = some (.int .i64 n) ∧ w'.cell? ⟨w.heap.size, 5, none⟩ = some (.string s)) ∧ w'.cell? ⟨kb, 2, none⟩ = some (.slice (some ⟨rb, 0, none⟩) sl sl) ∧ w'.cell? ⟨rb, j, none⟩ = some (.bool y)) ∧ Below w1.heap.size w1 w') (by kernel_rfl) (by kernel_rfl) (⟨⟨⟨x0, x1, x2, x3, x4, x5⟩, c2, hrow⟩, (bel_drewN (Below.refl _ _) _).drew⟩) ?_; (repeat (first | go_big_quiet_skip | (go_big_quiet_want; refine quiet_of ?_; apply Exists.intro; refine ⟨fun wq hq => ?_, ?_⟩; (focus ((try dsimp only at hq); go_simp; (first | done | with_reducible rfl | ((go_at_call 90; refine (HSL.out wq hq.2).mono ?_; rintro e w6 ⟨rfl, rfl⟩; exact ⟨rfl, hq⟩)) | fail))); try simp only [Act.put, lay4]; go_big_quiet_on) | fail)); refine wpQuiet_nil ?_; intro wz hz)
   go_wp2
   go_ret
   cases y
   ·exact StepP.no (HPZ.out.trans (by rw [HY.out]; rfl)) (HTB.out _ hz.2)
   ·have hq : partK sl next seen ⟨opVal, a, (j : Int), c, n, s⟩ = true := HPZ.out.trans (by rw [HY.out]; rfl)
    exact ⟨congrArg (fun v => Ending.returned (.bool v)) hq.symm, HTB.out _ hz.2, fun _ => HH1.out.ext hz.2⟩
 ·have hns := HNS.out g
  have hr1 : (decide (0 ≤ b) && decide (b < (sl : Int))) = false := by
   rw [Bool.eq_false_iff]
   intro e
   simp only [Bool.and_eq_true, decide_eq_true_eq] at e
   exact g e
  rw [hr1] at HSL
  have HNO := Lib.hid (show partK sl next seen ⟨opVal, a, b, c, n, s⟩ = false from HPZ.out.trans (by rw [hns, Bool.and_false]))
  clear hr1 hns HNS g hrow
  unfold opVal at heq x0 HE ⊢
  go_enter Try.func57, Try.ntmps57
  go_upto_region 1 with fail
  (try rw [HE.out])
  go_wp2_with fail
  go_quiet (fail)
  cases z
  ·go_wp2_with fail
   (refine wp_region_class (fun w' => ((w'.cell? ⟨w.heap.size, 0, none⟩ = some (.string ⟨#[118, 97, 108]⟩) ∧ w'.cell? ⟨w.heap.size, 1, none⟩ = some (.int .i64 a) ∧ w'.cell? ⟨w.heap.size, 2, none⟩ = some (.int .i64 b) ∧ w'.cell? ⟨w.heap.size, 3, none⟩ = some (.int .i64 c) ∧ w'.cell? ⟨w.heap.size, 4, none⟩ = some (.int .i64 n) ∧ w'.cell? ⟨w.heap.size, 5, none⟩ = some (.string s)) ∧ w'.cell? ⟨kb, 2, none⟩ = some (.slice (some ⟨rb, 0, none⟩) sl sl)) ∧ Below w1.heap.size w1 w') (by kernel_rfl) (by kernel_rfl) (⟨⟨⟨x0, x1, x2, x3, x4, x5⟩, c2⟩, (bel_drewN (Below.refl _ _) _).drew⟩) ?_; (repeat (first | go_big_quiet_skip | (go_big_quiet_want; refine quiet_of ?_; apply Exists.intro; refine ⟨fun wq hq => ?_, ?_⟩; (focus ((try dsimp only at hq); go_simp; (first | done | with_reducible rfl | ((go_at_call 90; refine (HSL.out wq hq.2).mono ?_; rintro e w6 ⟨rfl, rfl⟩; exact ⟨rfl, hq⟩)) | fail))); try simp only [Act.put, lay4]; go_big_quiet_on) | fail)); refine wpQuiet_nil ?_; intro wz hz)
   go_wp2
   go_ret
   exact StepP.no HNO.out (HTB.out _ hz.2)
  ·go_wp2_with fail
   (refine wp_region_class (fun w' => ((w'.cell? ⟨w.heap.size, 0, none⟩ = some (.string ⟨#[118, 97, 108]⟩) ∧ w'.cell? ⟨w.heap.size, 1, none⟩ = some (.int .i64 a) ∧ w'.cell? ⟨w.heap.size, 2, none⟩ = some (.int .i64 b) ∧ w'.cell? ⟨w.heap.size, 3, none⟩ = some (.int .i64 c) ∧ w'.cell? ⟨w.heap.size, 4, none⟩ = some (.int .i64 n) ∧ w'.cell? ⟨w.heap.size, 5, none⟩ = some (.string s)) ∧ w'.cell? ⟨kb, 2, none⟩ = some (.slice (some ⟨rb, 0, none⟩) sl sl)) ∧ Below w1.heap.size w1 w') (by kernel_rfl) (by kernel_rfl) (⟨⟨⟨x0, x1, x2, x3, x4, x5⟩, c2⟩, (bel_drewN (Below.refl _ _) _).drew⟩) ?_; (repeat (first | go_big_quiet_skip | (go_big_quiet_want; refine quiet_of ?_; apply Exists.intro; refine ⟨fun wq hq => ?_, ?_⟩; (focus ((try dsimp only at hq); go_simp; (first | done | with_reducible rfl | ((go_at_call 90; refine (HSL.out wq hq.2).mono ?_; rintro e w6 ⟨rfl, rfl⟩; exact ⟨rfl, hq⟩)) | fail))); try simp only [Act.put, lay4]; go_big_quiet_on) | fail)); refine wpQuiet_nil ?_; intro wz hz)
   go_wp2
   go_ret
   exact StepP.no HNO.out (HTB.out _ hz.2)
end
end Go.Proofs.Ytchbbaehdcmcfaa
/- Package code: Good's check of a step: comp; and whatever step. -/
namespace Go.Proofs.Ytchbbaehdcmcfaa
open Go.RowKit
set_option linter.unusedVariables false
section
variable {w : World} {kb rb sl next : Nat} {seen : List Int}
set_option maxHeartbeats 2000000 in
set_option maxRecDepth 100000 in
theorem step_comp (h : CkS w kb rb sl next seen) (hl : seen.length ≤ 50000) (hn5 : next ≤ 50000) (x : InsM) (hx : InsIn x) (ha : x.a < (next : Int)) (hop : x.op = opComp) : Calls Try.prog 57 #[.pointer (some ⟨kb, 0, none⟩), insVal x] w (StepP w kb rb sl next seen x) := by
 obtain ⟨op, a, b, c, n, s⟩ := x
 obtain rfl : op = opComp := hop
 have ha : a < (next : Int) := ha
 have hP : partK sl next seen ⟨opComp, a, b, c, n, s⟩ = (((c == (next : Int) && n == 0) && nmOk s) && (decide (1 ≤ b) && decide (b ≤ 8))) := by
  unfold partK partI
  rw [if_neg (show ¬ opComp = opVar by decide), if_neg (show ¬ opComp = opVal by decide), if_neg (show ¬ opComp = opInt by decide), if_neg (show ¬ opComp = opAtom by decide), if_pos rfl, decide_eq_true ha, Bool.true_and]
  generalize decide (1 ≤ b) = p1
  generalize decide (b ≤ 8) = p2
  generalize (c == (next : Int)) = p4
  generalize (n == 0) = p5
  generalize nmOk s = p6
  cases p1 <;> cases p2 <;> cases p4 <;> cases p5 <;> cases p6 <;> rfl
 obtain ⟨w1, e1, B1, z1, X1⟩ := box_new w #[.string opComp, .int .i64 a, .int .i64 b, .int .i64 c, .int .i64 n, .string s] 36
 have H1 := h.ext B1
 obtain ⟨c0, c1, c2, cf⟩ := H1.box.three
 have x0 := X1.cells 0 _ rfl
 have x1 := X1.cells 1 _ rfl
 have x2 := X1.cells 2 _ rfl
 have x3 := X1.cells 3 _ rfl
 have x4 := X1.cells 4 _ rfl
 have x5 := X1.cells 5 _ rfl
 have HB := Lib.hid B1
 have HE := Lib.hid e1
 have HX := Lib.hid hx
 have HH1 := Lib.hid H1
 have hlt : kb < w.heap.size := h.box.lt
 have hne : w.heap.size ≠ kb := by omega
 have hlr : rb < w.heap.size := h.lt
 have HTB := Lib.hid (fun (wq : World) (hb : Below w1.heap.size w1 wq) => Touch.of_below (F := [kb, rb]) (Ext.trans' HB.out hb))
 have heq : ∀ wq, (Op.equalIn 10000 36 (.agg #[.string opComp, .int .i64 a, .int .i64 b, .int .i64 c, .int .i64 n, .string s]) (.agg #[.string opComp, .int .i64 a, .int .i64 b, .int .i64 next, .int .i64 0, .string s])).run Try.prog wq = .ok (c == (next : Int) && n == 0) wq := fun wq => by
  rw [eq_ins]
  simp
 obtain ⟨z, hz⟩ : ∃ z, (c == (next : Int) && n == 0) = z := ⟨_, rfl⟩
 rw [hz] at heq hP
 obtain ⟨y, hy⟩ : ∃ y, nmOk s = y := ⟨_, rfl⟩
 rw [hy] at hP
 have HPZ := Lib.hid hP
 have HCY := Lib.hid (fun (wq : World) => by have := named_at ⟨opComp, a, b, c, n, s⟩ HX.out.s wq; unfold insVal at this; rw [show nmOk (InsM.mk opComp a b c n s).s = y from hy] at this; exact this : ∀ wq : World, Calls Try.prog 91 #[.agg #[.string opComp, .int .i64 a, .int .i64 b, .int .i64 c, .int .i64 n, .string s]] wq fun e w' => e = .returned (.bool y) ∧ Below wq.heap.size wq w')
 have HTK := Lib.hid (fun (wq : World) (hb : Below w1.heap.size w1 wq) => take_at (HH1.out.ext hb) hn5 HX.out.b)
 unfold insVal
 clear h B1 z1 X1 e1 hP hz hx H1 hy
 unfold opComp at heq x0 HE HCY ⊢
 go_enter Try.func57, Try.ntmps57
 go_upto_region 1 with fail
 (try rw [HE.out])
 go_wp2_with fail
 go_quiet (fail)
 have BQ := Lib.hid (bel_drewN (Below.refl w1.heap.size w1) nq)
 go_wp2_with fail
 cases z
 ·(refine wp_region_class (fun w' => ((w'.cell? ⟨w.heap.size, 0, none⟩ = some (.string ⟨#[99, 111, 109, 112]⟩) ∧ w'.cell? ⟨w.heap.size, 1, none⟩ = some (.int .i64 a) ∧ w'.cell? ⟨w.heap.size, 2, none⟩ = some (.int .i64 b) ∧ w'.cell? ⟨w.heap.size, 3, none⟩ = some (.int .i64 c) ∧ w'.cell? ⟨w.heap.size, 4, none⟩ = some (.int .i64 n) ∧ w'.cell? ⟨w.heap.size, 5, none⟩ = some (.string s)) ∧ w'.cell? ⟨kb, 0, none⟩ = some (.int .i64 next)) ∧ Below w1.heap.size w1 w') (by kernel_rfl) (by kernel_rfl) (⟨⟨⟨x0, x1, x2, x3, x4, x5⟩, c0⟩, (bel_drewN (Below.refl _ _) _).drew⟩) ?_; (repeat (first | go_big_quiet_skip | (go_big_quiet_want; refine quiet_of ?_; apply Exists.intro; refine ⟨fun wq hq => ?_, ?_⟩; (focus ((try dsimp only at hq); go_simp; (first | done | with_reducible rfl | (fail) | fail))); try simp only [Act.put, lay4]; go_big_quiet_on) | fail)); refine wpQuiet_nil ?_; intro wz hz)
  go_wp2
  go_ret
  exact StepP.no (HPZ.out.trans (by simp)) (HTB.out _ hz.2)
 ·cases y
  ·(refine wp_region_class (fun w' => ((w'.cell? ⟨w.heap.size, 0, none⟩ = some (.string ⟨#[99, 111, 109, 112]⟩) ∧ w'.cell? ⟨w.heap.size, 1, none⟩ = some (.int .i64 a) ∧ w'.cell? ⟨w.heap.size, 2, none⟩ = some (.int .i64 b) ∧ w'.cell? ⟨w.heap.size, 3, none⟩ = some (.int .i64 c) ∧ w'.cell? ⟨w.heap.size, 4, none⟩ = some (.int .i64 n) ∧ w'.cell? ⟨w.heap.size, 5, none⟩ = some (.string s)) ∧ w'.cell? ⟨kb, 0, none⟩ = some (.int .i64 next)) ∧ Below w1.heap.size w1 w') (by kernel_rfl) (by kernel_rfl) (⟨⟨⟨x0, x1, x2, x3, x4, x5⟩, c0⟩, (bel_drewN (Below.refl _ _) _).drew⟩) ?_; (repeat (first | go_big_quiet_skip | (go_big_quiet_want; refine quiet_of ?_; apply Exists.intro; refine ⟨fun wq hq => ?_, ?_⟩; (focus ((try dsimp only at hq); go_simp; (first | done | with_reducible rfl | ((go_at_call 91; refine (HCY.out wq).mono ?_; rintro e w6 ⟨rfl, h6⟩; exact ⟨rfl, ⟨⟨cell_later h6 hq.1.1.1, cell_later h6 hq.1.1.2.1, cell_later h6 hq.1.1.2.2.1, cell_later h6 hq.1.1.2.2.2.1, cell_later h6 hq.1.1.2.2.2.2.1, cell_later h6 hq.1.1.2.2.2.2.2⟩, cell_later h6 hq.1.2⟩, Ext.trans' hq.2 h6⟩)) | fail))); try simp only [Act.put, lay4]; go_big_quiet_on) | fail)); refine wpQuiet_nil ?_; intro wz hz)
   go_wp2
   go_ret
   exact StepP.no (HPZ.out.trans (by simp)) (HTB.out _ hz.2)
  ·refine wp_region_held_drew (S := fun w' => w'.cell? ⟨w.heap.size, 0, none⟩ = some (.string ⟨#[99, 111, 109, 112]⟩) ∧ w'.cell? ⟨w.heap.size, 1, none⟩ = some (.int .i64 a) ∧ w'.cell? ⟨w.heap.size, 2, none⟩ = some (.int .i64 b) ∧ w'.cell? ⟨w.heap.size, 3, none⟩ = some (.int .i64 c) ∧ w'.cell? ⟨w.heap.size, 4, none⟩ = some (.int .i64 n) ∧ w'.cell? ⟨w.heap.size, 5, none⟩ = some (.string s)) (by kernel_rfl) (⟨x0, x1, x2, x3, x4, x5⟩) (fun hHeld => ?_)
   first | (refine held_t (i := 0) hHeld ?_; constructor; constructor; intro wq hq; focus ((try dsimp only at hq); go_simp; first | done | with_reducible rfl | fail)) | refine held_s (i := 0) hHeld ?_ | fail
   first | (refine held_t (i := 1) hHeld ?_; constructor; constructor; intro wq hq; focus ((try dsimp only at hq); go_simp; first | done | with_reducible rfl | fail)) | refine held_s (i := 1) hHeld ?_ | fail
   first | (refine held_t (i := 2) hHeld ?_; constructor; constructor; intro wq hq; focus ((try dsimp only at hq); go_simp; first | done | with_reducible rfl | fail)) | refine held_s (i := 2) hHeld ?_ | fail
   first | (refine held_t (i := 3) hHeld ?_; constructor; constructor; intro wq hq; focus ((try dsimp only at hq); go_simp; first | done | with_reducible rfl | fail)) | refine held_s (i := 3) hHeld ?_ | fail
   first | (refine held_t (i := 4) hHeld ?_; constructor; constructor; intro wq hq; focus ((try dsimp only at hq); go_simp; first | done | with_reducible rfl | fail)) | refine held_s (i := 4) hHeld ?_ | fail
   first | (refine held_t (i := 5) hHeld ?_; constructor; constructor; intro wq hq; focus ((try dsimp only at hq); go_simp; first | done | with_reducible rfl | fail)) | refine held_s (i := 5) hHeld ?_ | fail
   first | (refine held_t (i := 6) hHeld ?_; constructor; constructor; intro wq hq; focus ((try dsimp only at hq); go_simp; first | done | with_reducible rfl | fail)) | refine held_s (i := 6) hHeld ?_ | fail
   first | (refine held_t (i := 7) hHeld ?_; constructor; constructor; intro wq hq; focus ((try dsimp only at hq); go_simp; first | done | with_reducible rfl | fail)) | refine held_s (i := 7) hHeld ?_ | fail
   first | (refine held_t (i := 9) hHeld ?_; constructor; constructor; intro wq hq; focus ((try dsimp only at hq); go_simp; first | done | with_reducible rfl | fail)) | refine held_s (i := 9) hHeld ?_ | fail
   first | (refine held_t (i := 10) hHeld ?_; constructor; constructor; intro wq hq; focus ((try dsimp only at hq); go_simp; first | done | with_reducible rfl | fail)) | refine held_s (i := 10) hHeld ?_ | fail
   try simp only [Act.put, lay4]
   refine held_c 8 fun K hK => ?_
   go_simp
   skip
   refine hK.out _ _ (hHeld) (fun hHeld => ?_)
   clear hK K
   try simp only [Act.put, lay4]
   first | (refine held_t (i := 11) hHeld ?_; constructor; constructor; intro wq hq; focus ((try dsimp only at hq); go_simp; first | done | with_reducible rfl | fail)) | refine held_s (i := 11) hHeld ?_ | fail
   first | (refine held_t (i := 12) hHeld ?_; constructor; constructor; intro wq hq; focus ((try dsimp only at hq); go_simp; first | done | with_reducible rfl | fail)) | refine held_s (i := 12) hHeld ?_ | fail
   first | (refine held_t (i := 13) hHeld ?_; constructor; constructor; intro wq hq; focus ((try dsimp only at hq); go_simp; first | done | with_reducible rfl | fail)) | refine held_s (i := 13) hHeld ?_ | fail
   first | (refine held_t (i := 14) hHeld ?_; constructor; constructor; intro wq hq; focus ((try dsimp only at hq); go_simp; first | done | with_reducible rfl | fail)) | refine held_s (i := 14) hHeld ?_ | fail
   try simp only [Act.put, lay4]
   refine held_c 15 fun K hK => ?_
   go_simp
   (go_at_call 91; refine (HCY.out _).mono ?_; rintro e w6 ⟨rfl, h6⟩; have HQ := Lib.hid (Ext.trans' (bel_drewN (Below.refl w1.heap.size w1) nq).drew h6))
   refine hK.out _ _ (⟨cell_later h6 hHeld.1, cell_later h6 hHeld.2.1, cell_later h6 hHeld.2.2.1, cell_later h6 hHeld.2.2.2.1, cell_later h6 hHeld.2.2.2.2.1, cell_later h6 hHeld.2.2.2.2.2⟩) (fun hHeld => ?_)
   clear hK K
   try simp only [Act.put, lay4]
   first | (refine held_t (i := 16) hHeld ?_; constructor; constructor; intro wq hq; focus ((try dsimp only at hq); go_simp; first | done | with_reducible rfl | fail)) | refine held_s (i := 16) hHeld ?_ | fail
   first | (refine held_t (i := 17) hHeld ?_; constructor; constructor; intro wq hq; focus ((try dsimp only at hq); go_simp; first | done | with_reducible rfl | fail)) | refine held_s (i := 17) hHeld ?_ | fail
   first | (refine held_t (i := 18) hHeld ?_; constructor; constructor; intro wq hq; focus ((try dsimp only at hq); go_simp; first | done | with_reducible rfl | fail)) | refine held_s (i := 18) hHeld ?_ | fail
   first | (refine held_t (i := 19) hHeld ?_; constructor; constructor; intro wq hq; focus ((try dsimp only at hq); go_simp; first | done | with_reducible rfl | fail)) | refine held_s (i := 19) hHeld ?_ | fail
   first | (refine held_t (i := 20) hHeld ?_; constructor; constructor; intro wq hq; focus ((try dsimp only at hq); go_simp; first | done | with_reducible rfl | fail)) | refine held_s (i := 20) hHeld ?_ | fail
   try simp only [Act.put, lay4]
   refine held_c 21 fun K hK => ?_
   go_simp
   (go_at_call 92; refine (HTK.out _ HQ.out).mono ?_; rintro e w7 ⟨rfl, t7, k7⟩; have HT7 := Lib.hid (And.intro t7 k7))
   refine hK.out _ _ (⟨HT7.out.1.cell (by simp; exact hne) hHeld.1, HT7.out.1.cell (by simp; exact hne) hHeld.2.1, HT7.out.1.cell (by simp; exact hne) hHeld.2.2.1, HT7.out.1.cell (by simp; exact hne) hHeld.2.2.2.1, HT7.out.1.cell (by simp; exact hne) hHeld.2.2.2.2.1, HT7.out.1.cell (by simp; exact hne) hHeld.2.2.2.2.2⟩) (fun hHeld => ?_)
   clear hK K
   try simp only [Act.put, lay4]
   first | (refine held_t (i := 22) hHeld ?_; constructor; constructor; intro wq hq; focus ((try dsimp only at hq); go_simp; first | done | with_reducible rfl | fail)) | refine held_s (i := 22) hHeld ?_ | fail
   first | (refine held_t (i := 23) hHeld ?_; constructor; constructor; intro wq hq; focus ((try dsimp only at hq); go_simp; first | done | with_reducible rfl | fail)) | refine held_s (i := 23) hHeld ?_ | fail
   try simp only [Act.put, lay4]
   refine wpAnyH_done (by kernel_rfl) ?_ _
   clear t7 k7 hHeld h6
   go_wp2
   go_ret
   have hq : partK sl next seen ⟨opComp, a, b, c, n, s⟩ = (decide (1 ≤ b) && decide (b ≤ 8)) := HPZ.out.trans (by simp)
   have ht : Touch [kb, rb] w w7 := (HTB.out _ HQ.out).trans (HT7.out.1.sub (F' := [kb, rb]) (by simp)) (fun k hk => Or.inl hk)
   refine ⟨?_, ht, fun e => ?_⟩
   ·exact congrArg (fun v => Ending.returned (.bool v)) hq.symm
   ·exact HT7.out.2 (hq.symm.trans e)
theorem step_at (h : CkS w kb rb sl next seen) (hl : seen.length ≤ 50000) (hn5 : next ≤ 50000) (x : InsM) (hx : InsIn x) : Calls Try.prog 57 #[.pointer (some ⟨kb, 0, none⟩), insVal x] w (StepP w kb rb sl next seen x) := by
 by_cases ha : x.a < (next : Int)
 ·by_cases h1 : x.op = opVar
  ·exact step_var h hl x hx ha h1
  ·by_cases h2 : x.op = opVal
   ·exact step_val h hl hn5 x hx ha h2
   ·by_cases h3 : x.op = opInt
    ·exact step_int h hl hn5 x hx ha h3
    ·by_cases h4 : x.op = opAtom
     ·exact step_atom h hl hn5 x hx ha h4
     ·by_cases h5 : x.op = opComp
      ·exact step_comp h hl hn5 x hx ha h5
      ·exact step_none h x hx ha h1 h2 h3 h4 h5
 ·exact step_out h x hx ha
end
end Go.Proofs.Ytchbbaehdcmcfaa
/- Package code: Good. -/
namespace Go.Proofs.Ytchbbaehdcmcfaa
open Go.RowKit
set_option linter.unusedVariables false
def CodeV (w : World) (c : CodeM) (v : Value) : Prop := ∃ a m k, v = .agg #[.int .i64 c.ar, .int .i64 c.sl, .int .i64 c.rg, .slice a m k] ∧ I64 c.ar ∧ I64 c.sl ∧ I64 c.rg ∧ Elems 6 insCells w (.slice a m k) c.l ∧ ∀ x ∈ c.l, InsIn x
theorem CodeV.ext {w w' : World} {c : CodeM} {v : Value} (h : CodeV w c v) (hb : Below w.heap.size w w') : CodeV w' c v := by
 obtain ⟨a, m, k, h1, h2, h3, h4, h5, h6⟩ := h
 exact ⟨a, m, k, h1, h2, h3, h4, h5.ext hb, h6⟩
theorem ins_get {w : World} {a : Option Addr} {m k : Nat} {l : List InsM} (h : Elems 6 insCells w (.slice a m k) l) {i : Nat} {x : InsM} (hx : l[i]? = some x) : ∃ b off, a = some ⟨b, off, none⟩ ∧ b < w.heap.size ∧
  w.cell? ⟨b, off + i * 6, none⟩ = some (.string x.op) ∧ w.cell? ⟨b, off + i * 6 + 1, none⟩ = some (.int .i64 x.a) ∧ w.cell? ⟨b, off + i * 6 + 2, none⟩ = some (.int .i64 x.b) ∧ w.cell? ⟨b, off + i * 6 + 3, none⟩ = some (.int .i64 x.c) ∧ w.cell? ⟨b, off + i * 6 + 4, none⟩ = some (.int .i64 x.n) ∧ w.cell? ⟨b, off + i * 6 + 5, none⟩ = some (.string x.s) := by
 obtain ⟨a', c', e, h1, h2, h3⟩ := h
 cases e
 rcases h3 with rfl | ⟨b, off, rfl, hb, hc⟩
 ·simp at hx
 ·have g := fun j u hj => by have := hc i x hx j u hj; rw [← Nat.add_assoc] at this; exact this
  exact ⟨b, off, rfl, hb, g 0 _ rfl, g 1 _ rfl, g 2 _ rfl, g 3 _ rfl, g 4 _ rfl, g 5 _ rfl⟩
theorem ins_len {w : World} {a : Option Addr} {m k : Nat} {l : List InsM} (h : Elems 6 insCells w (.slice a m k) l) : m = l.length ∧ m ≤ k ∧ k ≤ maxLen := by
 obtain ⟨a', c', e, h1, h2, h3⟩ := h
 cases e
 exact ⟨rfl, h1, h2⟩
theorem infoBoolC : (Try.prog.info? 4).map (fun i => (i.zero, i.size, i.bytes)) = some (some (.bool false), 1, 1) := by kernel_rfl
theorem make_bools (m : Nat) (hm : m ≤ 100000) (w : World) : (Instr.makeSlice 60 (.int .i64 m) (.int .i64 m)).run Try.prog w = .ok (.slice (some ⟨w.heap.size, 0, none⟩) m m) (w.alloc (.cells (madeCells #[.bool false] m) 4)) := by
 obtain ⟨i0, hi0, hz0, hs0, hb0⟩ := info_parts infoBoolC
 have h := run_makeSlice (P := Try.prog) w 60 4 i0 _ Try.underlying60 hi0 hz0 .i64 .i64 m m (by omega) (by omega) (by rw [hs0]; omega) (by rw [hb0]; omega) (by omega)
 rw [hs0] at h
 simp only [Int.toNat_natCast, Nat.mul_one] at h
 exact h
theorem bool_cell (w : World) (m j : Nat) (hj : j < m) : (w.alloc (.cells (madeCells #[.bool false] m) 4)).cell? ⟨w.heap.size, j, none⟩ = some (.bool false) := by
 rw [World.cell?_alloc_at _ _ _ _ rfl]
 unfold madeCells
 rw [Array.getElem?_map, Array.getElem?_range, if_pos hj]
 simp [Nat.mod_one]
theorem CkS.start {w4 : World} {kb rb S A0 : Nat} (X : Box w4 kb [.int .i64 0, .int .i64 0, .slice none 0 0]) (hr : ∀ j, j < S → w4.cell? ⟨rb, j, none⟩ = some (.bool false)) (hf : ∀ j, w4.frozen? ⟨rb, j, none⟩ = false) (hne : kb ≠ rb) (hlt : rb < w4.heap.size) (hS : S ≤ 2000) (hA : A0 ≤ 100000) :
  CkS (((w4.setCell ⟨kb, 0, none⟩ (.int .i64 A0)).setCell ⟨kb, 1, none⟩ (.int .i64 0)).setCell ⟨kb, 2, none⟩ (.slice (some ⟨rb, 0, none⟩) S S)) kb rb S A0 [] := by
 have X5 := ((X.set (k := 0) (u := .int .i64 A0) (by simp)).set (k := 1) (u := .int .i64 0) (by simp)).set (k := 2) (u := .slice (some ⟨rb, 0, none⟩) S S) (by simp)
 refine ⟨X5, fun j hj => ?_, fun j => by rw [World.frozen?_setCell, World.frozen?_setCell, World.frozen?_setCell]; exact hf j, hne, (by have := hlt; simp only [World.setCell, Array.size_modify]; exact this), fun v hv => (by cases hv), hS, hA, (by simp)⟩
 rw [far_cell (Ne.symm hne), far_cell (Ne.symm hne), far_cell (Ne.symm hne)]
 exact hr j hj
theorem bel_set6 {w w4 : World} (h : Below w.heap.size w w4) {b : Nat} (hb : w.heap.size ≤ b) (u0 u1 u2 u3 u4 u5 : Value) : Below w.heap.size w ((((((w4.setCell ⟨b, 0, none⟩ u0).setCell ⟨b, 1, none⟩ u1).setCell ⟨b, 2, none⟩ u2).setCell ⟨b, 3, none⟩ u3).setCell ⟨b, 4, none⟩ u4).setCell ⟨b, 5, none⟩ u5) :=
 h.trans (((((((touch_one w4 b 0 u0).trans (touch_one _ b 1 u1) (fun k hk => Or.inl hk)).trans (touch_one _ b 2 u2) (fun k hk => Or.inl hk)).trans (touch_one _ b 3 u3) (fun k hk => Or.inl hk)).trans (touch_one _ b 4 u4) (fun k hk => Or.inl hk)).trans (touch_one _ b 5 u5) (fun k hk => Or.inl hk)).below h.size (fun k hk => by simp at hk; omega))
theorem goK_next {sl : Int} {l : List InsM} {i next : Nat} {seen : List Int} {x : InsM} (hx : l[i]? = some x) (hok : (x.a == (i : Int) && partK sl next seen x) = true) : goK sl (l.drop i) i next seen = goK sl (l.drop (i + 1)) (i + 1) (nextI next x) (metI seen x) := by
 obtain ⟨hlt, rfl⟩ := List.getElem?_eq_some_iff.1 hx
 rw [List.drop_eq_getElem_cons hlt, goK, if_pos hok]
theorem goK_stop {sl : Int} {l : List InsM} {i next : Nat} {seen : List Int} {x : InsM} (hx : l[i]? = some x) (hok : ¬ (x.a == (i : Int) && partK sl next seen x) = true) : goK sl (l.drop i) i next seen = none := by
 obtain ⟨hlt, rfl⟩ := List.getElem?_eq_some_iff.1 hx
 rw [List.drop_eq_getElem_cons hlt, goK, if_neg hok]
theorem next_le {sl : Int} {next : Nat} {seen : List Int} {x : InsM} (hok : partK sl next seen x = true) : nextI next x ≤ next + 8 ∧ (metI seen x).length ≤ seen.length + 1 := by
 refine ⟨?_, ?_⟩
 ·unfold nextI
  by_cases h5 : x.op = opComp
  ·rw [if_pos h5]
   unfold partK partI at hok
   rw [h5, if_neg (show ¬ opComp = opVar by decide), if_neg (show ¬ opComp = opVal by decide), if_neg (show ¬ opComp = opInt by decide), if_neg (show ¬ opComp = opAtom by decide), if_pos rfl] at hok
   simp only [Bool.and_eq_true, decide_eq_true_eq] at hok
   have := hok.2.1.1.1.2
   omega
  ·rw [if_neg h5]; omega
 ·unfold metI
  split
  ·simp
  ·omega
def GdI (w : World) (kb rb : Nat) (c : CodeM) (i : Nat) (wr : World) : Prop :=
 ∃ next seen, CkS wr kb rb c.sl.toNat next seen ∧ Below w.heap.size w wr ∧ (w.heap.size ≤ kb ∧ w.heap.size ≤ rb) ∧ next ≤ 8 + 8 * i ∧ seen.length ≤ i ∧ goK c.sl (c.l.drop i) i next seen = goK c.sl c.l 0 c.ar.toNat []
def goodE (c : CodeM) : Bool := match goK c.sl c.l 0 c.ar.toNat [] with
 | some (next, seen) => ((next : Nat) : Int) == c.rg && ((seen.length : Nat) : Int) == c.sl
 | none => false
set_option maxHeartbeats 4000000 in
set_option maxRecDepth 100000 in
theorem cgood_at {w : World} {c : CodeM} {v : Value} (h : CodeV w c v) : Calls Try.prog 19 #[v] w fun e w' => e = .returned (.bool (goodK c)) ∧ Below w.heap.size w w' := by
 obtain ⟨a, m, k, rfl, i1, i2, i3, hel, hins⟩ := h
 obtain ⟨ar, sl, rg, l⟩ := c
 replace hel : Elems 6 insCells w (.slice a m k) l := hel
 obtain ⟨hm, hmk, hkm⟩ := ins_len hel
 unfold maxLen at hkm
 obtain ⟨w1, e1, B1, z1, X1⟩ := box_new w #[.int .i64 ar, .int .i64 sl, .int .i64 rg, .slice a m k] 25
 obtain ⟨x0, x1, x2, x3, _⟩ := X1.four
 have HB := Lib.hid B1
 have HE := Lib.hid e1
 have HX1 := Lib.hid X1
 have HZ1 := Lib.hid z1
 have HIN := Lib.hid hins
 have HEL := Lib.hid hel
 have HML := Lib.hid hm
 have hG : goodK ⟨ar, sl, rg, l⟩ = (decide (0 ≤ ar) && decide (ar ≤ 8) && rg == (m : Int) && decide (rg ≤ 2000) && decide (0 ≤ sl) && decide (sl ≤ rg) && goodE ⟨ar, sl, rg, l⟩) := by
  rw [hm]
  rfl
 have HG := Lib.hid hG
 clear hG e1 B1 z1 X1 hins hel hm
 replace i1 : I64 ar := i1
 replace i2 : I64 sl := i2
 replace i3 : I64 rg := i3
 unfold I64 at i1 i2 i3
 by_cases g0 : 0 ≤ ar
 rotate_left
 ·have hr : goodK ⟨ar, sl, rg, l⟩ = false := by rw [HG.out]; simp [g0]
  rw [hr]
  clear hr
  go_enter Try.func19, Try.ntmps19
  go_upto_region 1 with fail
  (try rw [HE.out])
  go_wp2
  go_ret
  exact ⟨rfl, HB.out⟩
 by_cases g1 : ar ≤ 8
 rotate_left
 ·have hr : goodK ⟨ar, sl, rg, l⟩ = false := by rw [HG.out]; simp [g1]
  rw [hr]
  clear hr
  go_enter Try.func19, Try.ntmps19
  go_upto_region 1 with fail
  (try rw [HE.out])
  go_wp2
  go_ret
  exact ⟨rfl, HB.out⟩
 by_cases g2 : rg = (m : Int)
 rotate_left
 ·have hr : goodK ⟨ar, sl, rg, l⟩ = false := by rw [HG.out]; simp [g2]
  have g2' : (rg == (m : Int)) = false := by simpa using g2
  rw [hr]
  clear hr
  go_enter Try.func19, Try.ntmps19
  go_upto_region 1 with fail
  (try rw [HE.out])
  go_wp2
  go_ret
  exact ⟨rfl, HB.out⟩
 subst g2
 by_cases g3 : (m : Int) ≤ 2000
 rotate_left
 ·have hr : goodK ⟨ar, sl, (m : Int), l⟩ = false := by rw [HG.out]; simp only [beq_self_eq_true, Bool.and_true, Bool.true_and, Bool.and_false, Bool.false_and, decide_eq_true g0, decide_eq_true g1, decide_eq_false g3]; done -- [g3]
  rw [hr]
  clear hr
  go_enter Try.func19, Try.ntmps19
  go_upto_region 1 with fail
  (try rw [HE.out])
  go_wp2
  go_ret
  exact ⟨rfl, HB.out⟩
 by_cases g4 : 0 ≤ sl
 rotate_left
 ·have hr : goodK ⟨ar, sl, (m : Int), l⟩ = false := by rw [HG.out]; simp only [beq_self_eq_true, Bool.and_true, Bool.true_and, Bool.and_false, Bool.false_and, decide_eq_true g0, decide_eq_true g1, decide_eq_false g4]; done -- [g4]
  rw [hr]
  clear hr
  go_enter Try.func19, Try.ntmps19
  go_upto_region 1 with fail
  (try rw [HE.out])
  go_wp2
  go_ret
  exact ⟨rfl, HB.out⟩
 by_cases g5 : sl ≤ (m : Int)
 rotate_left
 ·have hr : goodK ⟨ar, sl, (m : Int), l⟩ = false := by rw [HG.out]; simp only [beq_self_eq_true, Bool.and_true, Bool.true_and, Bool.and_false, Bool.false_and, decide_eq_true g0, decide_eq_true g1, decide_eq_false g5]; done -- [g5]
  rw [hr]
  clear hr
  go_enter Try.func19, Try.ntmps19
  go_upto_region 1 with fail
  (try rw [HE.out])
  go_wp2
  go_ret
  exact ⟨rfl, HB.out⟩
 have hr : goodK ⟨ar, sl, (m : Int), l⟩ = goodE ⟨ar, sl, (m : Int), l⟩ := by rw [HG.out]; simp only [beq_self_eq_true, Bool.and_true, Bool.true_and, decide_eq_true g0, decide_eq_true g1, decide_eq_true g3, decide_eq_true g4, decide_eq_true g5]
 rw [hr]
 clear hr HG
 obtain ⟨S, rfl⟩ : ∃ S : Nat, sl = (S : Int) := ⟨sl.toNat, by omega⟩
 obtain ⟨A0, rfl⟩ : ∃ A0 : Nat, ar = (A0 : Int) := ⟨ar.toNat, by omega⟩
 have hmS : S ≤ m := by omega
 have hm2 : m ≤ 2000 := by omega
 have hA0 : A0 ≤ 8 := by omega
 clear g0 g1 g3 g4 g5 i1 i2 i3
 have q0 : decide ((A0 : Int) < 0) = false := by simp
 have q1 : decide ((8 : Int) < A0) = false := by simp; omega
 have q3 : decide ((2000 : Int) < m) = false := by simp; omega
 have q4 : decide ((S : Int) < 0) = false := by simp
 have q5 : decide (m < S) = false := by simp; omega
 have HMK := make_bools S (by omega)
 obtain ⟨R, hR⟩ : ∃ R, goodE ⟨(A0 : Int), (S : Int), (m : Int), l⟩ = R := ⟨_, rfl⟩
 have HR := Lib.hid hR
 rw [hR]
 clear hR
 go_enter Try.func19, Try.ntmps19
 go_upto_region 1 with fail
 (try rw [HE.out])
 go_upto_region 3 with fail
 go_cut [3] from 39 to 44 (fun s3 wx => Hid (∃ kb rb, s3 = .pointer (some ⟨kb, 0, none⟩) ∧ CkS wx kb rb S A0 [] ∧ Below w1.heap.size w1 wx ∧ w1.heap.size ≤ kb ∧ w1.heap.size ≤ rb))
 case first =>
  refine wp_region_held_drew (S := fun wq => wq.cell? ⟨w.heap.size, 0, none⟩ = some (.int .i64 A0) ∧ wq.cell? ⟨w.heap.size, 1, none⟩ = some (.int .i64 S)) (by kernel_rfl) ⟨x0, x1⟩ (fun hHeld => ?_)
  first | (refine held_t (i := 0) hHeld ?_; constructor; constructor; intro wq hq; focus ((try dsimp only at hq); go_simp; first | done | with_reducible rfl | fail)) | refine held_s (i := 0) hHeld ?_ | fail
  first | (refine held_t (i := 1) hHeld ?_; constructor; constructor; intro wq hq; focus ((try dsimp only at hq); go_simp; first | done | with_reducible rfl | fail)) | refine held_s (i := 1) hHeld ?_ | fail
  first | (refine held_t (i := 2) hHeld ?_; constructor; constructor; intro wq hq; focus ((try dsimp only at hq); go_simp; first | done | with_reducible rfl | fail)) | refine held_s (i := 2) hHeld ?_ | fail
  first | (refine held_t (i := 3) hHeld ?_; constructor; constructor; intro wq hq; focus ((try dsimp only at hq); go_simp; first | done | with_reducible rfl | fail)) | refine held_s (i := 3) hHeld ?_ | fail
  try simp only [Act.put, lay4]
  obtain ⟨wd, hwd⟩ : ∃ wd, w1.drew = wd := ⟨_, rfl⟩
  have hbd : Below w1.heap.size w1 wd := by rw [← hwd]; exact (Below.refl _ _).drew
  rw [hwd] at hHeld ⊢
  clear hwd
  have hk := HMK wd
  refine wpAnyH_ready (rs := [4, 6]) (by kernel_rfl) (by simp) ?_
  refine AllReadyH.cons (by simp only [ops3]; rfl) (fun K hK => ?_) (AllReadyH.cons (by simp only [ops3]; rfl) (fun K hK => ?_) AllReadyH.nil)
  ·go_simp
   skip
   refine hK.out _ _ (⟨cell_later (bel1' _ _) hHeld.1, cell_later (bel1' _ _) hHeld.2⟩) (fun hHeld => ?_)
   clear hK K
   try simp only [Act.put, lay4]
   first | (refine held_t (i := 5) hHeld ?_; constructor; constructor; intro wq hq; focus ((try dsimp only at hq); go_simp; first | done | with_reducible rfl | fail)) | refine held_s (i := 5) hHeld ?_ | fail
   try simp only [Act.put, lay4]
   have hrow := fun j hj => bool_cell wd S j hj
   obtain ⟨w3, e3, b3, z3, X3⟩ := box_new wd (madeCells #[.bool false] S) 4
   rw [e3] at hHeld hrow ⊢
   refine held_c 6 fun K hK => ?_
   go_simp
   skip
   refine hK.out _ _ (⟨cell_later (bel1' _ _) hHeld.1, cell_later (bel1' _ _) hHeld.2⟩) (fun hHeld => ?_)
   clear hK K
   try simp only [Act.put, lay4]
   obtain ⟨w4, e4, b4, z4, X4⟩ := box_new w3 #[.int .i64 0, .int .i64 0, .slice none 0 0] 104
   rw [e4] at hHeld ⊢
   rw [z3] at X4
   have CK := Lib.hid (CkS.start (A0 := A0) X4 (fun j hj => cell_later b4 (hrow j hj)) (fun j => (b4.frozen (p := ⟨wd.heap.size, j, none⟩) X3.lt).trans (X3.fz j)) (by omega) (by omega) (by omega) (by omega))
   have HBD := Lib.hid (Below.set3 (b := wd.heap.size + 1) (Ext.trans' hbd (Ext.trans' b3 b4)) (Nat.le_succ_of_le hbd.size) (.int .i64 A0) (.int .i64 0) (.slice (some ⟨wd.heap.size, 0, none⟩) S S))
   have HFR := Lib.hid (And.intro (Nat.le_succ_of_le hbd.size) hbd.size : w1.heap.size ≤ wd.heap.size + 1 ∧ w1.heap.size ≤ wd.heap.size)
   have hwn : w.heap.size ≠ wd.heap.size + 1 := by have := HZ1.out; have := hbd.size; omega
   obtain ⟨y0, y1, y2, yf⟩ := X4.three
   clear hrow e3 b3 z3 X3 e4 b4 z4 X4
   refine held_c 7 fun K hK => ?_
   go_simp
   skip
   refine hK.out _ _ (⟨(far_cell hwn).trans ((far_cell hwn).trans ((far_cell hwn).trans hHeld.1)), (far_cell hwn).trans ((far_cell hwn).trans ((far_cell hwn).trans hHeld.2))⟩) (fun hHeld => ?_)
   clear hK K
   try simp only [Act.put, lay4]
   refine wpAnyH_done (by kernel_rfl) ?_ _
   clear hHeld y0 y1 y2 yf
   go_wp2
   all_goals go_meet
   exact Lib.hid ⟨_, _, rfl, CK.out, HBD.out, HFR.out⟩
  ·go_simp
   skip
   refine hK.out _ _ (⟨cell_later (bel1' _ _) hHeld.1, cell_later (bel1' _ _) hHeld.2⟩) (fun hHeld => ?_)
   clear hK K
   try simp only [Act.put, lay4]
   obtain ⟨w3, e3, b3, z3, X3⟩ := box_new wd #[.int .i64 0, .int .i64 0, .slice none 0 0] 104
   rw [e3] at hHeld ⊢
   have hk := HMK w3
   refine held_c 4 fun K hK => ?_
   go_simp
   skip
   refine hK.out _ _ (⟨cell_later (bel1' _ _) hHeld.1, cell_later (bel1' _ _) hHeld.2⟩) (fun hHeld => ?_)
   clear hK K
   try simp only [Act.put, lay4]
   first | (refine held_t (i := 5) hHeld ?_; constructor; constructor; intro wq hq; focus ((try dsimp only at hq); go_simp; first | done | with_reducible rfl | fail)) | refine held_s (i := 5) hHeld ?_ | fail
   try simp only [Act.put, lay4]
   have hrow := fun j hj => bool_cell w3 S j hj
   obtain ⟨w4, e4, b4, z4, X4⟩ := box_new w3 (madeCells #[.bool false] S) 4
   rw [e4] at hHeld hrow ⊢
   have X3' := X3.ext b4
   have CK := Lib.hid (CkS.start (A0 := A0) X3' hrow X4.fz (by omega) X4.lt (by omega) (by omega))
   have HBD := Lib.hid (Below.set3 (b := wd.heap.size) (Ext.trans' hbd (Ext.trans' b3 b4)) hbd.size (.int .i64 A0) (.int .i64 0) (.slice (some ⟨w3.heap.size, 0, none⟩) S S))
   have HFR := Lib.hid (And.intro hbd.size (Nat.le_trans hbd.size b3.size) : w1.heap.size ≤ wd.heap.size ∧ w1.heap.size ≤ w3.heap.size)
   have hwn : w.heap.size ≠ wd.heap.size := by have := HZ1.out; have := hbd.size; omega
   rw [z3] at CK HBD HFR
   obtain ⟨y0, y1, y2, yf⟩ := X3'.three
   clear hrow e3 b3 z3 X3 e4 b4 z4 X4 X3' hk
   refine held_c 7 fun K hK => ?_
   go_simp
   skip
   refine hK.out _ _ (⟨(far_cell hwn).trans ((far_cell hwn).trans ((far_cell hwn).trans hHeld.1)), (far_cell hwn).trans ((far_cell hwn).trans ((far_cell hwn).trans hHeld.2))⟩) (fun hHeld => ?_)
   clear hK K
   try simp only [Act.put, lay4]
   refine wpAnyH_done (by kernel_rfl) ?_ _
   clear hHeld y0 y1 y2 yf
   go_wp2
   all_goals go_meet
   exact Lib.hid ⟨_, _, rfl, CK.out, HBD.out, HFR.out⟩
 case rest =>
  obtain ⟨kb, rb, rfl, hcc⟩ := hcut.out
  replace hcc := Lib.hid hcc
  clear hcut
  have HI0 := Lib.hid (show GdI w1 kb rb ⟨(A0 : Int), (S : Int), (m : Int), l⟩ 0 wc from ⟨A0, [], hcc.out.1, hcc.out.2.1, hcc.out.2.2, by omega, by simp, by rw [List.drop_zero]; rfl⟩)
  have HC := Lib.hid (fun (wq : World) (hb : Below w1.heap.size w1 wq) => (show wq.cell? ⟨w.heap.size, 0, none⟩ = some (.int .i64 A0) ∧ wq.cell? ⟨w.heap.size, 1, none⟩ = some (.int .i64 S) ∧ wq.cell? ⟨w.heap.size, 2, none⟩ = some (.int .i64 m) ∧ wq.cell? ⟨w.heap.size, 3, none⟩ = some (.slice a m k) from by
   obtain ⟨p0, p1, p2, p3, _⟩ := (HX1.out.ext hb).four
   exact ⟨p0, p1, p2, p3⟩))
  have hbc := hcc.out.2.1
  obtain ⟨x0, x1, x2, x3⟩ := HC.out _ hbc
  clear hcc hbc
  go_wp2_with fail
  go_loopw [48] (fun v wr => ∃ i : Nat, i ≤ m ∧ v = .int .i64 i ∧ Hid (GdI w1 kb rb ⟨(A0 : Int), (S : Int), (m : Int), l⟩ i wr)) (fun v _ => m - (RowKit.intOf v).toNat)
  case atStart => exact ⟨0, Nat.zero_le _, rfl, HI0⟩
  case round =>
   obtain ⟨i, hi, rfl, HI⟩ := hrel
   obtain ⟨next, seen, hck, hb, hfr, hn, hs, hgo⟩ := HI.out
   replace hgo : goK (S : Int) (l.drop i) i next seen = goK (S : Int) l 0 A0 [] := hgo
   replace hck : CkS wr kb rb S next seen := hck
   obtain ⟨x0, x1, x2, x3⟩ := HC.out _ hb
   by_cases hil : i < m
   ·obtain ⟨x, hx⟩ : ∃ x, l[i]? = some x := ⟨_, List.getElem?_eq_getElem (by rw [← HML.out]; exact hil)⟩
    obtain ⟨b, off, rfl, hbb, d0, d1, d2, d3, d4, d5⟩ := ins_get (HEL.out.ext (Ext.trans' HB.out hb)) hx
    have hin := HIN.out x (List.mem_of_getElem? hx)
    obtain ⟨w5, e5, b5, z5, X5⟩ := box_new wr #[.string x.op, .int .i64 x.a, .int .i64 x.b, .int .i64 x.c, .int .i64 x.n, .string x.s] 36
    obtain ⟨w6, e6, b6, z6, X6⟩ := box_new wr #[.string ⟨#[]⟩, .int .i64 0, .int .i64 0, .int .i64 0, .int .i64 0, .string ⟨#[]⟩] 36
    clear e5 b5 z5 X5 w5
    have y0 := X6.cells 0 _ rfl
    have y1 := X6.cells 1 _ rfl
    have y2 := X6.cells 2 _ rfl
    have y3 := X6.cells 3 _ rfl
    have y4 := X6.cells 4 _ rfl
    have y5 := X6.cells 5 _ rfl
    have yf := X6.fz
    go_upto_region 6 with fail
    (try rw [e6])
    go_upto_region 7 with fail
    have X7 := (((((X6.set (k := 0) (u := .string x.op) (by simp)).set (k := 1) (u := .int .i64 x.a) (by simp)).set (k := 2) (u := .int .i64 x.b) (by simp)).set (k := 3) (u := .int .i64 x.c) (by simp)).set (k := 4) (u := .int .i64 x.n) (by simp)).set (k := 5) (u := .string x.s) (by simp)
    have B7 := bel_set6 (b := wr.heap.size) b6 (Nat.le_refl _) (.string x.op) (.int .i64 x.a) (.int .i64 x.b) (.int .i64 x.c) (.int .i64 x.n) (.string x.s)
    obtain ⟨w7, hw7⟩ : ∃ w7, ((((((w6.setCell ⟨wr.heap.size, 0, none⟩ (.string x.op)).setCell ⟨wr.heap.size, 1, none⟩ (.int .i64 x.a)).setCell ⟨wr.heap.size, 2, none⟩ (.int .i64 x.b)).setCell ⟨wr.heap.size, 3, none⟩ (.int .i64 x.c)).setCell ⟨wr.heap.size, 4, none⟩ (.int .i64 x.n)).setCell ⟨wr.heap.size, 5, none⟩ (.string x.s)) = w7 := ⟨_, rfl⟩
    rw [hw7] at X7 B7 ⊢
    clear hw7 y0 y1 y2 y3 y4 y5 yf X6 b6 z6 e6 w6
    have y0 := X7.cells 0 _ rfl
    have y1 := X7.cells 1 _ rfl
    have y2 := X7.cells 2 _ rfl
    have y3 := X7.cells 3 _ rfl
    have y4 := X7.cells 4 _ rfl
    have y5 := X7.cells 5 _ rfl
    have HB7 := Lib.hid (Ext.trans' hb B7)
    have HCK := Lib.hid (hck.ext B7)
    have HIN1 := Lib.hid hin
    have HX := Lib.hid hx
    have HGO := Lib.hid hgo
    have HFR := Lib.hid hfr
    obtain ⟨r, hr⟩ : ∃ r, partK (S : Int) next seen x = r := ⟨_, rfl⟩
    have HRR := Lib.hid hr
    have C := step_at HCK.out (by omega) (by omega) x hin
    unfold StepP insVal at C
    rw [hr] at C
    clear X7 B7 hck hgo hx hin hfr hb d0 d1 d2 d3 d4 d5 hr HI
    by_cases hai : x.a = (i : Int)
    rotate_left
    ·have hne : (x.a == (i : Int)) = false := beq_false_of_ne hai
     have hR : R = false := by
      have h1 := goK_stop HX.out (sl := (S : Int)) (next := next) (seen := seen) (by rw [hne]; simp)
      rw [← HR.out]
      unfold goodE
      show (match goK (S : Int) l 0 ((A0 : Int)).toNat [] with | some (next, seen) => _ | none => false) = false
      rw [Int.toNat_natCast, ← HGO.out, h1]
     subst hR
     go_wp2
     go_ret
     exact ⟨rfl, Ext.trans' HB.out HB7.out⟩
    ·have HAI := Lib.hid hai
     rw [hai] at y1 C
     clear hai
     cases r
     ·have hR : R = false := by
       have h1 := goK_stop HX.out (sl := (S : Int)) (next := next) (seen := seen) (by rw [HRR.out]; simp)
       rw [← HR.out]
       unfold goodE
       show (match goK (S : Int) l 0 ((A0 : Int)).toNat [] with | some (next, seen) => _ | none => false) = false
       rw [Int.toNat_natCast, ← HGO.out, h1]
      subst hR
      (go_wp2_with fail; go_fit (C); rintro e w8 ⟨rfl, t8, k8⟩)
      have HT8 := Lib.hid t8
      clear t8 k8 C y0 y1 y2 y3 y4 y5
      go_wp2
      go_ret
      exact ⟨rfl, Ext.trans' HB.out (HB7.out.trans (HT8.out.below HB7.out.size (fun k hk => by have := HFR.out; simp at hk; omega)))⟩
     ·(go_wp2_with fail; go_fit (C); rintro e w8 ⟨rfl, t8, k8⟩)
      have HT8 := Lib.hid (And.intro t8 k8)
      clear t8 k8 C y0 y1 y2 y3 y4 y5
      go_wp2
      go_roundw
      case rel =>
       have hnl := next_le HRR.out
       refine ⟨i + 1, by omega, by go_num, Lib.hid ⟨nextI next x, metI seen x, HT8.out.2 trivial, HB7.out.trans (HT8.out.1.below HB7.out.size (fun k hk => by have := HFR.out; simp at hk; omega)), HFR.out, by omega, by omega, ?_⟩⟩
       have h1 := goK_next HX.out (sl := (S : Int)) (next := next) (seen := seen) (by rw [HRR.out, HAI.out]; simp)
       show goK (S : Int) (l.drop (i + 1)) (i + 1) _ _ = goK (S : Int) l 0 ((A0 : Int)).toNat []
       rw [← h1, HGO.out, Int.toNat_natCast]
      case measure => simp [RowKit.intOf]; omega
   ·have him : i = m := by omega
    obtain ⟨c0, c1, c2, _⟩ := hck.box.three
    have hR : R = (((next : Nat) : Int) == (m : Int) && ((seen.length : Nat) : Int) == (S : Int)) := by
     rw [← HR.out]
     unfold goodE
     show (match goK (S : Int) l 0 ((A0 : Int)).toNat [] with | some (next, seen) => _ | none => false) = _
     rw [Int.toNat_natCast, ← hgo, List.drop_eq_nil_of_le (by rw [← HML.out]; omega), goK]
    have HRR := Lib.hid hR
    have HB9 := Lib.hid (Ext.trans' HB.out hb)
    subst him
    obtain ⟨n9, hn9⟩ : ∃ n9 : Nat, seen.length = n9 := ⟨_, rfl⟩
    rw [hn9] at c1 HRR
    clear hck hb hfr hgo hs hR hn9 HI
    by_cases k1 : ((next : Nat) : Int) = (i : Int)
    ·by_cases k2 : ((n9 : Nat) : Int) = (S : Int)
     ·have hR : R = true := by rw [HRR.out, k1, k2]; simp
      subst hR
      rw [k1] at c0
      rw [k2] at c1
      clear k1 k2
      go_wp2
      go_ret
      exact ⟨rfl, HB9.out⟩
     ·have k2' : (((n9 : Nat) : Int) == (S : Int)) = false := beq_false_of_ne k2
      have hR : R = false := by rw [HRR.out, k2', Bool.and_false]
      subst hR
      rw [k1] at c0
      clear k1
      go_wp2
      go_ret
      exact ⟨rfl, HB9.out⟩
    ·have k1' : (((next : Nat) : Int) == (i : Int)) = false := beq_false_of_ne k1
     have hR : R = false := by rw [HRR.out, k1', Bool.false_and]
     subst hR
     go_wp2
     go_ret
     exact ⟨rfl, HB9.out⟩
end Go.Proofs.Ytchbbaehdcmcfaa
