import Derived.Test.YtannchfoldnhcaaHkpad
import Derived.Test.YtannchfoldnhcaaHkpac
import Derived.Test.YtannchfoldnhcaaHkpae
import Derived.Deep.RegionHeld3
import Derived.Deep.Quiet
import Derived.Test.YtannchfoldnhcaaHkpam
import Derived.Laws.StructEq
import Derived.Test.YtannchfoldnhcaaHkpal
set_option linter.unusedVariables false
set_option linter.unusedSimpArgs false
/- Package code: what Good's check holds; slot, first, take, named. -/
namespace Go.Proofs.Ytannchfoldnhcaa
open Go.RowKit
set_option linter.unusedVariables false

/-- A step in memory. -/
def insCells (x : InsM) : List Value := [.string x.op, .int .i64 x.a, .int .i64 x.b, .int .i64 x.c, .int .i64 x.n, .string x.s]
def insVal (x : InsM) : Value := .agg #[.string x.op, .int .i64 x.a, .int .i64 x.b, .int .i64 x.c, .int .i64 x.n, .string x.s]
structure InsIn (x : InsM) : Prop where
  a : I64 x.a
  b : I64 x.b
  c : I64 x.c
  n : I64 x.n
  s : x.s.size ≤ BIG
theorem insCells_len (x : InsM) : (insCells x).length = 6 := rfl
/-- Two steps are the same. -/
theorem eq_ins (op op' s s' : ByteArray) (a b c n a' b' c' n' : Int) (w : World) :
    (Op.equalIn 10000 36 (.agg #[.string op, .int .i64 a, .int .i64 b, .int .i64 c, .int .i64 n, .string s]) (.agg #[.string op', .int .i64 a', .int .i64 b', .int .i64 c', .int .i64 n', .string s'])).run Try.prog w =
      .ok ((op.toList == op'.toList) && ((a == a') && ((b == b') && ((c == c') && ((n == n') && (s.toList == s'.toList)))))) w := by
  have u1 := Try.underlying3
  have a1 := Try.isAgg3
  have z1 := Try.sizeOf3
  have u2 := Try.underlying2
  have a2 := Try.isAgg2
  have z2 := Try.sizeOf2
  have u9 := Try.underlying9
  have a9 := Try.isAgg9
  have z9 := Try.sizeOf9
  have hS : Try.prog.underlying 36 = some (.struct (Try.prog.fieldsOf 36)) := by kernel_rfl
  have hp : Try.prog.stoodInHeld 36 = false := by kernel_rfl
  rw [show (10000 : Nat) = 9999 + 1 from rfl, run_equalIn_agg w 9999 36 _ _ hS hp]
  simp only [Program.fieldsOf, Try.underlying36]
  go_simp
  by_cases h1 : op.toList = op'.toList
  · by_cases h2 : a = a'
    · by_cases h3 : b = b'
      · by_cases h4 : c = c'
        · by_cases h5 : n = n'
          · by_cases h6 : s.toList = s'.toList <;> simp [h1, h2, h3, h4, h5, h6]
          · simp [h1, h2, h3, h4, h5]
        · simp [h1, h2, h3, h4]
      · simp [h1, h2, h3]
    · simp [h1, h2]
  · simp [h1]
/-- The check on its way: as many registers have somebody, these slots were met. -/
structure CkS (w : World) (kb rb sl next : Nat) (seen : List Int) : Prop where
  box : Box w kb [.int .i64 next, .int .i64 (seen.length : Nat), .slice (some ⟨rb, 0, none⟩) sl sl]
  row : ∀ j : Nat, j < sl → w.cell? ⟨rb, j, none⟩ = some (.bool (seen.contains (j : Int)))
  fz : ∀ j, w.frozen? ⟨rb, j, none⟩ = false
  ne : kb ≠ rb
  lt : rb < w.heap.size
  rng : ∀ v ∈ seen, 0 ≤ v ∧ v < (sl : Int)
  small : sl ≤ 2000 ∧ next ≤ 100000 ∧ seen.length ≤ 100000
section
variable {w : World} {kb rb sl next : Nat} {seen : List Int}
theorem Box.three {w : World} {b : Nat} {v0 v1 v2 : Value} (h : Box w b [v0, v1, v2]) : w.cell? ⟨b, 0, none⟩ = some v0 ∧ w.cell? ⟨b, 1, none⟩ = some v1 ∧ w.cell? ⟨b, 2, none⟩ = some v2 ∧ ∀ j, w.frozen? ⟨b, j, none⟩ = false :=
  ⟨h.cells 0 _ rfl, h.cells 1 _ rfl, h.cells 2 _ rfl, h.fz⟩
theorem CkS.ext {w' : World} (h : CkS w kb rb sl next seen) (hb : Below w.heap.size w w') : CkS w' kb rb sl next seen :=
  ⟨h.box.ext hb, fun j hj => cell_later hb (h.row j hj), fun j => (hb.frozen (p := ⟨rb, j, none⟩) h.lt).trans (h.fz j), h.ne, Nat.lt_of_lt_of_le h.lt hb.size, h.rng, h.small⟩
theorem slot_at (h : CkS w kb rb sl next seen) {b : Int} (hb : I64 b) : Calls Try.prog 61 #[.pointer (some ⟨kb, 0, none⟩), .int .i64 b] w fun e w' => e = .returned (.bool (decide (0 ≤ b) && decide (b < (sl : Int)))) ∧ w = w' := by
  obtain ⟨c0, c1, c2, _⟩ := h.box.three
  have hs := h.small.1
  unfold I64 at hb
  clear h
  by_cases g0 : 0 ≤ b
  · by_cases g1 : b < (sl : Int)
    · have hr : (decide (0 ≤ b) && decide (b < (sl : Int))) = true := by simp [g0, g1]
      rw [hr]
      go_enter Try.func61, Try.ntmps61
      go_wp2
      go_ret
      exact ⟨rfl, rfl⟩
    · have hr : (decide (0 ≤ b) && decide (b < (sl : Int))) = false := by simp [g1]
      have g1' : decide (b < (sl : Int)) = false := by simpa using g1
      rw [hr]
      go_enter Try.func61, Try.ntmps61
      go_wp2
      go_ret
      exact ⟨rfl, rfl⟩
  · have hr : (decide (0 ≤ b) && decide (b < (sl : Int))) = false := by simp [g0]
    rw [hr]
    go_enter Try.func61, Try.ntmps61
    go_wp2
    go_ret
    exact ⟨rfl, rfl⟩
theorem take_at (h : CkS w kb rb sl next seen) (hn : next ≤ 50000) {b : Int} (hb : I64 b) : Calls Try.prog 63 #[.pointer (some ⟨kb, 0, none⟩), .int .i64 b] w fun e w' => e = .returned (.bool (decide (1 ≤ b) && decide (b ≤ 8))) ∧ Touch [kb] w w' ∧ ((decide (1 ≤ b) && decide (b ≤ 8)) = true → CkS w' kb rb sl (next + b.toNat) seen) := by
  have H := Lib.hid h
  obtain ⟨c0, c1, c2, cf⟩ := h.box.three
  clear h
  have HB := Lib.hid hb
  unfold I64 at hb
  by_cases g0 : 1 ≤ b
  · by_cases g1 : b ≤ 8
    · have hr : (decide (1 ≤ b) && decide (b ≤ 8)) = true := by simp [g0, g1]
      rw [hr]
      obtain ⟨z, hz⟩ : ∃ z, next + b.toNat = z := ⟨_, rfl⟩
      have hw : IntKind.i64.wrap ((next : Int) + b) = ((z : Nat) : Int) := by rw [IntKind.wrap_i64]; omega
      have HZ := Lib.hid hz
      have hz2 : z ≤ 100000 := by omega
      rw [hz]
      clear hz hb hr
      go_enter Try.func63, Try.ntmps63
      go_wp2
      go_ret
      refine ⟨rfl, touch_one _ _ _ _, fun _ => ?_⟩
      have hx := H.out
      exact ⟨hx.box.set (k := 0) (u := .int .i64 (z : Nat)) (by simp), fun j hj => by rw [World.cell?_setCell_other]; exact hx.row j hj; intro e; injection e with e; exact hx.ne e, fun j => by rw [World.frozen?_setCell]; exact hx.fz j, hx.ne, by have := hx.lt; simpa [World.setCell] using this, hx.rng, hx.small.1, hz2, hx.small.2.2⟩
    · have hr : (decide (1 ≤ b) && decide (b ≤ 8)) = false := by simp [g1]
      have g1' : decide (b ≤ 8) = false := by simpa using g1
      rw [hr]
      clear hb hr
      go_enter Try.func63, Try.ntmps63
      go_wp2
      go_ret
      first | exact ⟨rfl, touch_one _ _ _ _, fun e => by cases e⟩ | exact ⟨rfl, touch_one _ _ _ _⟩
  · have hr : (decide (1 ≤ b) && decide (b ≤ 8)) = false := by simp [g0]
    have g0' : decide (1 ≤ b) = false := by simpa using g0
    rw [hr]
    clear hb hr
    go_enter Try.func63, Try.ntmps63
    go_wp2
    go_ret
    first | exact ⟨rfl, touch_one _ _ _ _, fun e => by cases e⟩ | exact ⟨rfl, touch_one _ _ _ _⟩
theorem named_at (x : InsM) (hs : x.s.size ≤ BIG) (w : World) : Calls Try.prog 62 #[insVal x] w fun e w' => e = .returned (.bool (nmOk x.s)) ∧ Below w.heap.size w w' := by
  obtain ⟨op, a, b, c, n, s⟩ := x
  obtain ⟨w1, e1, B1, z1, X1⟩ := box_new w #[.string op, .int .i64 a, .int .i64 b, .int .i64 c, .int .i64 n, .string s] 36
  have x5 := X1.cells 5 _ rfl
  have HB := Lib.hid B1
  have HE := Lib.hid e1
  have HS := Lib.hid hs
  unfold insVal
  clear B1 z1 e1 X1 hs
  rw [← nm_good]
  go_enter Try.func62, Try.ntmps62
  go_upto_region 1 with fail
  (try rw [HE.out])
  (go_wp2_with fail; go_fit (atom_at _ s); rintro e w2 ⟨rfl, b2⟩)
  have C := Good_at (atomT s) w2 _ (leaf_tm w2 i64_2 i64_0 HS.out)
  have HB2 := Lib.hid (Ext.trans' HB.out b2)
  clear b2 x5
  (go_wp2_with fail; go_fit (C); rintro e w3 ⟨rfl, b3⟩)
  have HB3 := Lib.hid (Ext.trans' HB2.out b3)
  clear b3 C
  go_wp2
  go_ret
  exact ⟨rfl, HB3.out⟩
end
end Go.Proofs.Ytannchfoldnhcaa
/- Package code: Good's check of a step. -/
namespace Go.Proofs.Ytannchfoldnhcaa
open Go.RowKit
set_option linter.unusedVariables false

section
variable {w : World} {kb rb sl next : Nat} {seen : List Int}
theorem contains_app (l : List Int) (v u : Int) : (l ++ [v]).contains u = (l.contains u || u == v) := by
  rw [Bool.eq_iff_iff]
  simp
/-- What first leaves. -/
def firstB (sl : Nat) (seen : List Int) (b : Int) : Bool := decide (0 ≤ b) && decide (b < (sl : Int)) && !seen.contains b
theorem first_at (h : CkS w kb rb sl next seen) (hl : seen.length ≤ 50000) {b : Int} (hb : I64 b) : Calls Try.prog 60 #[.pointer (some ⟨kb, 0, none⟩), .int .i64 b] w fun e w' => e = .returned (.bool (firstB sl seen b)) ∧ Touch [kb, rb] w w' ∧ (firstB sl seen b = true → CkS w' kb rb sl next (seen ++ [b])) := by
  have H := Lib.hid h
  have C := slot_at h hb
  obtain ⟨c0, c1, c2, cf⟩ := h.box.three
  by_cases g : 0 ≤ b ∧ b < (sl : Int)
  · obtain ⟨j, rfl⟩ : ∃ j : Nat, b = (j : Int) := ⟨b.toNat, by omega⟩
    have g1 : j < sl := by omega
    have hr1 : (decide (0 ≤ (j : Int)) && decide ((j : Int) < (sl : Int))) = true := by simp [g1]
    rw [hr1] at C
    have hrow := h.row j g1
    have hfz := h.fz j
    have hs := h.small.1
    have hne := h.ne
    have hFB : firstB sl seen (j : Int) = !seen.contains (j : Int) := by unfold firstB; rw [hr1, Bool.true_and]
    rw [hFB]
    obtain ⟨z, hz⟩ : ∃ z, seen.contains (j : Int) = z := ⟨_, rfl⟩
    rw [hz] at hrow ⊢
    have HZ := Lib.hid hz
    clear h hr1 hFB hz g hb
    cases z
    · have hw : IntKind.i64.wrap (((seen.length : Nat) : Int) + 1) = ((seen ++ [(j : Int)]).length : Nat) := by rw [IntKind.wrap_i64, List.length_append]; simp; omega
      obtain ⟨n2, hn2⟩ : ∃ n2 : Nat, (seen ++ [(j : Int)]).length = n2 := ⟨_, rfl⟩
      have HN := Lib.hid hn2
      rw [hn2] at hw
      obtain ⟨n1, hn1⟩ : ∃ n1 : Nat, seen.length = n1 := ⟨_, rfl⟩
      have HN1 := Lib.hid hn1
      rw [hn1] at hw c1 hl
      clear hn2 hn1
      have d0 : (w.setCell ⟨rb, j, none⟩ (.bool true)).cell? ⟨kb, 0, none⟩ = some (.int .i64 next) := by rw [World.cell?_setCell_other]; exact c0; intro e; injection e with e; exact hne e.symm
      have d1 : (w.setCell ⟨rb, j, none⟩ (.bool true)).cell? ⟨kb, 1, none⟩ = some (.int .i64 (n1 : Nat)) := by rw [World.cell?_setCell_other]; exact c1; intro e; injection e with e; exact hne e.symm
      have d2 : (w.setCell ⟨rb, j, none⟩ (.bool true)).cell? ⟨kb, 2, none⟩ = some (.slice (some ⟨rb, 0, none⟩) sl sl) := by rw [World.cell?_setCell_other]; exact c2; intro e; injection e with e; exact hne e.symm
      have HL := Lib.hid hl
      clear hl
      go_enter Try.func60, Try.ntmps60
      (go_wp2_with fail; go_fit (C); rintro e w' ⟨rfl, rfl⟩)
      go_wp2
      go_ret
      have hx := H.out
      refine ⟨rfl, (touch_one w rb j _).sub (by simp) |>.trans ((touch_one _ kb 1 _).sub (F' := [kb, rb]) (by simp)) (fun k hk => Or.inl hk), ?_⟩
      have hbx : Box (w.setCell ⟨rb, j, none⟩ (.bool true)) kb _ := hx.box.far hx.ne
      have hbx2 := hbx.set (k := 1) (u := .int .i64 (n2 : Nat)) (by simp)
      rw [← HN.out] at hbx2 ⊢
      refine fun _ => ⟨hbx2, fun i hi => ?_, fun i => by rw [World.frozen?_setCell, World.frozen?_setCell]; exact hx.fz i, hx.ne, by have := hx.lt; simpa [World.setCell] using this, fun v hv => ?_, hx.small.1, hx.small.2.1, by rw [List.length_append, HN1.out]; have := HL.out; simp; omega⟩
      · rw [World.cell?_setCell_other _ _ _ _ (by intro e; injection e with e; exact hx.ne e), contains_app]
        by_cases hij : i = j
        · subst hij
          rw [show (((i : Nat) : Int) == ((i : Nat) : Int)) = true by simp, Bool.or_true]
          exact css hrow
        · rw [World.cell?_setCell_other _ _ _ _ (by intro e; injection e with _ e; exact hij e.symm), show (((i : Nat) : Int) == ((j : Nat) : Int)) = false by simp; omega, Bool.or_false]
          exact hx.row i hi
      · rcases List.mem_append.1 hv with hv | hv
        · exact hx.rng v hv
        · simp at hv; omega
    · go_enter Try.func60, Try.ntmps60
      (go_wp2_with fail; go_fit (C); rintro e w' ⟨rfl, rfl⟩)
      go_wp2
      go_ret
      first | exact ⟨rfl, Touch.refl' _ _, fun e => by cases e⟩ | exact ⟨rfl, Touch.refl' _ _⟩ | exact Touch.refl' _ _
  · have hr1 : (decide (0 ≤ b) && decide (b < (sl : Int))) = false := by
      rw [Bool.eq_false_iff]
      intro e
      simp only [Bool.and_eq_true, decide_eq_true_eq] at e
      exact g e
    have hFB : firstB sl seen b = false := by unfold firstB; rw [hr1, Bool.false_and]
    rw [hr1] at C
    rw [hFB]
    clear h hr1 hFB
    go_enter Try.func60, Try.ntmps60
    (go_wp2_with fail; go_fit (C); rintro e w' ⟨rfl, rfl⟩)
    go_wp2
    go_ret
    first | exact ⟨rfl, Touch.refl' _ _, fun e => by cases e⟩ | exact ⟨rfl, Touch.refl' _ _⟩ | exact Touch.refl' _ _
end
end Go.Proofs.Ytannchfoldnhcaa
/- Package code: Good's check of a step: step. -/
namespace Go.Proofs.Ytannchfoldnhcaa
open Go.RowKit
set_option linter.unusedVariables false

/-- What step leaves. -/
def StepP (w : World) (kb rb sl next : Nat) (seen : List Int) (x : InsM) (e : Ending) (w' : World) : Prop :=
  e = .returned (.bool (partK sl next seen x)) ∧ Touch [kb, rb] w w' ∧ (partK sl next seen x = true → CkS w' kb rb sl (nextI next x) (metI seen x))
theorem StepP.no {w w' : World} {kb rb sl next : Nat} {seen : List Int} {x : InsM} (h : partK sl next seen x = false) (ht : Touch [kb, rb] w w') : StepP w kb rb sl next seen x (.returned (.bool false)) w' :=
  ⟨by rw [h], ht, fun e => by rw [h] at e; cases e⟩
theorem op_ne {a b : ByteArray} (h : ¬ a = b) : (a.toList == b.toList) = false := by
  rw [Lib.toList_data, Lib.toList_data]
  exact beq_false_of_ne fun e => h (bytes_eq e)
theorem noS_list (s : ByteArray) : (s.toList == (⟨#[]⟩ : ByteArray).toList) = noS s := by
  rw [Lib.toList_data, Lib.toList_data]
  unfold noS
  cases s.data.toList <;> rfl
section
variable {w : World} {kb rb sl next : Nat} {seen : List Int}
theorem step_out (h : CkS w kb rb sl next seen) (x : InsM) (hx : InsIn x) (ha : ¬ x.a < (next : Int)) : Calls Try.prog 37 #[.pointer (some ⟨kb, 0, none⟩), insVal x] w (StepP w kb rb sl next seen x) := by
  have hP : partK sl next seen x = false := by unfold partK; simp [ha]
  obtain ⟨op, a, b, c, n, s⟩ := x
  obtain ⟨w1, e1, B1, z1, X1⟩ := box_new w #[.string op, .int .i64 a, .int .i64 b, .int .i64 c, .int .i64 n, .string s] 36
  obtain ⟨c0, c1, c2, cf⟩ := (h.ext B1).box.three
  have x1 := X1.cells 1 _ rfl
  have HB := Lib.hid B1
  have HE := Lib.hid e1
  have HP := Lib.hid hP
  have ha' : (next : Int) ≤ a := by
    have : ¬ a < (next : Int) := ha
    omega
  unfold insVal
  clear h B1 z1 X1 e1 hP ha
  go_enter Try.func37, Try.ntmps37
  go_upto_region 1 with fail
  (try rw [HE.out])
  go_wp2_with fail
  go_quiet (fail)
  go_wp2
  go_ret
  exact StepP.no HP.out (Touch.of_below (Ext.trans' HB.out (bel_drewN (Below.refl _ _) _)) _)
theorem step_var (h : CkS w kb rb sl next seen) (hl : seen.length ≤ 50000) (x : InsM) (hx : InsIn x) (ha : x.a < (next : Int)) (hop : x.op = opVar) : Calls Try.prog 37 #[.pointer (some ⟨kb, 0, none⟩), insVal x] w (StepP w kb rb sl next seen x) := by
  obtain ⟨op, a, b, c, n, s⟩ := x
  obtain rfl : op = opVar := hop
  have ha : a < (next : Int) := ha
  have hP : partK sl next seen ⟨opVar, a, b, c, n, s⟩ = ((c == 0 && (n == 0 && noS s)) && firstB sl seen b) := by
    unfold partK partI firstB
    rw [if_pos rfl, decide_eq_true ha, Bool.true_and]
    simp only [Bool.and_assoc]
    generalize decide (0 ≤ b) = p1
    generalize decide (b < (sl : Int)) = p2
    generalize (!seen.contains b) = p3
    generalize (c == 0) = p4
    generalize (n == 0) = p5
    generalize noS s = p6
    cases p1 <;> cases p2 <;> cases p3 <;> cases p4 <;> cases p5 <;> cases p6 <;> rfl
  obtain ⟨w1, e1, B1, z1, X1⟩ := box_new w #[.string opVar, .int .i64 a, .int .i64 b, .int .i64 c, .int .i64 n, .string s] 36
  have H1 := h.ext B1
  obtain ⟨c0, c1, c2, cf⟩ := H1.box.three
  have x0 := X1.cells 0 _ rfl
  have x1 := X1.cells 1 _ rfl
  have x2 := X1.cells 2 _ rfl
  have x3 := X1.cells 3 _ rfl
  have x4 := X1.cells 4 _ rfl
  have x5 := X1.cells 5 _ rfl
  have HB := Lib.hid B1
  have HE := Lib.hid e1
  have HP := Lib.hid hP
  have HX := Lib.hid hx
  have HH := Lib.hid h
  have C := fun (wq : World) (hb : Below w1.heap.size w1 wq) => first_at (H1.ext hb) hl (b := b) HX.out.b
  have HC := Lib.hid C
  have heq : ∀ wq, (Op.equalIn 10000 36 (.agg #[.string opVar, .int .i64 a, .int .i64 b, .int .i64 c, .int .i64 n, .string s]) (.agg #[.string opVar, .int .i64 a, .int .i64 b, .int .i64 0, .int .i64 0, .string ⟨#[]⟩])).run Try.prog wq = .ok (c == 0 && (n == 0 && noS s)) wq := fun wq => by
    rw [eq_ins, noS_list]
    simp
  obtain ⟨z, hz⟩ : ∃ z, (c == 0 && (n == 0 && noS s)) = z := ⟨_, rfl⟩
  rw [hz] at heq hP
  have HZ := Lib.hid hz
  have HPZ := Lib.hid hP
  unfold insVal
  clear h B1 z1 X1 e1 hP hz hx H1 C
  unfold opVar at heq x0 HE ⊢
  go_enter Try.func37, Try.ntmps37
  go_upto_region 1 with fail
  (try rw [HE.out])
  go_wp2_with fail
  go_quiet (fail)
  cases z
  · go_wp2
    go_ret
    exact StepP.no (HPZ.out.trans rfl) (Touch.of_below (Ext.trans' HB.out (bel_drewN (Below.refl _ _) _)) _)
  · (go_wp2_with fail; go_fit (HC.out _ (bel_drewN (Below.refl _ _) _)); rintro e w' ⟨rfl, t2, k2⟩)
    have HT := Lib.hid (And.intro t2 k2)
    clear t2 k2
    go_wp2
    go_ret
    have hq : partK sl next seen ⟨opVar, a, b, c, n, s⟩ = firstB sl seen b := HPZ.out.trans (Bool.true_and _)
    refine ⟨congrArg (fun v => Ending.returned (.bool v)) hq.symm, ?_, fun e => ?_⟩
    · exact ((Touch.of_below (Ext.trans' HB.out (bel_drewN (Below.refl _ _) _)) _).trans HT.out.1 (fun k hk => Or.inl hk))
    · exact HT.out.2 (hq.symm.trans e)
end
end Go.Proofs.Ytannchfoldnhcaa
/- Package code: Good's check of a step: val, int, atom, comp, and none of these. -/
namespace Go.Proofs.Ytannchfoldnhcaa
open Go.RowKit
set_option linter.unusedVariables false

section
variable {w : World} {kb rb sl next : Nat} {seen : List Int}
theorem step_int (h : CkS w kb rb sl next seen) (hl : seen.length ≤ 50000) (hn5 : next ≤ 50000) (x : InsM) (hx : InsIn x) (ha : x.a < (next : Int)) (hop : x.op = opInt) : Calls Try.prog 37 #[.pointer (some ⟨kb, 0, none⟩), insVal x] w (StepP w kb rb sl next seen x) := by
  obtain ⟨op, a, b, c, n, s⟩ := x
  obtain rfl : op = opInt := hop
  have ha : a < (next : Int) := ha
  have hP : partK sl next seen ⟨opInt, a, b, c, n, s⟩ = (b == 0 && (c == 0 && noS s)) := by
    unfold partK partI
    rw [if_neg (show ¬ opInt = opVar by decide), if_neg (show ¬ opInt = opVal by decide), if_pos rfl, decide_eq_true ha, Bool.true_and, Bool.and_assoc]
  obtain ⟨w1, e1, B1, z1, X1⟩ := box_new w #[.string opInt, .int .i64 a, .int .i64 b, .int .i64 c, .int .i64 n, .string s] 36
  have H1 := h.ext B1
  obtain ⟨c0, c1, c2, cf⟩ := H1.box.three
  have x0 := X1.cells 0 _ rfl
  have x1 := X1.cells 1 _ rfl
  have x2 := X1.cells 2 _ rfl
  have x3 := X1.cells 3 _ rfl
  have x4 := X1.cells 4 _ rfl
  have x5 := X1.cells 5 _ rfl
  have HB := Lib.hid B1
  have HE := Lib.hid e1
  have HX := Lib.hid hx
  have HH1 := Lib.hid H1
  have HN5 := Lib.hid hn5
  have HTB := Lib.hid (fun (wq : World) (hb : Below w1.heap.size w1 wq) => Touch.of_below (F := [kb, rb]) (Ext.trans' HB.out hb))
  have heq : ∀ wq, (Op.equalIn 10000 36 (.agg #[.string opInt, .int .i64 a, .int .i64 b, .int .i64 c, .int .i64 n, .string s]) (.agg #[.string opInt, .int .i64 a, .int .i64 0, .int .i64 0, .int .i64 n, .string ⟨#[]⟩])).run Try.prog wq = .ok (b == 0 && (c == 0 && noS s)) wq := fun wq => by
    rw [eq_ins]
    first | (rw [noS_list]; simp) | simp
  obtain ⟨z, hz⟩ : ∃ z, (b == 0 && (c == 0 && noS s)) = z := ⟨_, rfl⟩
  rw [hz] at heq hP
  have HPZ := Lib.hid hP
  unfold insVal
  clear h B1 z1 X1 e1 hP hz hx H1
  unfold opInt at heq x0 HE ⊢
  go_enter Try.func37, Try.ntmps37
  go_upto_region 1 with fail
  (try rw [HE.out])
  go_wp2_with fail
  go_quiet (fail)
  have BQ := Lib.hid (bel_drewN (Below.refl w1.heap.size w1) nq)
  go_wp2
  go_ret
  cases z
  · exact StepP.no HPZ.out (HTB.out _ BQ.out)
  · refine ⟨congrArg (fun v => Ending.returned (.bool v)) HPZ.out.symm, HTB.out _ BQ.out, fun _ => ?_⟩
    exact HH1.out.ext BQ.out
theorem step_atom (h : CkS w kb rb sl next seen) (hl : seen.length ≤ 50000) (hn5 : next ≤ 50000) (x : InsM) (hx : InsIn x) (ha : x.a < (next : Int)) (hop : x.op = opAtom) : Calls Try.prog 37 #[.pointer (some ⟨kb, 0, none⟩), insVal x] w (StepP w kb rb sl next seen x) := by
  obtain ⟨op, a, b, c, n, s⟩ := x
  obtain rfl : op = opAtom := hop
  have ha : a < (next : Int) := ha
  have hP : partK sl next seen ⟨opAtom, a, b, c, n, s⟩ = ((b == 0 && (c == 0 && n == 0)) && nmOk s) := by
    unfold partK partI
    rw [if_neg (show ¬ opAtom = opVar by decide), if_neg (show ¬ opAtom = opVal by decide), if_neg (show ¬ opAtom = opInt by decide), if_pos rfl, decide_eq_true ha, Bool.true_and]
    simp only [Bool.and_assoc]
  obtain ⟨w1, e1, B1, z1, X1⟩ := box_new w #[.string opAtom, .int .i64 a, .int .i64 b, .int .i64 c, .int .i64 n, .string s] 36
  have H1 := h.ext B1
  obtain ⟨c0, c1, c2, cf⟩ := H1.box.three
  have x0 := X1.cells 0 _ rfl
  have x1 := X1.cells 1 _ rfl
  have x2 := X1.cells 2 _ rfl
  have x3 := X1.cells 3 _ rfl
  have x4 := X1.cells 4 _ rfl
  have x5 := X1.cells 5 _ rfl
  have HB := Lib.hid B1
  have HE := Lib.hid e1
  have HX := Lib.hid hx
  have HH1 := Lib.hid H1
  have HN5 := Lib.hid hn5
  have HTB := Lib.hid (fun (wq : World) (hb : Below w1.heap.size w1 wq) => Touch.of_below (F := [kb, rb]) (Ext.trans' HB.out hb))
  have heq : ∀ wq, (Op.equalIn 10000 36 (.agg #[.string opAtom, .int .i64 a, .int .i64 b, .int .i64 c, .int .i64 n, .string s]) (.agg #[.string opAtom, .int .i64 a, .int .i64 0, .int .i64 0, .int .i64 0, .string s])).run Try.prog wq = .ok (b == 0 && (c == 0 && n == 0)) wq := fun wq => by
    rw [eq_ins]
    first | (rw [noS_list]; simp) | simp
  obtain ⟨z, hz⟩ : ∃ z, (b == 0 && (c == 0 && n == 0)) = z := ⟨_, rfl⟩
  rw [hz] at heq hP
  have HPZ := Lib.hid hP
  have HC := Lib.hid (fun (wq : World) => named_at ⟨opAtom, a, b, c, n, s⟩ HX.out.s wq)
  unfold insVal at HC
  unfold insVal
  clear h B1 z1 X1 e1 hP hz hx H1
  obtain ⟨y, hy⟩ : ∃ y, nmOk s = y := ⟨_, rfl⟩
  have HY := Lib.hid hy
  have HCY := Lib.hid (fun (wq : World) => by have := HC.out wq; rw [hy] at this; exact this : ∀ wq : World, Calls Try.prog 62 #[.agg #[.string opAtom, .int .i64 a, .int .i64 b, .int .i64 c, .int .i64 n, .string s]] wq fun e w' => e = .returned (.bool y) ∧ Below wq.heap.size wq w')
  clear HC hy
  unfold opAtom at heq x0 HE HCY ⊢
  go_enter Try.func37, Try.ntmps37
  go_upto_region 1 with fail
  (try rw [HE.out])
  go_wp2_with fail
  go_quiet (fail)
  have BQ := Lib.hid (bel_drewN (Below.refl w1.heap.size w1) nq)
  cases z
  · go_wp2
    go_ret
    exact StepP.no (HPZ.out.trans rfl) (HTB.out _ BQ.out)
  · (go_wp2_with fail; go_fit (HCY.out _); rintro e w' ⟨rfl, b3⟩)
    have HB3 := Lib.hid (Ext.trans' BQ.out b3)
    clear b3
    go_wp2
    go_ret
    cases y
    · exact StepP.no (HPZ.out.trans (by rw [HY.out]; rfl)) (HTB.out _ HB3.out)
    · have hq : partK sl next seen ⟨opAtom, a, b, c, n, s⟩ = true := HPZ.out.trans (by rw [HY.out]; rfl)
      exact ⟨congrArg (fun v => Ending.returned (.bool v)) hq.symm, HTB.out _ HB3.out, fun _ => HH1.out.ext HB3.out⟩
theorem step_none (h : CkS w kb rb sl next seen) (x : InsM) (hx : InsIn x) (ha : x.a < (next : Int)) (h1 : ¬ x.op = opVar) (h2 : ¬ x.op = opVal) (h3 : ¬ x.op = opInt) (h4 : ¬ x.op = opAtom) (h5 : ¬ x.op = opComp) : Calls Try.prog 37 #[.pointer (some ⟨kb, 0, none⟩), insVal x] w (StepP w kb rb sl next seen x) := by
  have hP : partK sl next seen x = false := by
    unfold partK partI
    rw [if_neg h1, if_neg h2, if_neg h3, if_neg h4, if_neg h5, Bool.and_false]
  obtain ⟨op, a, b, c, n, s⟩ := x
  have ha : a < (next : Int) := ha
  have g1 := op_ne (show ¬ op = opVar from h1)
  have g2 := op_ne (show ¬ op = opVal from h2)
  have g3 := op_ne (show ¬ op = opInt from h3)
  have g4 := op_ne (show ¬ op = opAtom from h4)
  have g5 := op_ne (show ¬ op = opComp from h5)
  have k1 : (op.toList == [118, 97, 114]) = false := by rw [← g1, show opVar.toList = _ from (Lib.toList_data _).trans rfl]; rfl
  have k2 : (op.toList == [118, 97, 108]) = false := by rw [← g2, show opVal.toList = _ from (Lib.toList_data _).trans rfl]; rfl
  have k3 : (op.toList == [105, 110, 116]) = false := by rw [← g3, show opInt.toList = _ from (Lib.toList_data _).trans rfl]; rfl
  have k4 : (op.toList == [97, 116, 111, 109]) = false := by rw [← g4, show opAtom.toList = _ from (Lib.toList_data _).trans rfl]; rfl
  have k5 : (op.toList == [99, 111, 109, 112]) = false := by rw [← g5, show opComp.toList = _ from (Lib.toList_data _).trans rfl]; rfl
  obtain ⟨w1, e1, B1, z1, X1⟩ := box_new w #[.string op, .int .i64 a, .int .i64 b, .int .i64 c, .int .i64 n, .string s] 36
  obtain ⟨c0, c1, c2, cf⟩ := (h.ext B1).box.three
  have x0 := X1.cells 0 _ rfl
  have x1 := X1.cells 1 _ rfl
  have HB := Lib.hid B1
  have HE := Lib.hid e1
  have HP := Lib.hid hP
  unfold insVal
  clear h B1 z1 X1 e1 hP h1 h2 h3 h4 h5 g1 g2 g3 g4 g5
  go_enter Try.func37, Try.ntmps37
  go_upto_region 1 with fail
  (try rw [HE.out])
  go_wp2_with fail
  go_quiet (fail)
  have BQ := Lib.hid (bel_drewN (Below.refl w1.heap.size w1) nq)
  go_wp2
  go_ret
  exact StepP.no HP.out (Touch.of_below (Ext.trans' HB.out BQ.out) _)
theorem not_seen (h : CkS w kb rb sl next seen) {b : Int} (hb : ¬ (0 ≤ b ∧ b < (sl : Int))) : seen.contains b = false := by
  cases hc : seen.contains b
  · rfl
  · exact absurd (h.rng b (by simpa using hc)) hb
theorem step_val (h : CkS w kb rb sl next seen) (hl : seen.length ≤ 50000) (hn5 : next ≤ 50000) (x : InsM) (hx : InsIn x) (ha : x.a < (next : Int)) (hop : x.op = opVal) : Calls Try.prog 37 #[.pointer (some ⟨kb, 0, none⟩), insVal x] w (StepP w kb rb sl next seen x) := by
  obtain ⟨op, a, b, c, n, s⟩ := x
  obtain rfl : op = opVal := hop
  have ha : a < (next : Int) := ha
  have hP : partK sl next seen ⟨opVal, a, b, c, n, s⟩ = ((c == 0 && (n == 0 && noS s)) && seen.contains b) := by
    unfold partK partI
    rw [if_neg (show ¬ opVal = opVar by decide), if_pos rfl, decide_eq_true ha, Bool.true_and]
    generalize seen.contains b = p1
    generalize (c == 0) = p4
    generalize (n == 0) = p5
    generalize noS s = p6
    cases p1 <;> cases p4 <;> cases p5 <;> cases p6 <;> rfl
  obtain ⟨w1, e1, B1, z1, X1⟩ := box_new w #[.string opVal, .int .i64 a, .int .i64 b, .int .i64 c, .int .i64 n, .string s] 36
  have H1 := h.ext B1
  obtain ⟨c0, c1, c2, cf⟩ := H1.box.three
  have x0 := X1.cells 0 _ rfl
  have x1 := X1.cells 1 _ rfl
  have x2 := X1.cells 2 _ rfl
  have x3 := X1.cells 3 _ rfl
  have x4 := X1.cells 4 _ rfl
  have x5 := X1.cells 5 _ rfl
  have HB := Lib.hid B1
  have HE := Lib.hid e1
  have HX := Lib.hid hx
  have HH1 := Lib.hid H1
  have HN5 := Lib.hid hn5
  have HTB := Lib.hid (fun (wq : World) (hb : Below w1.heap.size w1 wq) => Touch.of_below (F := [kb, rb]) (Ext.trans' HB.out hb))
  have heq : ∀ wq, (Op.equalIn 10000 36 (.agg #[.string opVal, .int .i64 a, .int .i64 b, .int .i64 c, .int .i64 n, .string s]) (.agg #[.string opVal, .int .i64 a, .int .i64 b, .int .i64 0, .int .i64 0, .string ⟨#[]⟩])).run Try.prog wq = .ok (c == 0 && (n == 0 && noS s)) wq := fun wq => by
    rw [eq_ins]
    first | (rw [noS_list]; simp) | simp
  obtain ⟨z, hz⟩ : ∃ z, (c == 0 && (n == 0 && noS s)) = z := ⟨_, rfl⟩
  rw [hz] at heq hP
  have HPZ := Lib.hid hP
  have HSL := Lib.hid (fun (wq : World) (hb : Below w1.heap.size w1 wq) => slot_at (HH1.out.ext hb) HX.out.b)
  have HNS := Lib.hid (fun hb => not_seen HH1.out (b := b) hb)
  have hrow := HH1.out.row
  unfold insVal
  clear h B1 z1 X1 e1 hP hz hx H1
  by_cases g : 0 ≤ b ∧ b < (sl : Int)
  · obtain ⟨j, rfl⟩ : ∃ j : Nat, b = (j : Int) := ⟨b.toNat, by omega⟩
    have g1 : j < sl := by omega
    have hrow := hrow j g1
    have hs2 := HH1.out.small.1
    have hr1 : (decide (0 ≤ (j : Int)) && decide ((j : Int) < (sl : Int))) = true := by simp [g1]
    rw [hr1] at HSL
    obtain ⟨y, hy⟩ : ∃ y, seen.contains (j : Int) = y := ⟨_, rfl⟩
    rw [hy] at hrow
    have HY := Lib.hid hy
    clear hr1 hy HNS g
    unfold opVal at heq x0 HE ⊢
    go_enter Try.func37, Try.ntmps37
    go_upto_region 1 with fail
    (try rw [HE.out])
    go_wp2_with fail
    go_quiet (fail)
    cases z
    · go_wp2_with fail
      (refine wp_region_class (fun w' => ((w'.cell? ⟨w.heap.size, 0, none⟩ = some (.string ⟨#[118, 97, 108]⟩) ∧ w'.cell? ⟨w.heap.size, 1, none⟩ = some (.int .i64 a) ∧ w'.cell? ⟨w.heap.size, 2, none⟩ = some (.int .i64 (j : Int)) ∧ w'.cell? ⟨w.heap.size, 3, none⟩ = some (.int .i64 c) ∧ w'.cell? ⟨w.heap.size, 4, none⟩ = some (.int .i64 n) ∧ w'.cell? ⟨w.heap.size, 5, none⟩ = some (.string s)) ∧ w'.cell? ⟨kb, 2, none⟩ = some (.slice (some ⟨rb, 0, none⟩) sl sl) ∧ w'.cell? ⟨rb, j, none⟩ = some (.bool y)) ∧ Below w1.heap.size w1 w') (by kernel_rfl) (by kernel_rfl) (⟨⟨⟨x0, x1, x2, x3, x4, x5⟩, c2, hrow⟩, (bel_drewN (Below.refl _ _) _).drew⟩) ?_; (repeat (first | go_big_quiet_skip | (go_big_quiet_want; refine quiet_of ?_; apply Exists.intro; refine ⟨fun wq hq => ?_, ?_⟩; (focus ((try dsimp only at hq); go_simp; (first | done | with_reducible rfl | ((go_at_call 61; refine (HSL.out wq hq.2).mono ?_; rintro e w6 ⟨rfl, rfl⟩; exact ⟨rfl, hq⟩)) | fail))); try simp only [Act.put, List.setIfInBounds_toArray, List.set_cons_zero, List.set_cons_succ]; go_big_quiet_on) | fail)); refine wpQuiet_nil ?_; intro wz hz)
      go_wp2
      go_ret
      exact StepP.no (HPZ.out.trans rfl) (HTB.out _ hz.2)
    · go_wp2_with fail
      (refine wp_region_class (fun w' => ((w'.cell? ⟨w.heap.size, 0, none⟩ = some (.string ⟨#[118, 97, 108]⟩) ∧ w'.cell? ⟨w.heap.size, 1, none⟩ = some (.int .i64 a) ∧ w'.cell? ⟨w.heap.size, 2, none⟩ = some (.int .i64 (j : Int)) ∧ w'.cell? ⟨w.heap.size, 3, none⟩ = some (.int .i64 c) ∧ w'.cell? ⟨w.heap.size, 4, none⟩ = some (.int .i64 n) ∧ w'.cell? ⟨w.heap.size, 5, none⟩ = some (.string s)) ∧ w'.cell? ⟨kb, 2, none⟩ = some (.slice (some ⟨rb, 0, none⟩) sl sl) ∧ w'.cell? ⟨rb, j, none⟩ = some (.bool y)) ∧ Below w1.heap.size w1 w') (by kernel_rfl) (by kernel_rfl) (⟨⟨⟨x0, x1, x2, x3, x4, x5⟩, c2, hrow⟩, (bel_drewN (Below.refl _ _) _).drew⟩) ?_; (repeat (first | go_big_quiet_skip | (go_big_quiet_want; refine quiet_of ?_; apply Exists.intro; refine ⟨fun wq hq => ?_, ?_⟩; (focus ((try dsimp only at hq); go_simp; (first | done | with_reducible rfl | ((go_at_call 61; refine (HSL.out wq hq.2).mono ?_; rintro e w6 ⟨rfl, rfl⟩; exact ⟨rfl, hq⟩)) | fail))); try simp only [Act.put, List.setIfInBounds_toArray, List.set_cons_zero, List.set_cons_succ]; go_big_quiet_on) | fail)); refine wpQuiet_nil ?_; intro wz hz)
      go_wp2
      go_ret
      cases y
      · exact StepP.no (HPZ.out.trans (by rw [HY.out]; rfl)) (HTB.out _ hz.2)
      · have hq : partK sl next seen ⟨opVal, a, (j : Int), c, n, s⟩ = true := HPZ.out.trans (by rw [HY.out]; rfl)
        exact ⟨congrArg (fun v => Ending.returned (.bool v)) hq.symm, HTB.out _ hz.2, fun _ => HH1.out.ext hz.2⟩
  · have hns := HNS.out g
    have hr1 : (decide (0 ≤ b) && decide (b < (sl : Int))) = false := by
      rw [Bool.eq_false_iff]
      intro e
      simp only [Bool.and_eq_true, decide_eq_true_eq] at e
      exact g e
    rw [hr1] at HSL
    have HNO := Lib.hid (show partK sl next seen ⟨opVal, a, b, c, n, s⟩ = false from HPZ.out.trans (by rw [hns, Bool.and_false]))
    clear hr1 hns HNS g hrow
    unfold opVal at heq x0 HE ⊢
    go_enter Try.func37, Try.ntmps37
    go_upto_region 1 with fail
    (try rw [HE.out])
    go_wp2_with fail
    go_quiet (fail)
    cases z
    · go_wp2_with fail
      (refine wp_region_class (fun w' => ((w'.cell? ⟨w.heap.size, 0, none⟩ = some (.string ⟨#[118, 97, 108]⟩) ∧ w'.cell? ⟨w.heap.size, 1, none⟩ = some (.int .i64 a) ∧ w'.cell? ⟨w.heap.size, 2, none⟩ = some (.int .i64 b) ∧ w'.cell? ⟨w.heap.size, 3, none⟩ = some (.int .i64 c) ∧ w'.cell? ⟨w.heap.size, 4, none⟩ = some (.int .i64 n) ∧ w'.cell? ⟨w.heap.size, 5, none⟩ = some (.string s)) ∧ w'.cell? ⟨kb, 2, none⟩ = some (.slice (some ⟨rb, 0, none⟩) sl sl)) ∧ Below w1.heap.size w1 w') (by kernel_rfl) (by kernel_rfl) (⟨⟨⟨x0, x1, x2, x3, x4, x5⟩, c2⟩, (bel_drewN (Below.refl _ _) _).drew⟩) ?_; (repeat (first | go_big_quiet_skip | (go_big_quiet_want; refine quiet_of ?_; apply Exists.intro; refine ⟨fun wq hq => ?_, ?_⟩; (focus ((try dsimp only at hq); go_simp; (first | done | with_reducible rfl | ((go_at_call 61; refine (HSL.out wq hq.2).mono ?_; rintro e w6 ⟨rfl, rfl⟩; exact ⟨rfl, hq⟩)) | fail))); try simp only [Act.put, List.setIfInBounds_toArray, List.set_cons_zero, List.set_cons_succ]; go_big_quiet_on) | fail)); refine wpQuiet_nil ?_; intro wz hz)
      go_wp2
      go_ret
      exact StepP.no HNO.out (HTB.out _ hz.2)
    · go_wp2_with fail
      (refine wp_region_class (fun w' => ((w'.cell? ⟨w.heap.size, 0, none⟩ = some (.string ⟨#[118, 97, 108]⟩) ∧ w'.cell? ⟨w.heap.size, 1, none⟩ = some (.int .i64 a) ∧ w'.cell? ⟨w.heap.size, 2, none⟩ = some (.int .i64 b) ∧ w'.cell? ⟨w.heap.size, 3, none⟩ = some (.int .i64 c) ∧ w'.cell? ⟨w.heap.size, 4, none⟩ = some (.int .i64 n) ∧ w'.cell? ⟨w.heap.size, 5, none⟩ = some (.string s)) ∧ w'.cell? ⟨kb, 2, none⟩ = some (.slice (some ⟨rb, 0, none⟩) sl sl)) ∧ Below w1.heap.size w1 w') (by kernel_rfl) (by kernel_rfl) (⟨⟨⟨x0, x1, x2, x3, x4, x5⟩, c2⟩, (bel_drewN (Below.refl _ _) _).drew⟩) ?_; (repeat (first | go_big_quiet_skip | (go_big_quiet_want; refine quiet_of ?_; apply Exists.intro; refine ⟨fun wq hq => ?_, ?_⟩; (focus ((try dsimp only at hq); go_simp; (first | done | with_reducible rfl | ((go_at_call 61; refine (HSL.out wq hq.2).mono ?_; rintro e w6 ⟨rfl, rfl⟩; exact ⟨rfl, hq⟩)) | fail))); try simp only [Act.put, List.setIfInBounds_toArray, List.set_cons_zero, List.set_cons_succ]; go_big_quiet_on) | fail)); refine wpQuiet_nil ?_; intro wz hz)
      go_wp2
      go_ret
      exact StepP.no HNO.out (HTB.out _ hz.2)
end
end Go.Proofs.Ytannchfoldnhcaa
/- Package code: Good's check of a step: comp; and whatever step. -/
namespace Go.Proofs.Ytannchfoldnhcaa
open Go.RowKit
set_option linter.unusedVariables false

section
variable {w : World} {kb rb sl next : Nat} {seen : List Int}
set_option maxHeartbeats 2000000 in
set_option maxRecDepth 100000 in
theorem step_comp (h : CkS w kb rb sl next seen) (hl : seen.length ≤ 50000) (hn5 : next ≤ 50000) (x : InsM) (hx : InsIn x) (ha : x.a < (next : Int)) (hop : x.op = opComp) : Calls Try.prog 37 #[.pointer (some ⟨kb, 0, none⟩), insVal x] w (StepP w kb rb sl next seen x) := by
  obtain ⟨op, a, b, c, n, s⟩ := x
  obtain rfl : op = opComp := hop
  have ha : a < (next : Int) := ha
  have hP : partK sl next seen ⟨opComp, a, b, c, n, s⟩ = (((c == (next : Int) && n == 0) && nmOk s) && (decide (1 ≤ b) && decide (b ≤ 8))) := by
    unfold partK partI
    rw [if_neg (show ¬ opComp = opVar by decide), if_neg (show ¬ opComp = opVal by decide), if_neg (show ¬ opComp = opInt by decide), if_neg (show ¬ opComp = opAtom by decide), if_pos rfl, decide_eq_true ha, Bool.true_and]
    generalize decide (1 ≤ b) = p1
    generalize decide (b ≤ 8) = p2
    generalize (c == (next : Int)) = p4
    generalize (n == 0) = p5
    generalize nmOk s = p6
    cases p1 <;> cases p2 <;> cases p4 <;> cases p5 <;> cases p6 <;> rfl
  obtain ⟨w1, e1, B1, z1, X1⟩ := box_new w #[.string opComp, .int .i64 a, .int .i64 b, .int .i64 c, .int .i64 n, .string s] 36
  have H1 := h.ext B1
  obtain ⟨c0, c1, c2, cf⟩ := H1.box.three
  have x0 := X1.cells 0 _ rfl
  have x1 := X1.cells 1 _ rfl
  have x2 := X1.cells 2 _ rfl
  have x3 := X1.cells 3 _ rfl
  have x4 := X1.cells 4 _ rfl
  have x5 := X1.cells 5 _ rfl
  have HB := Lib.hid B1
  have HE := Lib.hid e1
  have HX := Lib.hid hx
  have HH1 := Lib.hid H1
  have hlt : kb < w.heap.size := h.box.lt
  have hne : w.heap.size ≠ kb := by omega
  have hlr : rb < w.heap.size := h.lt
  have HTB := Lib.hid (fun (wq : World) (hb : Below w1.heap.size w1 wq) => Touch.of_below (F := [kb, rb]) (Ext.trans' HB.out hb))
  have heq : ∀ wq, (Op.equalIn 10000 36 (.agg #[.string opComp, .int .i64 a, .int .i64 b, .int .i64 c, .int .i64 n, .string s]) (.agg #[.string opComp, .int .i64 a, .int .i64 b, .int .i64 next, .int .i64 0, .string s])).run Try.prog wq = .ok (c == (next : Int) && n == 0) wq := fun wq => by
    rw [eq_ins]
    simp
  obtain ⟨z, hz⟩ : ∃ z, (c == (next : Int) && n == 0) = z := ⟨_, rfl⟩
  rw [hz] at heq hP
  obtain ⟨y, hy⟩ : ∃ y, nmOk s = y := ⟨_, rfl⟩
  rw [hy] at hP
  have HPZ := Lib.hid hP
  have HCY := Lib.hid (fun (wq : World) => by have := named_at ⟨opComp, a, b, c, n, s⟩ HX.out.s wq; unfold insVal at this; rw [show nmOk (InsM.mk opComp a b c n s).s = y from hy] at this; exact this : ∀ wq : World, Calls Try.prog 62 #[.agg #[.string opComp, .int .i64 a, .int .i64 b, .int .i64 c, .int .i64 n, .string s]] wq fun e w' => e = .returned (.bool y) ∧ Below wq.heap.size wq w')
  have HTK := Lib.hid (fun (wq : World) (hb : Below w1.heap.size w1 wq) => take_at (HH1.out.ext hb) hn5 HX.out.b)
  unfold insVal
  clear h B1 z1 X1 e1 hP hz hx H1 hy
  unfold opComp at heq x0 HE HCY ⊢
  go_enter Try.func37, Try.ntmps37
  go_upto_region 1 with fail
  (try rw [HE.out])
  go_wp2_with fail
  go_quiet (fail)
  have BQ := Lib.hid (bel_drewN (Below.refl w1.heap.size w1) nq)
  go_wp2_with fail
  cases z
  · (refine wp_region_class (fun w' => ((w'.cell? ⟨w.heap.size, 0, none⟩ = some (.string ⟨#[99, 111, 109, 112]⟩) ∧ w'.cell? ⟨w.heap.size, 1, none⟩ = some (.int .i64 a) ∧ w'.cell? ⟨w.heap.size, 2, none⟩ = some (.int .i64 b) ∧ w'.cell? ⟨w.heap.size, 3, none⟩ = some (.int .i64 c) ∧ w'.cell? ⟨w.heap.size, 4, none⟩ = some (.int .i64 n) ∧ w'.cell? ⟨w.heap.size, 5, none⟩ = some (.string s)) ∧ w'.cell? ⟨kb, 0, none⟩ = some (.int .i64 next)) ∧ Below w1.heap.size w1 w') (by kernel_rfl) (by kernel_rfl) (⟨⟨⟨x0, x1, x2, x3, x4, x5⟩, c0⟩, (bel_drewN (Below.refl _ _) _).drew⟩) ?_; (repeat (first | go_big_quiet_skip | (go_big_quiet_want; refine quiet_of ?_; apply Exists.intro; refine ⟨fun wq hq => ?_, ?_⟩; (focus ((try dsimp only at hq); go_simp; (first | done | with_reducible rfl | (fail) | fail))); try simp only [Act.put, List.setIfInBounds_toArray, List.set_cons_zero, List.set_cons_succ]; go_big_quiet_on) | fail)); refine wpQuiet_nil ?_; intro wz hz)
    go_wp2
    go_ret
    exact StepP.no (HPZ.out.trans (by simp)) (HTB.out _ hz.2)
  · cases y
    · (refine wp_region_class (fun w' => ((w'.cell? ⟨w.heap.size, 0, none⟩ = some (.string ⟨#[99, 111, 109, 112]⟩) ∧ w'.cell? ⟨w.heap.size, 1, none⟩ = some (.int .i64 a) ∧ w'.cell? ⟨w.heap.size, 2, none⟩ = some (.int .i64 b) ∧ w'.cell? ⟨w.heap.size, 3, none⟩ = some (.int .i64 c) ∧ w'.cell? ⟨w.heap.size, 4, none⟩ = some (.int .i64 n) ∧ w'.cell? ⟨w.heap.size, 5, none⟩ = some (.string s)) ∧ w'.cell? ⟨kb, 0, none⟩ = some (.int .i64 next)) ∧ Below w1.heap.size w1 w') (by kernel_rfl) (by kernel_rfl) (⟨⟨⟨x0, x1, x2, x3, x4, x5⟩, c0⟩, (bel_drewN (Below.refl _ _) _).drew⟩) ?_; (repeat (first | go_big_quiet_skip | (go_big_quiet_want; refine quiet_of ?_; apply Exists.intro; refine ⟨fun wq hq => ?_, ?_⟩; (focus ((try dsimp only at hq); go_simp; (first | done | with_reducible rfl | ((go_at_call 62; refine (HCY.out wq).mono ?_; rintro e w6 ⟨rfl, h6⟩; exact ⟨rfl, ⟨⟨cell_later h6 hq.1.1.1, cell_later h6 hq.1.1.2.1, cell_later h6 hq.1.1.2.2.1, cell_later h6 hq.1.1.2.2.2.1, cell_later h6 hq.1.1.2.2.2.2.1, cell_later h6 hq.1.1.2.2.2.2.2⟩, cell_later h6 hq.1.2⟩, Ext.trans' hq.2 h6⟩)) | fail))); try simp only [Act.put, List.setIfInBounds_toArray, List.set_cons_zero, List.set_cons_succ]; go_big_quiet_on) | fail)); refine wpQuiet_nil ?_; intro wz hz)
      go_wp2
      go_ret
      exact StepP.no (HPZ.out.trans (by simp)) (HTB.out _ hz.2)
    · refine wp_region_held_drew (S := fun w' => w'.cell? ⟨w.heap.size, 0, none⟩ = some (.string ⟨#[99, 111, 109, 112]⟩) ∧ w'.cell? ⟨w.heap.size, 1, none⟩ = some (.int .i64 a) ∧ w'.cell? ⟨w.heap.size, 2, none⟩ = some (.int .i64 b) ∧ w'.cell? ⟨w.heap.size, 3, none⟩ = some (.int .i64 c) ∧ w'.cell? ⟨w.heap.size, 4, none⟩ = some (.int .i64 n) ∧ w'.cell? ⟨w.heap.size, 5, none⟩ = some (.string s)) (by kernel_rfl) (⟨x0, x1, x2, x3, x4, x5⟩) (fun hHeld => ?_)
      first | (refine held_t (i := 0) hHeld ?_; apply Exists.intro; refine ⟨fun wq hq => ?_, ?_⟩; (focus ((try dsimp only at hq); go_simp; (first | done | with_reducible rfl | fail)))) | refine held_s (i := 0) hHeld ?_ | fail
      first | (refine held_t (i := 1) hHeld ?_; apply Exists.intro; refine ⟨fun wq hq => ?_, ?_⟩; (focus ((try dsimp only at hq); go_simp; (first | done | with_reducible rfl | fail)))) | refine held_s (i := 1) hHeld ?_ | fail
      first | (refine held_t (i := 2) hHeld ?_; apply Exists.intro; refine ⟨fun wq hq => ?_, ?_⟩; (focus ((try dsimp only at hq); go_simp; (first | done | with_reducible rfl | fail)))) | refine held_s (i := 2) hHeld ?_ | fail
      first | (refine held_t (i := 3) hHeld ?_; apply Exists.intro; refine ⟨fun wq hq => ?_, ?_⟩; (focus ((try dsimp only at hq); go_simp; (first | done | with_reducible rfl | fail)))) | refine held_s (i := 3) hHeld ?_ | fail
      first | (refine held_t (i := 4) hHeld ?_; apply Exists.intro; refine ⟨fun wq hq => ?_, ?_⟩; (focus ((try dsimp only at hq); go_simp; (first | done | with_reducible rfl | fail)))) | refine held_s (i := 4) hHeld ?_ | fail
      first | (refine held_t (i := 5) hHeld ?_; apply Exists.intro; refine ⟨fun wq hq => ?_, ?_⟩; (focus ((try dsimp only at hq); go_simp; (first | done | with_reducible rfl | fail)))) | refine held_s (i := 5) hHeld ?_ | fail
      first | (refine held_t (i := 6) hHeld ?_; apply Exists.intro; refine ⟨fun wq hq => ?_, ?_⟩; (focus ((try dsimp only at hq); go_simp; (first | done | with_reducible rfl | fail)))) | refine held_s (i := 6) hHeld ?_ | fail
      first | (refine held_t (i := 7) hHeld ?_; apply Exists.intro; refine ⟨fun wq hq => ?_, ?_⟩; (focus ((try dsimp only at hq); go_simp; (first | done | with_reducible rfl | fail)))) | refine held_s (i := 7) hHeld ?_ | fail
      first | (refine held_t (i := 9) hHeld ?_; apply Exists.intro; refine ⟨fun wq hq => ?_, ?_⟩; (focus ((try dsimp only at hq); go_simp; (first | done | with_reducible rfl | fail)))) | refine held_s (i := 9) hHeld ?_ | fail
      first | (refine held_t (i := 10) hHeld ?_; apply Exists.intro; refine ⟨fun wq hq => ?_, ?_⟩; (focus ((try dsimp only at hq); go_simp; (first | done | with_reducible rfl | fail)))) | refine held_s (i := 10) hHeld ?_ | fail
      try simp only [Act.put, List.setIfInBounds_toArray, List.set_cons_zero, List.set_cons_succ]
      refine held_c 8 fun K hK => ?_
      go_simp
      skip
      refine hK.out _ _ (hHeld) (fun hHeld => ?_)
      clear hK K
      try simp only [Act.put, List.setIfInBounds_toArray, List.set_cons_zero, List.set_cons_succ]
      first | (refine held_t (i := 11) hHeld ?_; apply Exists.intro; refine ⟨fun wq hq => ?_, ?_⟩; (focus ((try dsimp only at hq); go_simp; (first | done | with_reducible rfl | fail)))) | refine held_s (i := 11) hHeld ?_ | fail
      first | (refine held_t (i := 12) hHeld ?_; apply Exists.intro; refine ⟨fun wq hq => ?_, ?_⟩; (focus ((try dsimp only at hq); go_simp; (first | done | with_reducible rfl | fail)))) | refine held_s (i := 12) hHeld ?_ | fail
      first | (refine held_t (i := 13) hHeld ?_; apply Exists.intro; refine ⟨fun wq hq => ?_, ?_⟩; (focus ((try dsimp only at hq); go_simp; (first | done | with_reducible rfl | fail)))) | refine held_s (i := 13) hHeld ?_ | fail
      first | (refine held_t (i := 14) hHeld ?_; apply Exists.intro; refine ⟨fun wq hq => ?_, ?_⟩; (focus ((try dsimp only at hq); go_simp; (first | done | with_reducible rfl | fail)))) | refine held_s (i := 14) hHeld ?_ | fail
      try simp only [Act.put, List.setIfInBounds_toArray, List.set_cons_zero, List.set_cons_succ]
      refine held_c 15 fun K hK => ?_
      go_simp
      (go_at_call 62; refine (HCY.out _).mono ?_; rintro e w6 ⟨rfl, h6⟩; have HQ := Lib.hid (Ext.trans' (bel_drewN (Below.refl w1.heap.size w1) nq).drew h6))
      refine hK.out _ _ (⟨cell_later h6 hHeld.1, cell_later h6 hHeld.2.1, cell_later h6 hHeld.2.2.1, cell_later h6 hHeld.2.2.2.1, cell_later h6 hHeld.2.2.2.2.1, cell_later h6 hHeld.2.2.2.2.2⟩) (fun hHeld => ?_)
      clear hK K
      try simp only [Act.put, List.setIfInBounds_toArray, List.set_cons_zero, List.set_cons_succ]
      first | (refine held_t (i := 16) hHeld ?_; apply Exists.intro; refine ⟨fun wq hq => ?_, ?_⟩; (focus ((try dsimp only at hq); go_simp; (first | done | with_reducible rfl | fail)))) | refine held_s (i := 16) hHeld ?_ | fail
      first | (refine held_t (i := 17) hHeld ?_; apply Exists.intro; refine ⟨fun wq hq => ?_, ?_⟩; (focus ((try dsimp only at hq); go_simp; (first | done | with_reducible rfl | fail)))) | refine held_s (i := 17) hHeld ?_ | fail
      first | (refine held_t (i := 18) hHeld ?_; apply Exists.intro; refine ⟨fun wq hq => ?_, ?_⟩; (focus ((try dsimp only at hq); go_simp; (first | done | with_reducible rfl | fail)))) | refine held_s (i := 18) hHeld ?_ | fail
      first | (refine held_t (i := 19) hHeld ?_; apply Exists.intro; refine ⟨fun wq hq => ?_, ?_⟩; (focus ((try dsimp only at hq); go_simp; (first | done | with_reducible rfl | fail)))) | refine held_s (i := 19) hHeld ?_ | fail
      first | (refine held_t (i := 20) hHeld ?_; apply Exists.intro; refine ⟨fun wq hq => ?_, ?_⟩; (focus ((try dsimp only at hq); go_simp; (first | done | with_reducible rfl | fail)))) | refine held_s (i := 20) hHeld ?_ | fail
      try simp only [Act.put, List.setIfInBounds_toArray, List.set_cons_zero, List.set_cons_succ]
      refine held_c 21 fun K hK => ?_
      go_simp
      (go_at_call 63; refine (HTK.out _ HQ.out).mono ?_; rintro e w7 ⟨rfl, t7, k7⟩; have HT7 := Lib.hid (And.intro t7 k7))
      refine hK.out _ _ (⟨HT7.out.1.cell (by simp; exact hne) hHeld.1, HT7.out.1.cell (by simp; exact hne) hHeld.2.1, HT7.out.1.cell (by simp; exact hne) hHeld.2.2.1, HT7.out.1.cell (by simp; exact hne) hHeld.2.2.2.1, HT7.out.1.cell (by simp; exact hne) hHeld.2.2.2.2.1, HT7.out.1.cell (by simp; exact hne) hHeld.2.2.2.2.2⟩) (fun hHeld => ?_)
      clear hK K
      try simp only [Act.put, List.setIfInBounds_toArray, List.set_cons_zero, List.set_cons_succ]
      first | (refine held_t (i := 22) hHeld ?_; apply Exists.intro; refine ⟨fun wq hq => ?_, ?_⟩; (focus ((try dsimp only at hq); go_simp; (first | done | with_reducible rfl | fail)))) | refine held_s (i := 22) hHeld ?_ | fail
      first | (refine held_t (i := 23) hHeld ?_; apply Exists.intro; refine ⟨fun wq hq => ?_, ?_⟩; (focus ((try dsimp only at hq); go_simp; (first | done | with_reducible rfl | fail)))) | refine held_s (i := 23) hHeld ?_ | fail
      try simp only [Act.put, List.setIfInBounds_toArray, List.set_cons_zero, List.set_cons_succ]
      refine wpAnyH_done (by kernel_rfl) ?_ _
      clear t7 k7 hHeld h6
      go_wp2
      go_ret
      have hq : partK sl next seen ⟨opComp, a, b, c, n, s⟩ = (decide (1 ≤ b) && decide (b ≤ 8)) := HPZ.out.trans (by simp)
      have ht : Touch [kb, rb] w w7 := (HTB.out _ HQ.out).trans (HT7.out.1.sub (F' := [kb, rb]) (by simp)) (fun k hk => Or.inl hk)
      refine ⟨?_, ht, fun e => ?_⟩
      · exact congrArg (fun v => Ending.returned (.bool v)) hq.symm
      · exact HT7.out.2 (hq.symm.trans e)
/-- Whatever step. -/
theorem step_at (h : CkS w kb rb sl next seen) (hl : seen.length ≤ 50000) (hn5 : next ≤ 50000) (x : InsM) (hx : InsIn x) : Calls Try.prog 37 #[.pointer (some ⟨kb, 0, none⟩), insVal x] w (StepP w kb rb sl next seen x) := by
  by_cases ha : x.a < (next : Int)
  · by_cases h1 : x.op = opVar
    · exact step_var h hl x hx ha h1
    · by_cases h2 : x.op = opVal
      · exact step_val h hl hn5 x hx ha h2
      · by_cases h3 : x.op = opInt
        · exact step_int h hl hn5 x hx ha h3
        · by_cases h4 : x.op = opAtom
          · exact step_atom h hl hn5 x hx ha h4
          · by_cases h5 : x.op = opComp
            · exact step_comp h hl hn5 x hx ha h5
            · exact step_none h x hx ha h1 h2 h3 h4 h5
  · exact step_out h x hx ha
end
end Go.Proofs.Ytannchfoldnhcaa
