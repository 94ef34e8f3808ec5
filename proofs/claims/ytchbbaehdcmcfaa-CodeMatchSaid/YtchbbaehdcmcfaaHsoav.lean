import Derived.Test.YtchbbaehdcmcfaaHsozz
import Derived.Test.YtchbbaehdcmcfaaHsoau
import Derived.Test.YtchbbaehdcmcfaaHsoam
import Derived.Test.YtchbbaehdcmcfaaHsoaj
import Derived.Test.YtchbbaehdcmcfaaHsoad
set_option linter.unusedVariables false
set_option linter.unusedSimpArgs false
/- Package code: one step of Match. -/
namespace Go.Proofs.Ytchbbaehdcmcfaa
open Go.RowKit
set_option linter.unusedVariables false
theorem big0M : (⟨#[]⟩ : ByteArray).size ≤ BIG := by unfold BIG; decide
section
variable {V w w' : World} {F F' : List Nat} {mb gb tb n S N : Nat} {p : Value} {regs : List Tm} {sl : Int → Option Tm} {R S0 : List (Int × Tm)}
def VarM (V w : World) (F : List Nat) (mb gb tb n S : Nat) (p : Value) (N : Nat) (R : List (Int × Tm)) (regs : List Tm) (sl : Int → Option Tm) (v : Nat) (r : Tm) (e : Ending) (w' : World) : Prop :=
 e = .returned (.tuple #[.bool true, .int .i64 0]) ∧ IsB V F w' p N R ∧ RunS V w' F mb gb tb n S p regs (setO sl (v : Int) r) ∧ Touch [tb] w w'
set_option maxHeartbeats 4000000 in
set_option maxRecDepth 100000 in
theorem stepM_var (hI : IsB V F w p N R) (hs : Sync R S0) (h : RunS V w F mb gb tb n S p regs sl) (x : InsM) (hx : InsIn x) (hop : x.op = opVar) {i v : Nat} (ha : x.a = (i : Int)) {r : Tm} (hr : regs[i]? = some r) (hb : x.b = (v : Int)) (hv : v < S) :
  Calls Try.prog 60 #[.pointer (some ⟨mb, 0, none⟩), insVal x] w (VarM V w F mb gb tb n S p N R regs sl v r) := by
 obtain ⟨op, a, b, c, m, s⟩ := x
 obtain rfl : op = opVar := hop
 obtain rfl : a = (i : Int) := ha
 have hil : i < regs.length := (List.getElem?_eq_some_iff.1 hr).1
 have hin : i < n := Nat.lt_of_lt_of_le hil h.len
 have hn2 := h.size
 obtain rfl : b = (v : Int) := hb
 obtain ⟨w1, e1, B1, z1, X1⟩ := box_new w #[.string opVar, .int .i64 i, .int .i64 v, .int .i64 c, .int .i64 m, .string s] 36
 have h1 := h.ext B1
 have hI1 := hI.ext B1
 obtain ⟨c0, c1, c2, cf⟩ := h1.box.three
 have x0 := X1.cells 0 _ rfl
 have x1 := X1.cells 1 _ rfl
 have x2 := X1.cells 2 _ rfl
 have x3 := X1.cells 3 _ rfl
 have x4 := X1.cells 4 _ rfl
 have x5 := X1.cells 5 _ rfl
 have hFl : ¬ w.heap.size ∈ F := fun hm => by have := hI.lt _ hm; omega
 have HLW := Lib.hid h.lts
 have HB := Lib.hid (And.intro B1 (And.intro h1 (And.intro hI1 h)))
 have HE := Lib.hid e1
 have HX := Lib.hid hx
 have HSH := Lib.hid hs
 obtain ⟨rk, rn, rs, ra, rl, rc, hrv, d0, d1, d2, d3, _⟩ := h1.rrow.get hin hr
 have hrg := h.goodr r (List.mem_of_getElem? hr)
 have hslot := fun j hj => h1.srow.cells (i := v) (j := j) hv hj
 obtain ⟨g0, hg0⟩ := hslot 0 (by omega)
 obtain ⟨g1, hg1⟩ := hslot 1 (by omega)
 obtain ⟨g2, hg2⟩ := hslot 2 (by omega)
 obtain ⟨g3, hg3⟩ := hslot 3 (by omega)
 rw [Nat.add_zero] at hg0
 have hfz := h1.srow.fz
 have FIN := Lib.hid (show ∀ wq : World, Below w1.heap.size w1 wq → VarM V w F mb gb tb n S p N R regs sl v r (.returned (.tuple #[.bool true, .int .i64 0])) (setAt wq tb (v * 4) (.int .i64 rk) (.int .i64 rn) (.string rs) (.slice ra rl rc)) from fun wq hq => by
  have hq1 := h1.ext hq
  have hp1 := hq1.srow.put hv (u0 := .int .i64 rk) (u1 := .int .i64 rn) (u2 := .string rs) (u3 := .slice ra rl rc) hrv
  have tt : Touch [tb] wq (setAt wq tb (v * 4) (.int .i64 rk) (.int .i64 rn) (.string rs) (.slice ra rl rc)) := (((touch_one wq tb (v * 4) (.int .i64 rk)).trans (touch_one _ tb (v * 4 + 1) (.int .i64 rn)) (fun k hk => Or.inl hk)).trans (touch_one _ tb (v * 4 + 2) (.string rs)) (fun k hk => Or.inl hk)).trans (touch_one _ tb (v * 4 + 3) (.slice ra rl rc)) (fun k hk => Or.inl hk)
  have ap := h.apart
  have hIq := hI1.ext hq
  refine ⟨rfl, hIq.keep (fun k hk => tt.block k (hIq.lt k hk) (fun hm => h.own.2.2 (by rw [← List.mem_singleton.1 hm]; exact hk))) (hIq.see.1.touch (F := [tb]) (fun a0 ha0 => h.blind a0 (by have := List.mem_singleton.1 ha0; simp [this])) tt), ?_, (Touch.of_below (Ext.trans' B1 hq) [tb]).trans tt (fun k hk => Or.inl hk)⟩
  refine ⟨tt.box (fun hm => ap.2.1 (List.mem_singleton.1 hm)) hq1.box, hq1.rrow.touch tt (fun hm => ap.2.2 (List.mem_singleton.1 hm)), hp1.congr (fun k hk => ?_), ap, h.own, h.blind, h.len, h.size, h.goodr, fun u y hy => ?_⟩
  ·show setO sl (v : Int) r (k : Int) = if k = v then some r else sl (k : Int)
   unfold setO
   by_cases e : k = v
   ·rw [if_pos e, if_pos (by omega)]
   ·rw [if_neg e, if_neg (by omega)]
  ·unfold setO at hy
   split at hy
   ·cases hy; exact hrg
   ·exact h.goods u y hy)
 unfold insVal
 clear h hx B1 X1 z1 e1 h1 hI hI1 hr hs hrv hrg hslot
 unfold opVar at x0 HE ⊢
 go_enter Try.func60, Try.ntmps60
 go_upto_region 1 with fail
 (try rw [HE.out])
 go_upto_region 3 with fail
 refine wp_region_held_drew (S := fun wq => wq.cell? ⟨mb, 1, none⟩ = some (.slice (some ⟨gb, 0, none⟩) n n) ∧ wq.cell? ⟨mb, 2, none⟩ = some (.slice (some ⟨tb, 0, none⟩) S S) ∧ (wq.cell? ⟨gb, i * 4, none⟩ = some (.int .i64 rk) ∧ wq.cell? ⟨gb, i * 4 + 1, none⟩ = some (.int .i64 rn) ∧ wq.cell? ⟨gb, i * 4 + 2, none⟩ = some (.string rs) ∧ wq.cell? ⟨gb, i * 4 + 3, none⟩ = some (.slice ra rl rc)) ∧ wq.cell? ⟨w.heap.size, 1, none⟩ = some (.int .i64 i) ∧ wq.cell? ⟨w.heap.size, 2, none⟩ = some (.int .i64 v)) (by kernel_rfl) ⟨c1, c2, ⟨d0, d1, d2, d3⟩, x1, x2⟩ (fun hHeld => ?_)
 first | (refine held_t (i := 0) hHeld ?_; constructor; constructor; intro wq hq; focus ((try dsimp only at hq); go_simp; first | done | with_reducible rfl | fail)) | refine held_s (i := 0) hHeld ?_ | fail
 first | (refine held_t (i := 1) hHeld ?_; constructor; constructor; intro wq hq; focus ((try dsimp only at hq); go_simp; first | done | with_reducible rfl | fail)) | refine held_s (i := 1) hHeld ?_ | fail
 first | (refine held_t (i := 2) hHeld ?_; constructor; constructor; intro wq hq; focus ((try dsimp only at hq); go_simp; first | done | with_reducible rfl | fail)) | refine held_s (i := 2) hHeld ?_ | fail
 first | (refine held_t (i := 3) hHeld ?_; constructor; constructor; intro wq hq; focus ((try dsimp only at hq); go_simp; first | done | with_reducible rfl | fail)) | refine held_s (i := 3) hHeld ?_ | fail
 first | (refine held_t (i := 4) hHeld ?_; constructor; constructor; intro wq hq; focus ((try dsimp only at hq); go_simp; first | done | with_reducible rfl | fail)) | refine held_s (i := 4) hHeld ?_ | fail
 first | (refine held_t (i := 5) hHeld ?_; constructor; constructor; intro wq hq; focus ((try dsimp only at hq); go_simp; first | done | with_reducible rfl | fail)) | refine held_s (i := 5) hHeld ?_ | fail
 try simp only [Act.put, lay4]
 first | (refine held_t (i := 6) hHeld ?_; constructor; constructor; intro wq hq; focus ((try dsimp only at hq); go_simp; first | done | with_reducible rfl | fail)) | refine held_s (i := 6) hHeld ?_ | fail
 first | (refine held_t (i := 7) hHeld ?_; constructor; constructor; intro wq hq; focus ((try dsimp only at hq); go_simp; first | done | with_reducible rfl | fail)) | refine held_s (i := 7) hHeld ?_ | fail
 first | (refine held_t (i := 8) hHeld ?_; constructor; constructor; intro wq hq; focus ((try dsimp only at hq); go_simp; first | done | with_reducible rfl | fail)) | refine held_s (i := 8) hHeld ?_ | fail
 first | (refine held_t (i := 9) hHeld ?_; constructor; constructor; intro wq hq; focus ((try dsimp only at hq); go_simp; first | done | with_reducible rfl | fail)) | refine held_s (i := 9) hHeld ?_ | fail
 first | (refine held_t (i := 10) hHeld ?_; constructor; constructor; intro wq hq; focus ((try dsimp only at hq); go_simp; first | done | with_reducible rfl | fail)) | refine held_s (i := 10) hHeld ?_ | fail
 first | (refine held_t (i := 11) hHeld ?_; constructor; constructor; intro wq hq; focus ((try dsimp only at hq); go_simp; first | done | with_reducible rfl | fail)) | refine held_s (i := 11) hHeld ?_ | fail
 try simp only [Act.put, lay4]
 first | (refine held_t (i := 12) hHeld ?_; constructor; constructor; intro wq hq; focus ((try dsimp only at hq); go_simp; first | done | with_reducible rfl | fail)) | refine held_s (i := 12) hHeld ?_ | fail
 first | (refine held_t (i := 13) hHeld ?_; constructor; constructor; intro wq hq; focus ((try dsimp only at hq); go_simp; first | done | with_reducible rfl | fail)) | refine held_s (i := 13) hHeld ?_ | fail
 first | (refine held_t (i := 14) hHeld ?_; constructor; constructor; intro wq hq; focus ((try dsimp only at hq); go_simp; first | done | with_reducible rfl | fail)) | refine held_s (i := 14) hHeld ?_ | fail
 try simp only [Act.put, lay4]
 have hfar : ∀ b' j, b' ≠ tb → (setAt w1.drew tb (v * 4) (.int .i64 rk) (.int .i64 rn) (.string rs) (.slice ra rl rc)).cell? ⟨b', j, none⟩ = w1.cell? ⟨b', j, none⟩ := fun b' j hne => setAt_far hne
 have ap := HB.out.2.2.2.apart
 have hwt : w.heap.size ≠ tb := by have := HLW.out.2.2; omega
 refine held_c 15 fun K hK => ?_
 go_simp
 skip
 refine hK.out _ _ (⟨(hfar _ _ ap.2.1).trans c1, (hfar _ _ ap.2.1).trans c2, ⟨(hfar _ _ ap.2.2).trans d0, (hfar _ _ ap.2.2).trans d1, (hfar _ _ ap.2.2).trans d2, (hfar _ _ ap.2.2).trans d3⟩, (hfar _ _ hwt).trans x1, (hfar _ _ hwt).trans x2⟩) (fun hHeld => ?_)
 clear hK K
 try simp only [Act.put, lay4]
 refine wpAnyH_done (by kernel_rfl) ?_ _
 clear hHeld hfar
 go_wp2
 go_ret2
 exact FIN.out _ (Below.refl _ _).drew
set_option maxHeartbeats 4000000 in
set_option maxRecDepth 100000 in
theorem stepM_val (hI : IsB V F w p N R) (hs : Sync R S0) (h : RunS V w F mb gb tb n S p regs sl) (x : InsM) (hx : InsIn x) (hop : x.op = opVal) {i : Nat} (ha : x.a = (i : Int)) {r : Tm} (hr : regs[i]? = some r) {v : Nat} (hb : x.b = (v : Int)) (hv : v < S) {y : Tm} (hy : sl (v : Int) = some y) :
  Calls Try.prog 60 #[.pointer (some ⟨mb, 0, none⟩), insVal x] w (AlkP V F w p N (bothB N S0 r y)) := by
 obtain ⟨op, a, b, c, m, s⟩ := x
 obtain rfl : op = opVal := hop
 obtain rfl : a = (i : Int) := ha
 have hil : i < regs.length := (List.getElem?_eq_some_iff.1 hr).1
 have hin : i < n := Nat.lt_of_lt_of_le hil h.len
 have hn2 := h.size
 obtain rfl : b = (v : Int) := hb
 obtain ⟨w1, e1, B1, z1, X1⟩ := box_new w #[.string opVal, .int .i64 i, .int .i64 v, .int .i64 c, .int .i64 m, .string s] 36
 have h1 := h.ext B1
 have hI1 := hI.ext B1
 obtain ⟨c0, c1, c2, cf⟩ := h1.box.three
 have x0 := X1.cells 0 _ rfl
 have x1 := X1.cells 1 _ rfl
 have x2 := X1.cells 2 _ rfl
 have x3 := X1.cells 3 _ rfl
 have x4 := X1.cells 4 _ rfl
 have x5 := X1.cells 5 _ rfl
 have hFl : ¬ w.heap.size ∈ F := fun hm => by have := hI.lt _ hm; omega
 have HLW := Lib.hid h.lts
 have HB := Lib.hid (And.intro B1 (And.intro h1 (And.intro hI1 h)))
 have HE := Lib.hid e1
 have HX := Lib.hid hx
 have HSH := Lib.hid hs
 obtain ⟨rk, rn, rs, ra, rl, rc, hrv, d0, d1, d2, d3, _⟩ := h1.srow.get hv hy
 obtain ⟨bb, hbb⟩ : ∃ bb, bothB N S0 r y = bb := ⟨_, rfl⟩
 have HC := Lib.hid (fun (wq : World) (hb : Below w1.heap.size w1 wq) => alikeM_at (hI1.ext hb) hs (h1.ext hb) hr (T := y) hrv)
 rw [hbb] at HC
 try dsimp only
 rw [hbb]
 unfold AlkP at HC
 have HO := Lib.hid h.own
 unfold insVal
 clear h hx B1 X1 z1 e1 h1 hI hI1 hr hs hbb hrv hy
 unfold opVal at x0 HE ⊢
 go_enter Try.func60, Try.ntmps60
 go_upto_region 1 with fail
 (try rw [HE.out])
 go_upto_region 6 with fail
 refine wp_region_held_drew (S := fun wq => wq.cell? ⟨mb, 2, none⟩ = some (.slice (some ⟨tb, 0, none⟩) S S) ∧ (wq.cell? ⟨tb, v * 4, none⟩ = some (.int .i64 rk) ∧ wq.cell? ⟨tb, v * 4 + 1, none⟩ = some (.int .i64 rn) ∧ wq.cell? ⟨tb, v * 4 + 2, none⟩ = some (.string rs) ∧ wq.cell? ⟨tb, v * 4 + 3, none⟩ = some (.slice ra rl rc)) ∧ wq.cell? ⟨w.heap.size, 1, none⟩ = some (.int .i64 i) ∧ wq.cell? ⟨w.heap.size, 2, none⟩ = some (.int .i64 v)) (by kernel_rfl) ⟨c2, ⟨d0, d1, d2, d3⟩, x1, x2⟩ (fun hHeld => ?_)
 first | (refine held_t (i := 0) hHeld ?_; constructor; constructor; intro wq hq; focus ((try dsimp only at hq); go_simp; first | done | with_reducible rfl | fail)) | refine held_s (i := 0) hHeld ?_ | fail
 first | (refine held_t (i := 1) hHeld ?_; constructor; constructor; intro wq hq; focus ((try dsimp only at hq); go_simp; first | done | with_reducible rfl | fail)) | refine held_s (i := 1) hHeld ?_ | fail
 first | (refine held_t (i := 2) hHeld ?_; constructor; constructor; intro wq hq; focus ((try dsimp only at hq); go_simp; first | done | with_reducible rfl | fail)) | refine held_s (i := 2) hHeld ?_ | fail
 first | (refine held_t (i := 3) hHeld ?_; constructor; constructor; intro wq hq; focus ((try dsimp only at hq); go_simp; first | done | with_reducible rfl | fail)) | refine held_s (i := 3) hHeld ?_ | fail
 first | (refine held_t (i := 4) hHeld ?_; constructor; constructor; intro wq hq; focus ((try dsimp only at hq); go_simp; first | done | with_reducible rfl | fail)) | refine held_s (i := 4) hHeld ?_ | fail
 first | (refine held_t (i := 5) hHeld ?_; constructor; constructor; intro wq hq; focus ((try dsimp only at hq); go_simp; first | done | with_reducible rfl | fail)) | refine held_s (i := 5) hHeld ?_ | fail
 try simp only [Act.put, lay4]
 first | (refine held_t (i := 6) hHeld ?_; constructor; constructor; intro wq hq; focus ((try dsimp only at hq); go_simp; first | done | with_reducible rfl | fail)) | refine held_s (i := 6) hHeld ?_ | fail
 first | (refine held_t (i := 7) hHeld ?_; constructor; constructor; intro wq hq; focus ((try dsimp only at hq); go_simp; first | done | with_reducible rfl | fail)) | refine held_s (i := 7) hHeld ?_ | fail
 first | (refine held_t (i := 8) hHeld ?_; constructor; constructor; intro wq hq; focus ((try dsimp only at hq); go_simp; first | done | with_reducible rfl | fail)) | refine held_s (i := 8) hHeld ?_ | fail
 first | (refine held_t (i := 9) hHeld ?_; constructor; constructor; intro wq hq; focus ((try dsimp only at hq); go_simp; first | done | with_reducible rfl | fail)) | refine held_s (i := 9) hHeld ?_ | fail
 first | (refine held_t (i := 10) hHeld ?_; constructor; constructor; intro wq hq; focus ((try dsimp only at hq); go_simp; first | done | with_reducible rfl | fail)) | refine held_s (i := 10) hHeld ?_ | fail
 try simp only [Act.put, lay4]
 refine held_c 11 fun K hK => ?_
 go_simp
 (go_at_call 94; refine (HC.out _ (Below.refl _ _).drew).mono ?_; rintro e w6 ⟨F', R', rfl, i6, s6, t6, n6⟩; have HBQ := Lib.hid ((Below.refl w1.heap.size w1).drew); have H6 := Lib.hid (And.intro i6 (And.intro s6 (And.intro t6 n6))); clear i6 s6 n6)
 refine hK.out _ _ (⟨t6.cell HO.out.1 hHeld.1, ⟨t6.cell HO.out.2.2 hHeld.2.1.1, t6.cell HO.out.2.2 hHeld.2.1.2.1, t6.cell HO.out.2.2 hHeld.2.1.2.2.1, t6.cell HO.out.2.2 hHeld.2.1.2.2.2⟩, t6.cell hFl hHeld.2.2.1, t6.cell hFl hHeld.2.2.2⟩) (fun hHeld => ?_)
 clear hK K
 try simp only [Act.put, lay4]
 first | (refine held_t (i := 12) hHeld ?_; constructor; constructor; intro wq hq; focus ((try dsimp only at hq); go_simp; first | done | with_reducible rfl | fail)) | refine held_s (i := 12) hHeld ?_ | fail
 first | (refine held_t (i := 13) hHeld ?_; constructor; constructor; intro wq hq; focus ((try dsimp only at hq); go_simp; first | done | with_reducible rfl | fail)) | refine held_s (i := 13) hHeld ?_ | fail
 first | (refine held_t (i := 14) hHeld ?_; constructor; constructor; intro wq hq; focus ((try dsimp only at hq); go_simp; first | done | with_reducible rfl | fail)) | refine held_s (i := 14) hHeld ?_ | fail
 first | (refine held_t (i := 15) hHeld ?_; constructor; constructor; intro wq hq; focus ((try dsimp only at hq); go_simp; first | done | with_reducible rfl | fail)) | refine held_s (i := 15) hHeld ?_ | fail
 try simp only [Act.put, lay4]
 refine wpAnyH_done (by kernel_rfl) ?_ _
 clear hHeld t6
 go_wp2
 go_ret2
 have hsz : w.heap.size ≤ w1.heap.size := HB.out.1.size
 refine ⟨F', R', rfl, H6.out.1, H6.out.2.1, ?_, fun k hk => (H6.out.2.2.2 k hk).imp id (fun e => Nat.le_trans (Nat.le_trans hsz HBQ.out.size) e)⟩
 exact (Touch.of_below (Ext.trans' HB.out.1 HBQ.out) F).trans H6.out.2.2.1 (fun k hk => Or.inl hk)
set_option maxHeartbeats 4000000 in
set_option maxRecDepth 100000 in
theorem stepM_int (hI : IsB V F w p N R) (hs : Sync R S0) (h : RunS V w F mb gb tb n S p regs sl) (x : InsM) (hx : InsIn x) (hop : x.op = opInt) {i : Nat} (ha : x.a = (i : Int)) {r : Tm} (hr : regs[i]? = some r) :
  Calls Try.prog 60 #[.pointer (some ⟨mb, 0, none⟩), insVal x] w (AlkP V F w p N (bothB N S0 r (intT x.n))) := by
 obtain ⟨op, a, b, c, m, s⟩ := x
 obtain rfl : op = opInt := hop
 obtain rfl : a = (i : Int) := ha
 have hil : i < regs.length := (List.getElem?_eq_some_iff.1 hr).1
 have hin : i < n := Nat.lt_of_lt_of_le hil h.len
 have hn2 := h.size
 obtain ⟨w1, e1, B1, z1, X1⟩ := box_new w #[.string opInt, .int .i64 i, .int .i64 b, .int .i64 c, .int .i64 m, .string s] 36
 have h1 := h.ext B1
 have hI1 := hI.ext B1
 obtain ⟨c0, c1, c2, cf⟩ := h1.box.three
 have x0 := X1.cells 0 _ rfl
 have x1 := X1.cells 1 _ rfl
 have x2 := X1.cells 2 _ rfl
 have x3 := X1.cells 3 _ rfl
 have x4 := X1.cells 4 _ rfl
 have x5 := X1.cells 5 _ rfl
 have hFl : ¬ w.heap.size ∈ F := fun hm => by have := hI.lt _ hm; omega
 have HLW := Lib.hid h.lts
 have HB := Lib.hid (And.intro B1 (And.intro h1 (And.intro hI1 h)))
 have HE := Lib.hid e1
 have HX := Lib.hid hx
 have HSH := Lib.hid hs
 obtain ⟨bb, hbb⟩ : ∃ bb, bothB N S0 r (intT m) = bb := ⟨_, rfl⟩
 have HC := Lib.hid (fun (wq : World) (hb : Below w1.heap.size w1 wq) => alikeM_at (hI1.ext hb) hs (h1.ext hb) hr (T := (intT m)) (leaf_tm V i64_1 HX.out.n big0M))
 rw [hbb] at HC
 try dsimp only
 rw [hbb]
 unfold AlkP at HC
 have HO := Lib.hid h.own
 unfold insVal
 clear h hx B1 X1 z1 e1 h1 hI hI1 hr hs hbb
 unfold opInt at x0 HE ⊢
 go_enter Try.func60, Try.ntmps60
 go_upto_region 1 with fail
 (try rw [HE.out])
 go_upto_region 8 with fail
 refine wp_region_held_drew (S := fun wq => wq.cell? ⟨w.heap.size, 1, none⟩ = some (.int .i64 i) ∧ wq.cell? ⟨w.heap.size, 4, none⟩ = some (.int .i64 m)) (by kernel_rfl) ⟨x1, x4⟩ (fun hHeld => ?_)
 first | (refine held_t (i := 0) hHeld ?_; constructor; constructor; intro wq hq; focus ((try dsimp only at hq); go_simp; first | done | with_reducible rfl | fail)) | refine held_s (i := 0) hHeld ?_ | fail
 first | (refine held_t (i := 1) hHeld ?_; constructor; constructor; intro wq hq; focus ((try dsimp only at hq); go_simp; first | done | with_reducible rfl | fail)) | refine held_s (i := 1) hHeld ?_ | fail
 first | (refine held_t (i := 2) hHeld ?_; constructor; constructor; intro wq hq; focus ((try dsimp only at hq); go_simp; first | done | with_reducible rfl | fail)) | refine held_s (i := 2) hHeld ?_ | fail
 first | (refine held_t (i := 3) hHeld ?_; constructor; constructor; intro wq hq; focus ((try dsimp only at hq); go_simp; first | done | with_reducible rfl | fail)) | refine held_s (i := 3) hHeld ?_ | fail
 first | (refine held_t (i := 4) hHeld ?_; constructor; constructor; intro wq hq; focus ((try dsimp only at hq); go_simp; first | done | with_reducible rfl | fail)) | refine held_s (i := 4) hHeld ?_ | fail
 try simp only [Act.put, lay4]
 refine held_c 5 fun K hK => ?_
 go_simp
 (go_at_call 15; refine (int_at _ _).mono ?_; rintro e w5 ⟨rfl, b5⟩; have HB5 := Lib.hid (Ext.trans' (Below.refl w1.heap.size w1).drew b5))
 refine hK.out _ _ (⟨cell_later b5 hHeld.1, cell_later b5 hHeld.2⟩) (fun hHeld => ?_)
 clear hK K
 try simp only [Act.put, lay4]
 refine held_c 6 fun K hK => ?_
 go_simp
 (go_at_call 94; refine (HC.out _ HB5.out).mono ?_; rintro e w6 ⟨F', R', rfl, i6, s6, t6, n6⟩; have HBQ := Lib.hid (HB5.out); have H6 := Lib.hid (And.intro i6 (And.intro s6 (And.intro t6 n6))); clear i6 s6 n6)
 refine hK.out _ _ (⟨t6.cell hFl hHeld.1, t6.cell hFl hHeld.2⟩) (fun hHeld => ?_)
 clear hK K
 try simp only [Act.put, lay4]
 first | (refine held_t (i := 7) hHeld ?_; constructor; constructor; intro wq hq; focus ((try dsimp only at hq); go_simp; first | done | with_reducible rfl | fail)) | refine held_s (i := 7) hHeld ?_ | fail
 first | (refine held_t (i := 8) hHeld ?_; constructor; constructor; intro wq hq; focus ((try dsimp only at hq); go_simp; first | done | with_reducible rfl | fail)) | refine held_s (i := 8) hHeld ?_ | fail
 first | (refine held_t (i := 9) hHeld ?_; constructor; constructor; intro wq hq; focus ((try dsimp only at hq); go_simp; first | done | with_reducible rfl | fail)) | refine held_s (i := 9) hHeld ?_ | fail
 first | (refine held_t (i := 10) hHeld ?_; constructor; constructor; intro wq hq; focus ((try dsimp only at hq); go_simp; first | done | with_reducible rfl | fail)) | refine held_s (i := 10) hHeld ?_ | fail
 try simp only [Act.put, lay4]
 refine wpAnyH_done (by kernel_rfl) ?_ _
 clear hHeld t6
 go_wp2
 go_ret2
 have hsz : w.heap.size ≤ w1.heap.size := HB.out.1.size
 refine ⟨F', R', rfl, H6.out.1, H6.out.2.1, ?_, fun k hk => (H6.out.2.2.2 k hk).imp id (fun e => Nat.le_trans (Nat.le_trans hsz HBQ.out.size) e)⟩
 exact (Touch.of_below (Ext.trans' HB.out.1 HBQ.out) F).trans H6.out.2.2.1 (fun k hk => Or.inl hk)
set_option maxHeartbeats 4000000 in
set_option maxRecDepth 100000 in
theorem stepM_atom (hI : IsB V F w p N R) (hs : Sync R S0) (h : RunS V w F mb gb tb n S p regs sl) (x : InsM) (hx : InsIn x) (hop : x.op = opAtom) {i : Nat} (ha : x.a = (i : Int)) {r : Tm} (hr : regs[i]? = some r) :
  Calls Try.prog 60 #[.pointer (some ⟨mb, 0, none⟩), insVal x] w (AlkP V F w p N (bothB N S0 r (atomT x.s))) := by
 obtain ⟨op, a, b, c, m, s⟩ := x
 obtain rfl : op = opAtom := hop
 obtain rfl : a = (i : Int) := ha
 have hil : i < regs.length := (List.getElem?_eq_some_iff.1 hr).1
 have hin : i < n := Nat.lt_of_lt_of_le hil h.len
 have hn2 := h.size
 obtain ⟨w1, e1, B1, z1, X1⟩ := box_new w #[.string opAtom, .int .i64 i, .int .i64 b, .int .i64 c, .int .i64 m, .string s] 36
 have h1 := h.ext B1
 have hI1 := hI.ext B1
 obtain ⟨c0, c1, c2, cf⟩ := h1.box.three
 have x0 := X1.cells 0 _ rfl
 have x1 := X1.cells 1 _ rfl
 have x2 := X1.cells 2 _ rfl
 have x3 := X1.cells 3 _ rfl
 have x4 := X1.cells 4 _ rfl
 have x5 := X1.cells 5 _ rfl
 have hFl : ¬ w.heap.size ∈ F := fun hm => by have := hI.lt _ hm; omega
 have HLW := Lib.hid h.lts
 have HB := Lib.hid (And.intro B1 (And.intro h1 (And.intro hI1 h)))
 have HE := Lib.hid e1
 have HX := Lib.hid hx
 have HSH := Lib.hid hs
 obtain ⟨bb, hbb⟩ : ∃ bb, bothB N S0 r (atomT s) = bb := ⟨_, rfl⟩
 have HC := Lib.hid (fun (wq : World) (hb : Below w1.heap.size w1 wq) => alikeM_at (hI1.ext hb) hs (h1.ext hb) hr (T := (atomT s)) (leaf_tm V i64_2 i64_0 HX.out.s))
 rw [hbb] at HC
 try dsimp only
 rw [hbb]
 unfold AlkP at HC
 have HO := Lib.hid h.own
 unfold insVal
 clear h hx B1 X1 z1 e1 h1 hI hI1 hr hs hbb
 unfold opAtom at x0 HE ⊢
 go_enter Try.func60, Try.ntmps60
 go_upto_region 1 with fail
 (try rw [HE.out])
 go_upto_region 10 with fail
 refine wp_region_held_drew (S := fun wq => wq.cell? ⟨w.heap.size, 1, none⟩ = some (.int .i64 i) ∧ wq.cell? ⟨w.heap.size, 5, none⟩ = some (.string s)) (by kernel_rfl) ⟨x1, x5⟩ (fun hHeld => ?_)
 first | (refine held_t (i := 0) hHeld ?_; constructor; constructor; intro wq hq; focus ((try dsimp only at hq); go_simp; first | done | with_reducible rfl | fail)) | refine held_s (i := 0) hHeld ?_ | fail
 first | (refine held_t (i := 1) hHeld ?_; constructor; constructor; intro wq hq; focus ((try dsimp only at hq); go_simp; first | done | with_reducible rfl | fail)) | refine held_s (i := 1) hHeld ?_ | fail
 first | (refine held_t (i := 2) hHeld ?_; constructor; constructor; intro wq hq; focus ((try dsimp only at hq); go_simp; first | done | with_reducible rfl | fail)) | refine held_s (i := 2) hHeld ?_ | fail
 first | (refine held_t (i := 3) hHeld ?_; constructor; constructor; intro wq hq; focus ((try dsimp only at hq); go_simp; first | done | with_reducible rfl | fail)) | refine held_s (i := 3) hHeld ?_ | fail
 first | (refine held_t (i := 4) hHeld ?_; constructor; constructor; intro wq hq; focus ((try dsimp only at hq); go_simp; first | done | with_reducible rfl | fail)) | refine held_s (i := 4) hHeld ?_ | fail
 try simp only [Act.put, lay4]
 refine held_c 5 fun K hK => ?_
 go_simp
 (go_at_call 16; refine (atom_at _ _).mono ?_; rintro e w5 ⟨rfl, b5⟩; have HB5 := Lib.hid (Ext.trans' (Below.refl w1.heap.size w1).drew b5))
 refine hK.out _ _ (⟨cell_later b5 hHeld.1, cell_later b5 hHeld.2⟩) (fun hHeld => ?_)
 clear hK K
 try simp only [Act.put, lay4]
 refine held_c 6 fun K hK => ?_
 go_simp
 (go_at_call 94; refine (HC.out _ HB5.out).mono ?_; rintro e w6 ⟨F', R', rfl, i6, s6, t6, n6⟩; have HBQ := Lib.hid (HB5.out); have H6 := Lib.hid (And.intro i6 (And.intro s6 (And.intro t6 n6))); clear i6 s6 n6)
 refine hK.out _ _ (⟨t6.cell hFl hHeld.1, t6.cell hFl hHeld.2⟩) (fun hHeld => ?_)
 clear hK K
 try simp only [Act.put, lay4]
 first | (refine held_t (i := 7) hHeld ?_; constructor; constructor; intro wq hq; focus ((try dsimp only at hq); go_simp; first | done | with_reducible rfl | fail)) | refine held_s (i := 7) hHeld ?_ | fail
 first | (refine held_t (i := 8) hHeld ?_; constructor; constructor; intro wq hq; focus ((try dsimp only at hq); go_simp; first | done | with_reducible rfl | fail)) | refine held_s (i := 8) hHeld ?_ | fail
 first | (refine held_t (i := 9) hHeld ?_; constructor; constructor; intro wq hq; focus ((try dsimp only at hq); go_simp; first | done | with_reducible rfl | fail)) | refine held_s (i := 9) hHeld ?_ | fail
 first | (refine held_t (i := 10) hHeld ?_; constructor; constructor; intro wq hq; focus ((try dsimp only at hq); go_simp; first | done | with_reducible rfl | fail)) | refine held_s (i := 10) hHeld ?_ | fail
 try simp only [Act.put, lay4]
 refine wpAnyH_done (by kernel_rfl) ?_ _
 clear hHeld t6
 go_wp2
 go_ret2
 have hsz : w.heap.size ≤ w1.heap.size := HB.out.1.size
 refine ⟨F', R', rfl, H6.out.1, H6.out.2.1, ?_, fun k hk => (H6.out.2.2.2 k hk).imp id (fun e => Nat.le_trans (Nat.le_trans hsz HBQ.out.size) e)⟩
 exact (Touch.of_below (Ext.trans' HB.out.1 HBQ.out) F).trans H6.out.2.2.1 (fun k hk => Or.inl hk)
set_option maxHeartbeats 4000000 in
set_option maxRecDepth 100000 in
theorem stepM_comp (hI : IsB V F w p N R) (h : RunS V w F mb gb tb n S p regs sl) (x : InsM) (hx : InsIn x) (hop : x.op = opComp) {i k : Nat} (ha : x.a = (i : Int)) {r : Tm} (hr : regs[i]? = some r) (hrN : ∀ m ∈ occT r, 0 ≤ m ∧ m < (N : Int)) (hk : x.b = (k : Int)) (hk1 : 1 ≤ k) (hk8 : k ≤ 8) (hC : x.c = (regs.length : Int)) (hCn : regs.length + k ≤ n) (hN : N + k ≤ 65536) (hform : formedT (nameT x.s (freshL N k)) = true) :
  Calls Try.prog 60 #[.pointer (some ⟨mb, 0, none⟩), insVal x] w (CmpP V F w mb gb tb n S p N R regs sl r k x.s) := by
 obtain ⟨w1, e1, B1, z1, X1⟩ := box_new w #[.string x.op, .int .i64 x.a, .int .i64 x.b, .int .i64 x.c, .int .i64 x.n, .string x.s] 36
 have h1 := h.ext B1
 have hI1 := hI.ext B1
 have x0 := X1.cells 0 _ rfl
 have x1 := X1.cells 1 _ rfl
 have x2 := X1.cells 2 _ rfl
 have x3 := X1.cells 3 _ rfl
 have x4 := X1.cells 4 _ rfl
 have x5 := X1.cells 5 _ rfl
 have C := compM_at hI1 h1 x hx ha hr hrN hk hk1 hk8 hC hCn hN hform
 have HB := Lib.hid B1
 have HE := Lib.hid e1
 have HP := Lib.hid (show ∀ e w', CmpP V F w1 mb gb tb n S p N R regs sl r k x.s e w' → CmpP V F w mb gb tb n S p N R regs sl r k x.s e w' from fun e w' ⟨V', F', R', N', q1, q2, q3, q4, q5⟩ =>
  ⟨V', F', R', N', q1, q2, (Touch.of_below B1 (gb :: F)).trans q3 (fun q hq => Or.inl hq), fun q hq => (q4 q hq).imp id (fun e => Nat.le_trans B1.size e), q5⟩)
 have HCS := Lib.hid (show ∀ e w', CmpP V F w1 mb gb tb n S p N R regs sl r k x.s e w' → ∃ ok, e = .returned (.tuple #[.bool ok, .int .i64 0]) from fun e w' ⟨V', F', R', N', q1, q2, q3, q4, q5⟩ => by
  rcases q5 with ⟨us, e, _⟩ | ⟨y, e, _⟩ | ⟨n0, y, e, _⟩
  ·exact ⟨_, e⟩
  ·exact ⟨_, e⟩
  ·exact ⟨_, e⟩)
 obtain ⟨op, a, b, c, m, s⟩ := x
 obtain rfl : op = opComp := hop
 unfold insVal at C ⊢
 clear hI h hx X1 z1 e1 h1 hI1 hr hrN hk hC hCn hform B1 ha
 unfold opComp at x0 HE C ⊢
 go_enter Try.func60, Try.ntmps60
 go_upto_region 1 with fail
 (try rw [HE.out])
 go_wp2_with fail
 go_fit (C)
 rintro e w2 hcm
 obtain ⟨ok, rfl⟩ := HCS.out e w2 hcm
 have HCM := Lib.hid hcm
 clear hcm C
 go_wp2
 go_ret2
 exact HP.out _ _ HCM.out
end
end Go.Proofs.Ytchbbaehdcmcfaa
/- Package code: fit; what bounds a Match. -/
namespace Go.Proofs.Ytchbbaehdcmcfaa
open Go.RowKit
set_option linter.unusedVariables false
theorem has_zero (t : Tm) : hasF 0 0 t 0 = (true, 1) := by
 obtain ⟨k, m, s, ts⟩ := t
 rw [hasF, if_pos (by omega)]
theorem hasB_fits (N : Nat) (R : List (Int × Tm)) (x : Tm) : hasB N R 0 x (0 : Int).toNat = if fitsB N x = true then (true, 1) else (false, 0) := by
 unfold hasB
 rw [show (0 : Int).toNat = 0 from rfl, has_zero]
section
variable {V w w' : World} {F F' : List Nat} {N : Nat} {p : Value} {R : List (Int × Tm)}
set_option maxHeartbeats 4000000 in
set_option maxRecDepth 100000 in
theorem fitM_at (hI : IsB V F w p N R) {a : Option Addr} {m c : Nat} {args : List Tm} (hA : Tms V (.slice a m c) args) : Calls Try.prog 59 #[p, .slice a m c] w fun e w' => e = .returned (.bool (args.all (fitsB N))) ∧ Below w.heap.size w w' := by
 obtain ⟨a', c', e, h1, h2, h3⟩ := hA.len
 obtain ⟨hm, hc⟩ : m = args.length ∧ c = c' := by injection e with _ e2 e3; exact ⟨e2, e3⟩
 have HM := Lib.hid hm
 rw [← hm] at h1 h3
 subst hc
 unfold maxLen at h2
 unfold BIG at h3
 have HAS := Lib.hid (fun (wq : World) (hb : Below w.heap.size w wq) => hA.stay ((hI.ext hb).see.1))
 have HH := Lib.hid (fun (wq : World) (hb : Below w.heap.size w wq) (x : Tm) (vx : Value) (hx : TmV V x vx) => Has_at (hI.ext hb) (n := 0) (by unfold I64; omega) hx (most := 0) (by unfold I64; omega) (by omega))
 have HTV := Lib.hid (fun (i : Nat) (y : Tm) (hy : args[i]? = some y) => hA.get hy)
 have HST := Lib.hid (fun (wq : World) (hb : Below w.heap.size w wq) => (hI.ext hb).see.1)
 obtain ⟨Z, hZ⟩ : ∃ Z, args.all (fitsB N) = Z := ⟨_, rfl⟩
 have HZ := Lib.hid hZ
 rw [hZ]
 clear hZ hA e hm
 go_enter Try.func59, Try.ntmps59
 go_wp2_with fail
 go_loopw [11] (fun v wr => ∃ i : Nat, i ≤ m ∧ v = .int .i64 i ∧ Hid ((args.take i).all (fitsB N) = true ∧ Below w.heap.size w wr)) (fun v _ => m - (RowKit.intOf v).toNat)
 case atStart => exact ⟨0, Nat.zero_le _, rfl, Lib.hid ⟨by simp, Below.refl _ _⟩⟩
 case round =>
  obtain ⟨i, hi, rfl, HI⟩ := hrel
  by_cases hil : i < m
  ·obtain ⟨y, hy⟩ : ∃ y, args[i]? = some y := ⟨_, List.getElem?_eq_getElem (by rw [← HM.out]; exact hil)⟩
   obtain ⟨b, off, k, n, s, u, ha, _, _, _, _, d0, d1, d2, d3, hyv⟩ := HTV.out i y hy
   subst ha
   obtain ⟨htu, hyv⟩ := hyv
   obtain ⟨a5, m5, c5, rfl⟩ : ∃ a5 m5 c5, u = .slice a5 m5 c5 := by obtain ⟨a5, c5, e, _⟩ := htu.len; exact ⟨_, _, _, e⟩
   clear htu
   have hst := HST.out wr HI.out.2
   replace d0 := hst.2 _ _ d0
   replace d1 := hst.2 _ _ d1
   replace d2 := hst.2 _ _ d2
   replace d3 := hst.2 _ _ d3
   have HY := Lib.hid (And.intro hyv hy)
   have hnx : (args.take (i + 1)).all (fitsB N) = ((args.take i).all (fitsB N) && fitsB N y) := by rw [List.take_add_one, hy]; simp
   have HNX := Lib.hid hnx
   obtain ⟨z, hz⟩ : ∃ z, fitsB N y = z := ⟨_, rfl⟩
   have HZY := Lib.hid hz
   clear hst hyv hy hnx hz
   go_upto_region 4 with fail
   obtain ⟨w5, e5, b5, z5, X5⟩ := box_new wr #[.int .i64 k, .int .i64 n, .string s, .slice a5 m5 c5] 31
   rw [e5]
   obtain ⟨y0, y1, y2, y3, _⟩ := X5.four
   have HB5 := Lib.hid (Ext.trans' HI.out.2 b5)
   have C := HH.out w5 HB5.out y _ HY.out.1
   rw [hasB_fits, HZY.out] at C
   clear e5 b5 z5 X5 d0 d1 d2 d3
   cases z
   ·rw [if_neg (by simp)] at C
    have hZf : Z = false := by
     rw [← HZ.out, Bool.eq_false_iff]
     intro hall
     have := List.all_eq_true.1 hall y (List.mem_of_getElem? HY.out.2)
     rw [HZY.out] at this
     cases this
    subst hZf
    (go_wp2_with fail; go_fit (C); rintro e w6 ⟨rfl, b6⟩)
    have HB6 := Lib.hid (Ext.trans' HB5.out b6)
    clear b6 C
    go_wp2
    go_ret
    exact ⟨rfl, HB6.out⟩
   ·rw [if_pos rfl] at C
    (go_wp2_with fail; go_fit (C); rintro e w6 ⟨rfl, b6⟩)
    have HB6 := Lib.hid (Ext.trans' HB5.out b6)
    clear b6 C y0 y1 y2 y3
    go_wp2
    go_roundw
    case rel => exact ⟨i + 1, by omega, by go_num, Lib.hid ⟨by rw [HNX.out, HI.out.1, HZY.out]; rfl, HB6.out⟩⟩
    case measure => simp [RowKit.intOf]; omega
  ·have hall := HI.out.1
   rw [List.take_of_length_le (by rw [← HM.out]; omega), HZ.out] at hall
   subst hall
   have HB := Lib.hid HI.out.2
   clear HI
   go_wp2
   go_ret
   exact ⟨rfl, HB.out⟩
end
end Go.Proofs.Ytchbbaehdcmcfaa
/- Package code: Match's state. -/
namespace Go.Proofs.Ytchbbaehdcmcfaa
open Go.RowKit
set_option linter.unusedVariables false
theorem CodeV.stay {V w : World} {c : CodeM} {v : Value} (h : CodeV V c v) (hs : Stays V w) : CodeV w c v := by
 obtain ⟨a, m, k, h1, h2, h3, h4, ⟨a', cap, g1, g2, g3, g4⟩, h6⟩ := h
 refine ⟨a, m, k, h1, h2, h3, h4, ⟨a', cap, g1, g2, g3, ?_⟩, h6⟩
 rcases g4 with g4 | ⟨b, off, e1, e2, e3⟩
 ·exact Or.inl g4
 ·exact Or.inr ⟨b, off, e1, Nat.lt_of_lt_of_le e2 hs.1, fun i x hx j u hu => hs.2 _ _ (e3 i x hx j u hu)⟩
theorem TRow.hideTerms {V w : World} {b n : Nat} {f : Nat → Option Tm} (h : TRow V w b n f) (hn : n ≤ 100000) {D : Nat → Bool} (hD : D b = false) (hs : Stays V (hide D w)) : Tms (hide D w) (.slice (some ⟨b, 0, none⟩) n n) ((List.range n).map fun i => (f i).getD (varV 0)) := by
 refine ⟨some ⟨b, 0, none⟩, n, by rw [List.length_map, List.length_range], by rw [List.length_map, List.length_range]; exact Nat.le_refl _, by unfold maxLen; omega, by rw [List.length_map, List.length_range]; unfold BIG; omega, Or.inr ⟨b, 0, rfl, by rw [hide_size]; exact h.lt, TmRow.mk fun i x hx => ?_⟩⟩
 rw [List.getElem?_map] at hx
 obtain ⟨i', hi', rfl⟩ := Option.map_eq_some_iff.1 hx
 have hir := (List.getElem?_eq_some_iff.1 hi').1
 rw [List.length_range] at hir
 rw [List.getElem?_range hir] at hi'
 cases hi'
 rw [Nat.zero_add]
 have hc : ∀ j c, w.cell? ⟨b, i * 4 + j, none⟩ = some c → (hide D w).cell? ⟨b, i * 4 + j, none⟩ = some c := fun j c e => by rw [hide_cell D w _ hD]; exact e
 cases hf : f i with
 | some y =>
  obtain ⟨u, h1, h2⟩ := h.held i y hir hf
  exact ⟨_, _, _, _, hc 0 _ (h2 0 _ rfl), hc 1 _ (h2 1 _ rfl), hc 2 _ (h2 2 _ rfl), hc 3 _ (h2 3 _ rfl), TmV.stay hs _ _ h1⟩
 | none =>
  have h2 := h.free i hir hf
  exact ⟨_, _, _, _, hc 0 _ (h2 0 _ rfl), hc 1 _ (h2 1 _ rfl), hc 2 _ (h2 2 _ rfl), hc 3 _ (h2 3 _ rfl), zero_tm _⟩
structure JOk (c : CodeM) (J : Nat → List Tm → (Int → Option Tm) → Nat → List (Int × Tm) → Prop) : Prop where
 var : ∀ j regs sl N S x r, J j regs sl N S → c.l[j]? = some x → x.op = opVar → regs[j]? = some r → J (j + 1) regs (setO sl x.b r) N S
 uni : ∀ j regs sl N S x r T, J j regs sl N S → c.l[j]? = some x → regs[j]? = some r → ((x.op = opVal ∧ sl x.b = some T) ∨ (x.op = opInt ∧ T = intT x.n) ∨ (x.op = opAtom ∧ T = atomT x.s)) → (uniT 2000 S r T 0).cost ≤ 2000 ∧ ((uniT 2000 S r T 0).ok = true → J (j + 1) regs sl N (uniT 2000 S r T 0).set)
 comp : ∀ j regs sl N S x r us, J j regs sl N S → c.l[j]? = some x → regs[j]? = some r → x.op = opComp → us.length = x.b.toNat → InN N (nameT x.s us) → subT (fullB S) (nameT x.s us) = subT (fullB S) r → J (j + 1) (regs ++ us) sl N S
 build : ∀ j regs sl N S x r n y, J j regs sl N S → c.l[j]? = some x → regs[j]? = some r → x.op = opComp → fullB S n = varV n → subT (fullB S) (varV n) = subT (fullB S) r → subT (fullB S) y = subT (fullB S) (nameT x.s (freshL N x.b.toNat)) → J (j + 1) (regs ++ freshL N x.b.toNat) sl (N + x.b.toNat) ((n, y) :: S)
def MatS (E : Prop) (J : Nat → List Tm → (Int → Option Tm) → Nat → List (Int × Tm) → Prop) (V0 : World) (F0 : List Nat) (w0 : World) (mb gb tb n K : Nat) (p : Value) (t : Tm) (S0 : List (Int × Tm)) (N0 : Nat) (args : List Tm) (j : Nat) (wr : World) : Prop :=
 ∃ V F R N S regs sl, Stays V0 V ∧ IsB V F wr p N R ∧ Sync R S ∧ RunS V wr F mb gb tb n K p regs sl ∧ MAt S0 N0 args t j regs sl N S ∧ Touch F0 w0 wr ∧ (∀ q ∈ F, q ∈ F0 ∨ w0.heap.size ≤ q) ∧ (∃ L, S = L ++ S0) ∧ N + (n - regs.length) ≤ 65536 ∧ N0 ≤ N ∧ (¬ E → J j regs sl N S)
def MatchP (E : Prop) (V : World) (F : List Nat) (w : World) (p : Value) (N0 : Nat) (S0 : List (Int × Tm)) (t : Tm) (args : List Tm) (e : Ending) (w' : World) : Prop :=
  ∃ V' F' R' N', Stays V V' ∧ IsB V' F' w' p N' R' ∧ Touch F w w' ∧ (∀ q ∈ F', q ∈ F ∨ w.heap.size ≤ q) ∧ N0 ≤ N' ∧
    ((∃ v S L, e = .returned (.tuple #[v, .bool true, .int .i64 0]) ∧ Tms (hide (awayB F') w') v L ∧ Sync R' S ∧ MYes S0 N0 args (hArgs t) (varsT t []).length N' S L) ∨
     (∃ er, e = .returned (.tuple #[.slice none 0 0, .bool false, .int .i64 er]) ∧ Sync R' S0 ∧ ((er = 0 ∧ MNo S0 N0 args (hArgs t)) ∨ (er = 12 ∧ E))))
def StepsP (E : Prop) (J : Nat → List Tm → (Int → Option Tm) → Nat → List (Int × Tm) → Prop) (V0 : World) (F0 : List Nat) (w0 : World) (mb gb tb n K : Nat) (p : Value) (t : Tm) (S0 : List (Int × Tm)) (N0 : Nat) (args : List Tm) (j : Nat) (e : Ending) (w' : World) : Prop :=
 (e = .returned (.tuple #[.bool true, .int .i64 0]) ∧ MatS E J V0 F0 w0 mb gb tb n K p t S0 N0 args (j + 1) w') ∨
 ∃ er V F R N S, e = .returned (.tuple #[.bool false, .int .i64 er]) ∧ Stays V0 V ∧ IsB V F w' p N R ∧ Sync R S ∧ Touch F0 w0 w' ∧ (∀ q ∈ F, q ∈ F0 ∨ w0.heap.size ≤ q) ∧ (∃ L, S = L ++ S0) ∧ N0 ≤ N ∧ ((er = 0 ∧ MNo S0 N0 args (hArgs t)) ∨ (er = 12 ∧ E))
section
variable {V0 w0 wr : World} {F0 : List Nat} {mb gb tb n K N0 j : Nat} {p : Value} {t : Tm} {args : List Tm} {S0 : List (Int × Tm)} {E : Prop} {J : Nat → List Tm → (Int → Option Tm) → Nat → List (Int × Tm) → Prop}
theorem top_free {N : Nat} {R S : List (Int × Tm)} (hT : Tri N R) (hs : Sync R S) : ∀ m : Int, (N : Int) ≤ m → fullB S m = varV m := fun m hm => by
 rw [← hs.full]
 exact full_free fun hd => by
  obtain ⟨q, hq, e⟩ := List.mem_map.1 hd
  have := hT.mem hq
  omega
theorem MatS.ext {wq : World} (h : MatS E J V0 F0 w0 mb gb tb n K p t S0 N0 args j wr) (hb : Below wr.heap.size wr wq) : MatS E J V0 F0 w0 mb gb tb n K p t S0 N0 args j wq := by
 obtain ⟨V, F, R, N, S, regs, sl, h1, h2, h3, h4, h5, h6, h7, h8, h9, h10, h11⟩ := h
 exact ⟨V, F, R, N, S, regs, sl, h1, h2.ext hb, h3, h4.ext hb, h5, h6.trans (Touch.of_below hb F0) (fun q hq => Or.inl hq), h7, h8, h9, h10, h11⟩
theorem touch_on {F : List Nat} {wq : World} (h6 : Touch F0 w0 wr) (h7 : ∀ q ∈ F, q ∈ F0 ∨ w0.heap.size ≤ q) {X : List Nat} (hX : ∀ q ∈ X, w0.heap.size ≤ q) (t : Touch (X ++ F) wr wq) : Touch F0 w0 wq := h6.trans t (fun q hq => by
 rcases List.mem_append.1 hq with e | e
 ·exact Or.inr (hX q e)
 ·exact h7 q e)
theorem steps_at (hg : goodT t = true) (hk : t.k = 2) (hn : (headC t).l.length = n) (hK : (varsT t []).length = K) (hJ : ¬ E → JOk (headC t) J) (hw0 : w0.heap.size ≤ mb ∧ w0.heap.size ≤ gb ∧ w0.heap.size ≤ tb) (hin : ∀ x ∈ (headC t).l, InsIn x) (h : MatS E J V0 F0 w0 mb gb tb n K p t S0 N0 args j wr) (hj : j < n) {x : InsM} (hx : (headC t).l[j]? = some x) (hfacts : x.op = opComp → ∃ C B : Nat, x.c = (C : Int) ∧ x.b = (B : Int) ∧ C + B ≤ n) :
    Calls Try.prog 60 #[.pointer (some ⟨mb, 0, none⟩), insVal x] wr (StepsP E J V0 F0 w0 mb gb tb n K p t S0 N0 args j) := by
  obtain ⟨V, F, R, N, S, regs, sl, h1, h2, h3, h4, h5, h6, h7, h8, h9, h10, h11⟩ := h
  obtain ⟨hTri, hN⟩ := h2.tri
  have hOk := OkS.of_tri hTri hN h3
  have hxi := hin x (List.mem_of_getElem? hx)
  obtain ⟨r, x', hr, hrN, hx', hxa, hways⟩ := h5.ways hg (by rw [hn]; exact hj)
  obtain rfl : x' = x := by rw [hx] at hx'; exact (Option.some.inj hx').symm
  have hrg := h4.goodr r (List.mem_of_getElem? hr)
  have hfr : fitsB N r = true := fitsB_true.2 ⟨hrg, hrN.2⟩
  have hsuf : ∀ (y : Tm), InN N y → ∃ L, (uniT 2000 S r y 0).set = L ++ S0 := fun y hy => by
    obtain ⟨L1, e1⟩ := h8
    obtain ⟨L2, e2⟩ := (uni_post 2000 S r y 0 hOk hrN hy (by omega) (by omega)).more
    exact ⟨L2 ++ L1, by rw [e2, e1, List.append_assoc]⟩
  -- making alike with y
  have UNI : ∀ (y : Tm), InN N y → goodT y = true → ((x'.op = opVal ∧ sl x'.b = some y) ∨ (x'.op = opInt ∧ y = intT x'.n) ∨ (x'.op = opAtom ∧ y = atomT x'.s)) →
      (∀ res, uniT 2000 S r y 0 = res → res.cost ≤ 2000 → (res.ok = true → ∀ S', fullB S' = fullB res.set → OkS N S' → (∀ m : Int, (N : Int) ≤ m → fullB S' m = varV m) → MAt S0 N0 args t (j + 1) regs sl N S') ∧ (res.ok = false → MNo S0 N0 args (hArgs t))) →
      ∀ e w', AlkP V F wr p N (bothB N S r y) e w' → StepsP E J V0 F0 w0 mb gb tb n K p t S0 N0 args j e w' := by
    intro y hy hyg hop hres e w' ⟨F', R', he, i', s', t', n'⟩
    have hfy : fitsB N y = true := fitsB_true.2 ⟨hyg, hy.2⟩
    have hb : bothB N S r y = endB S (uniT 2000 S r y 0) := by unfold bothB; rw [hfr, hfy]; rfl
    rw [hb] at he s'
    have ht : Touch F0 w0 w' := touch_on h6 h7 (X := []) (fun q hq => by cases hq) t'
    have hn' : ∀ q ∈ F', q ∈ F0 ∨ w0.heap.size ≤ q := fun q hq => (n' q hq).elim (h7 q) (fun e => Or.inr (Nat.le_trans h6.size e))
    obtain ⟨hTri', hN'⟩ := i'.tri
    by_cases hc : 2000 < (uniT 2000 S r y 0).cost
    · have hE : E := by
        by_cases hE : E
        · exact hE
        · have := ((hJ hE).uni j regs sl N S x' r y (h11 hE) hx hr hop).1
          omega
      have e9 : endB S (uniT 2000 S r y 0) = ⟨false, 0, 12, S⟩ := by unfold endB; rw [if_pos hc]
      rw [e9] at he s'
      exact Or.inr ⟨12, V, F', R', N, S, he, h1, i', s', ht, hn', h8, h10, Or.inr ⟨rfl, hE⟩⟩
    · have e9 : endB S (uniT 2000 S r y 0) = ⟨(uniT 2000 S r y 0).ok, (uniT 2000 S r y 0).cost, 0, if (uniT 2000 S r y 0).ok = true then (uniT 2000 S r y 0).set else S⟩ := by unfold endB; rw [if_neg hc]
      rw [e9] at he s'
      obtain ⟨q1, q2⟩ := hres _ rfl (by omega)
      cases hok : (uniT 2000 S r y 0).ok
      · rw [hok] at he s'
        exact Or.inr ⟨0, V, F', R', N, S, he, h1, i', s', ht, hn', h8, h10, Or.inl ⟨rfl, q2 hok⟩⟩
      · rw [hok] at he s'
        refine Or.inl ⟨he, V, F', R', N, (uniT 2000 S r y 0).set, regs, sl, h1, i', s', h4.touch t' n', q1 hok _ rfl (OkS.of_tri hTri' hN' s') (top_free hTri' s'), ht, hn', hsuf y hy, h9, h10, fun hE => ?_⟩
        exact ((hJ hE).uni j regs sl N S x' r y (h11 hE) hx hr hop).2 hok
  rcases hways with ⟨v1, v2, v3, v4, v5⟩ | ⟨v1, v2, v3, y, v4, v5, v6⟩ | ⟨T, hT, hop, _, _, _, v6⟩ | ⟨v1, k, v2, v3, v4, v5, v6, v7, v8, v9⟩
  · obtain ⟨v, hv⟩ : ∃ v : Nat, x'.b = (v : Int) := ⟨x'.b.toNat, by omega⟩
    refine (stepM_var h2 h3 h4 x' hxi v1 hxa hr hv (by omega)).mono ?_
    rintro e w' ⟨he, i', r', t'⟩
    refine Or.inl ⟨he, V, F, R, N, S, regs, _, h1, i', h3, r', by rw [← hv]; exact v5, touch_on h6 h7 (X := [tb]) (fun q hq => by have := List.mem_singleton.1 hq; omega) (t'.sub (fun q hq => List.mem_append_left _ hq)), h7, h8, h9, h10, fun hE => ?_⟩
    rw [← hv]
    exact (hJ hE).var j regs sl N S x' r (h11 hE) hx v1 hr
  · obtain ⟨v, hv⟩ : ∃ v : Nat, x'.b = (v : Int) := ⟨x'.b.toNat, by omega⟩
    have hyg := h4.goods _ _ v4
    refine (stepM_val h2 h3 h4 x' hxi v1 hxa hr hv (by omega) (y := y) (by rw [← hv]; exact v4)).mono ?_
    intro e w' hh
    exact UNI y v5 hyg (Or.inl ⟨v1, v4⟩) (fun res hres hcost => v6 res (Or.inl hres) hcost) e w' hh
  · have hTg : goodT T = true := by
      rcases hop with ⟨_, e⟩ | ⟨_, e⟩
      · rw [e]; rfl
      · rw [e]
        have := hT.1
        rw [e] at this
        rw [nm_good]
        exact (plain_kids this rfl).1
    rcases hop with ⟨o1, e⟩ | ⟨o1, e⟩
    · subst e
      refine (stepM_int h2 h3 h4 x' hxi o1 hxa hr).mono ?_
      intro e w' hh
      exact UNI _ (con_inN hT) hTg (Or.inr (Or.inl ⟨o1, rfl⟩)) v6 e w' hh
    · subst e
      refine (stepM_atom h2 h3 h4 x' hxi o1 hxa hr).mono ?_
      intro e w' hh
      exact UNI _ (con_inN hT) hTg (Or.inr (Or.inr ⟨o1, rfl⟩)) v6 e w' hh
  · obtain ⟨C, B, f1, f2, f3⟩ := hfacts v1
    have hCl : regs.length = C := by omega
    have hBk : B = k := by omega
    have hbk : x'.b.toNat = k := by omega
    refine (stepM_comp h2 h4 x' hxi v1 hxa hr hrN.2 v2 v3 v4 v5 (by omega) (by omega) (v6 _ (freshL_len N k) (formedL_iff.2 fun y hy => by
      obtain ⟨i, hi, rfl⟩ := freshL_get hy
      exact var_formed (by omega) (by omega)))).mono ?_
    rintro e w' ⟨V', F', R', N', q1, q2, q3, q4, q5⟩
    have ht : Touch F0 w0 w' := touch_on h6 h7 (X := [gb]) (fun q hq => by have := List.mem_singleton.1 hq; omega) q3
    have hn' : ∀ q ∈ F', q ∈ F0 ∨ w0.heap.size ≤ q := fun q hq => (q4 q hq).elim (h7 q) (fun e => Or.inr (Nat.le_trans h6.size e))
    have hfull := h3.full
    rcases q5 with ⟨us, he, rfl, rfl, u1, u2, u3, u4⟩ | ⟨y, he, rfl, rfl, u1, u2, u3, u4, u5⟩ | ⟨n0, y, he, rfl, u1, u2, u3, u4, rfl, u5, u6⟩
    · rw [hfull] at u2
      refine Or.inl ⟨he, V', F', R', N', S, _, sl, h1.trans q1, q2, h3, u4, v7 us u1 u2 u3, ht, hn', h8, by rw [List.length_append]; omega, h10, fun hE => ?_⟩
      exact (hJ hE).comp j regs sl N' S x' r us (h11 hE) hx hr v1 (by omega) u1 u2
    · rw [hfull] at u2
      exact Or.inr ⟨0, V', F', R', N', S, he, h1.trans q1, q2, h3, ht, hn', h8, h10, Or.inl ⟨rfl, v8 y u1 u2 u3 u4⟩⟩
    · rw [hfull] at u4 u5
      obtain ⟨hTri', hN'⟩ := q2.tri
      have hsy : Sync ((n0, y) :: R) ((n0, y) :: S) := h3.set rfl
      have hfn : fullB S n0 = varV n0 := by rw [← hfull]; exact full_free (get_none.1 u3)
      refine Or.inl ⟨he, V', F', _, _, (n0, y) :: S, _, sl, h1.trans q1, q2, hsy, u6, v9 n0 y (by omega) u1 u2 hfn u4 u5 (OkS.of_tri hTri' hN' hsy), ht, hn', ?_, by rw [List.length_append, freshL_len]; omega, by omega, fun hE => ?_⟩
      · obtain ⟨L, e⟩ := h8
        exact ⟨(n0, y) :: L, by rw [e]; rfl⟩
      · have := (hJ hE).build j regs sl N S x' r n0 y (h11 hE) hx hr v1 hfn u4 (by rw [hbk]; exact u5)
        rw [hbk] at this
        exact this
end
end Go.Proofs.Ytchbbaehdcmcfaa
