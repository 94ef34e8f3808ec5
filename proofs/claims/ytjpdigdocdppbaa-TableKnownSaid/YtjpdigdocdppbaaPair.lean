/- Tables of pairs of numbers: look, Put, Len, New. -/
import Derived.Test.YtjpdigdocdppbaaTabI
import Derived.WideKeyPair
import Derived.DeepKeys4
import Derived.StillTailTactics
import Derived.Deep.RegionHeld3
import Derived.Deep.AppendLies
import Derived.Deep.QuietTactic
import Derived.BigQuiet
namespace Go.Proofs.Ytjpdigdocdppbaa
open Go.RowKit Go.Maps Go.WideMaps

structure PairV where
  a : Int
  b : Int
def pval (k : PairV) : Value := .agg #[.int .i64 k.a, .int .i64 k.b]
def pcells (k : PairV) : List Value := [.int .i64 k.a, .int .i64 k.b]
def plit (k : PairV) : Lit := .string (keyBytes [.int .i64 k.a, .int .i64 k.b])
def pok (k : PairV) : Prop := (Lit.int .i64 k.a).wf = true ∧ (Lit.int .i64 k.b).wf = true
/-- p is a table of pairs. -/
abbrev PTab (F : List Nat) (w : World) (p : Value) (R : Nat) (ks : List PairV) : Prop := IsTab Try.prog 25 3 47 2 pcells plit pok F w p R ks
theorem pArr : ArrKey Try.prog 25 3 2 := ⟨Try.underlying25, by kernel_rfl, by kernel_rfl, by kernel_rfl⟩
theorem pRow : (25 : TypeId) < Try.prog.types.size := of_decide_eq_true (by kernel_rfl)
theorem pLaid : laidOutB Try.prog = true := by kernel_rfl
theorem pWide : (match Try.prog.underlying 25 with | some (.array _ _) | some (.struct _) => true | _ => false) = true := by rw [Try.underlying25]
theorem pLaw : Keyed Try.prog 25 := Keyed.of_law (deep_law_laid pLaid (m := 2) (by omega) pRow (by kernel_rfl) pWide)
theorem pSize : ∃ m, Try.prog.types.size = m + 1 := ⟨Try.prog.types.size - 1, by have h : 0 < Try.prog.types.size := Nat.lt_of_le_of_lt (Nat.zero_le _) pRow; omega⟩
theorem pKeyOf {k : PairV} (h : pok k) : keyOf Try.prog 25 (pval k) = some (plit k) := keyOf_pair pArr Try.underlying3 pSize h.1 h.2
theorem pInj (a b : PairV) (ha : pok a) (hb : pok b) (h : plit a = plit b) : a = b := by
  have e := pLaw.inj (pKeyOf ha) (h ▸ pKeyOf hb)
  obtain ⟨a1, a2⟩ := a; obtain ⟨b1, b2⟩ := b
  simp [pval] at e
  simp [e]
theorem pKey (k : PairV) : WideAt.IsKeyLit (plit k) := trivial
theorem pInfo : (Try.prog.info? 25).map (fun i => (i.zero, i.size, i.bytes)) = some (some (.agg #[.int .i64 0, .int .i64 0]), 2, 16) := by kernel_rfl

theorem pEq (x y : PairV) (hx : pok x) (hy : pok y) (w : World) : (Op.equalIn 10000 25 (.agg #[.int .i64 x.a, .int .i64 x.b]) (.agg #[.int .i64 y.a, .int .i64 y.b])).run Try.prog w = .ok (decide (x.a = y.a ∧ x.b = y.b)) w := by
  obtain ⟨r, h1, h2⟩ := run_equal_deep (P := Try.prog) w (m := 2) (by omega) (k := 25) (by kernel_rfl) pWide (pKeyOf hx) (pKeyOf hy)
  have e : r = decide (x.a = y.a ∧ x.b = y.b) := by
    rw [Bool.eq_iff_iff, h2, decide_eq_true_eq]
    constructor
    · intro h; have := pInj x y hx hy h; subst this; exact ⟨rfl, rfl⟩
    · rintro ⟨e1, e2⟩; unfold plit; rw [e1, e2]
  rw [← e]; exact h1
theorem plook_idle (p1 p2 p3 : Value) (w : World) :
    CallsD Try.prog 21 #[p1, p2, p3] .returning w fun e u' w' => e = .returned (.tuple #[]) ∧ u' = .returning ∧ w' = w := by
  refine callsD_of_wpS Try.func21 rfl fun c₀ cs hu => ?_
  apply wpS_seq
  apply wpS_region
  simp [wpOpsS, go_sem, recoverD, hu, Try.ntmps21, Exit.thenS]
  refine wpS_cond (t := false) (by simp [Act.eval, Array.replicate]) ?_
  simp only [Bool.false_eq_true, if_false]
  refine wpS_of_wp (wp_skip ?_)
  cases c₀
  simp_all [bodyPostS, results, Try.results21]

/-- The lookup's run, in whatever later world. -/
theorem plook_run {F : List Nat} {w : World} {p : Value} {R : Nat} {ks : List PairV} (h : PTab F w p R ks) (k : PairV) (hk : pok k) {n : Int} {b : Bool} (hl : Looks ks k n b) :
    ∃ bt bm, p = .pointer (some ⟨bt, 0, none⟩) ∧ bt < w.heap.size ∧ bm < w.heap.size ∧ w.cell? ⟨bt, 2, none⟩ = some (.map (some bm)) ∧
      ∀ w' : World, w'.heap[bm]? = w.heap[bm]? → (Instr.lookup 45 (.map (some bm)) (pval k) true).run Try.prog w' = .ok (.tuple #[.int .i64 n, .bool b]) w' := by
  obtain ⟨bt, bm, v, D, rfl, hne, h1, h2, rfl, hbt, hr, hm, hN, hR⟩ := h
  refine ⟨bt, bm, rfl, (Array.getElem?_eq_some_iff.1 hbt).1, hm.lt, by simp [blk_cell hbt], fun w' hb => ?_⟩
  obtain ⟨v', ps, hrun, hv⟩ := (owns_of_block hm hb).look_ok pLaw Try.underlying45 (sZero w') (plainElem_int Try.underlying3 (by decide)) (pKeyOf hk)
  obtain ⟨c, rfl, hc, hwc⟩ := plainElem_int_inv Try.underlying3 hv
  have hat := congrArg Prod.fst hc
  simp only at hat
  have hcn : c = n ∧ has D (plit k) = b := by
    rcases hl with ⟨rfl, i, rfl, hi⟩ | ⟨rfl, rfl, hi⟩
    · have e1 := hN.at' i k hi (.lit (.int .i64 0))
      rw [hat] at e1
      simp only [DataW.lit.injEq, Lit.int.injEq, true_and] at e1
      exact ⟨e1, (hN.has k hk).2 ⟨i, hi⟩⟩
    · have e0 : has D (plit k) = false := by
        rw [Bool.eq_false_iff]
        intro e; obtain ⟨i, hi'⟩ := (hN.has k hk).1 e
        exact hi (List.mem_of_getElem? hi')
      have e1 := atKey_of_not_has e0 (.lit (.int .i64 0))
      rw [hat] at e1
      simp only [DataW.lit.injEq, Lit.int.injEq, true_and] at e1
      exact ⟨e1, e0⟩
  rw [hcn.1, hcn.2] at hrun
  exact hrun

set_option maxHeartbeats 1000000 in
theorem plook_any {F : List Nat} {w : World} {p : Value} {R : Nat} {ks : List PairV} (h : PTab F w p R ks) (k : PairV) (hk : pok k) {n : Int} {b : Bool} (hl : Looks ks k n b) :
    Calls Try.prog 19 #[p, pval k] w fun e w' => e = .returned (.tuple #[.int .i64 n, .bool b, .bool true]) ∧ Below w.heap.size w w' := by
  obtain ⟨bt, bm, rfl, hbt, hbm, c2, hrun⟩ := plook_run h k hk hl
  clear h hl
  have hmf : ∀ (fn : Fn) (first cap : Array Value) (w : World), (Instr.makeFunc fn first cap).run Try.prog w = .ok (.func fn first cap) w := fun _ _ _ _ => rfl
  obtain ⟨ka, kb⟩ := k
  simp only [pval] at hrun
  have HRUN := Lib.hid hrun
  clear hrun
  have c2' : ∀ o0 o1 o2 o3, ((((w.alloc o0).alloc o1).alloc o2).alloc o3).cell? ⟨bt, 2, none⟩ = some (.map (some bm)) := fun o0 o1 o2 o3 => Lib.cell?_alloc_some _ (Lib.cell?_alloc_some _ (Lib.cell?_alloc_some _ (Lib.cell?_alloc_some _ c2)))
  have h4 : ∀ o0 o1 o2 o3, ((((w.alloc o0).alloc o1).alloc o2).alloc o3).heap[bm]? = w.heap[bm]? := fun o0 o1 o2 o3 =>
    (Below.heap_alloc _ _ _ (by simp; omega)).trans ((Below.heap_alloc _ _ _ (by simp; omega)).trans ((Below.heap_alloc _ _ _ (by simp; omega)).trans (Below.heap_alloc _ _ _ hbm)))
  have hL1 : ∀ o0 o1 o2 o3, (Instr.lookup 45 (.map (some bm)) (.agg #[.int .i64 ka, .int .i64 kb]) true).run Try.prog ((((w.alloc o0).alloc o1).alloc o2).alloc o3) = .ok (.tuple #[.int .i64 n, .bool b]) ((((w.alloc o0).alloc o1).alloc o2).alloc o3) := fun o0 o1 o2 o3 => HRUN.out _ (h4 _ _ _ _)
  have hL2 : ∀ o0 o1 o2 o3, (Instr.lookup 45 (.map (some bm)) (.agg #[.int .i64 ka, .int .i64 kb]) true).run Try.prog ((((w.alloc o0).alloc o1).alloc o2).alloc o3).drew = .ok (.tuple #[.int .i64 n, .bool b]) ((((w.alloc o0).alloc o1).alloc o2).alloc o3).drew := fun o0 o1 o2 o3 => HRUN.out _ (h4 _ _ _ _)
  clear h4
  unfold pval
  go_enter_defers Try.func19, Try.ntmps19
  go_wp2_with (first | go_region | go_in)
  refine leaves_cons (f := 21) (args := #[.pointer (some ⟨w.heap.size + 1, 0, none⟩), .pointer (some ⟨w.heap.size + 1 + 1, 0, none⟩), .pointer (some ⟨w.heap.size + 1 + 1 + 1, 0, none⟩)]) (by simp) (by simp [go_sem]) ?_
  refine (plook_idle _ _ _ _).mono ?_
  rintro e u' w'' ⟨rfl, rfl, rfl⟩
  simp [Leaves, settle, results, Try.results19, go_sem]
  exact (((((Below.refl _ _).alloc (by simp) _).alloc (by simp <;> omega) _).alloc (by simp <;> omega) _).alloc (by simp <;> omega) _).drew.drew

theorem plen_any {F : List Nat} {w : World} {p : Value} {R : Nat} {ks : List PairV} (h : PTab F w p R ks) :
    Calls Try.prog 18 #[p] w fun e w' => e = .returned (.int .i64 ks.length) ∧ w = w' := by
  obtain ⟨bt, bm, v, D, rfl, hne, h1, h2, rfl, hbt, hr, hm, hN, hR⟩ := h
  have c1 : w.cell? ⟨bt, 1, none⟩ = some v := by simp [blk_cell hbt]
  obtain ⟨a, c, rfl⟩ := row_slice hr
  clear hm hbt hN hr h1 h2
  go_enter Try.func18, Try.ntmps18
  go_wp2
  go_ret
  exact ⟨rfl, rfl⟩

theorem pnew_done (w : World) {R : Nat} {x : Int} (hx : x = R) (hR : 1 ≤ R ∧ R ≤ 65536) :
    PTab [w.heap.size + 1, w.heap.size] ((w.alloc (.map #[] 0)).alloc (.cells #[.int .i64 x, .slice none 0 0, .map (some w.heap.size)] 47)) (.pointer (some ⟨w.heap.size + 1, 0, none⟩)) R [] ∧
      Below w.heap.size w ((w.alloc (.map #[] 0)).alloc (.cells #[.int .i64 x, .slice none 0 0, .map (some w.heap.size)] 47)) ∧ ∀ k ∈ [w.heap.size + 1, w.heap.size], w.heap.size ≤ k := by
  subst hx
  refine ⟨⟨w.heap.size + 1, w.heap.size, .slice none 0 0, .map [], rfl, by omega, by simp [Value.ownBlock], by simp [Value.ownBlock], rfl, ?_, World.ownsRow_nil _ _ _ _, ?_, Numbers.nil _ _, hR.1, hR.2, by simp⟩, ?_, by simp⟩
  · have := heap_alloc_new (w.alloc (.map #[] 0)) (.cells #[.int .i64 (R : Int), .slice none 0 0, .map (some w.heap.size)] 47)
    simpa using this
  · exact (World.ownsMap_made w _ _ _).alloc _
  · exact ((Below.refl _ _).alloc (Nat.le_refl _) _).alloc (by simp) _
theorem pnew_any (m : Int) (R : Nat) (hR : (R : Int) = max 1 (min m 65536)) (w : World) :
    Calls Try.prog 9 #[.int .i64 m] w fun e w' => ∃ p, e = .returned p ∧ ∃ F, PTab F w' p R [] ∧ Below w.heap.size w w' ∧ ∀ k ∈ F, w.heap.size ≤ k := by
  have hmm := @run_makeMap Try.prog
  go_enter Try.func9, Try.ntmps9
  go_wp2
  all_goals go_ret
  · exact ⟨_, rfl, _, pnew_done (R := R) w (by omega) (by omega)⟩
  · exact ⟨_, rfl, _, pnew_done (R := R) w (by omega) (by omega)⟩
  · exact ⟨_, rfl, _, pnew_done (R := R) w (by omega) (by omega)⟩
end Go.Proofs.Ytjpdigdocdppbaa
