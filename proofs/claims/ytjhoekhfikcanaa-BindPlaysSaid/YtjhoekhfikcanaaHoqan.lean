import Derived.Deep.RegionHeld3
import Derived.Test.YtjhoekhfikcanaaHoqab
import Derived.Test.YtjhoekhfikcanaaHoqam
import Derived.Test.YtjhoekhfikcanaaHoqae
import Derived.Test.YtjhoekhfikcanaaHoqaf
set_option linter.unusedVariables false
set_option linter.unusedSimpArgs false
/- A region that draws its order, walked while a condition B holds, and a condition C till operation l has come up: what l waits for may be taken first under C. Nothing here speaks of one program. -/
namespace Go
section
variable {P : Program} {md : Region.Mode} {ops : Array Oper} {Q : Exit → Act → World → Prop} {B C : World → Prop} {l : Nat}
/-- B, and C till l has come up. -/
def TillG (B C : World → Prop) (l : Nat) (listed : Array Bool) (w : World) : Prop := B w ∧ (listed.getD l true = false → C w)
def wpAnyG (P : Program) (md : Region.Mode) (ops : Array Oper) (Q : Exit → Act → World → Prop) (B C : World → Prop) (l : Nat) : Nat → Array Bool → Act → World → Prop
  | 0, listed, a, w => Region.ready md ops listed = [] ∧ Q .normal a w
  | fuel + 1, listed, a, w => (Region.ready md ops listed = [] → Q .normal a w) ∧
    ∀ i ∈ Region.ready md ops listed, wpOp P ops Q i (fun a' w' => TillG B C l (listed.setIfInBounds i true) w' ∧ wpAnyG P md ops Q B C l fuel (listed.setIfInBounds i true) a' w') a w
theorem wpAny_of_G : ∀ (fuel : Nat) (listed : Array Bool) (a : Act) (w : World), wpAnyG P md ops Q B C l fuel listed a w → wpAny P md ops Q fuel listed a w
  | 0, _, _, _, h => h
  | fuel + 1, _, _, _, h => ⟨h.1, fun i hi => wpOp_mono (fun a' w' h' => wpAny_of_G fuel _ a' w' h'.2) (h.2 i hi)⟩
theorem TillG.unset {i : Nat} {listed : Array Bool} {w : World} (hil : i ≠ l) : TillG B C l (listed.setIfInBounds i true) w ↔ TillG B C l listed w := by
  unfold TillG
  rw [getD_set_ne true hil]
theorem G_first {i : Nat} {oi : Oper} {v : Value} (hi : ops[i]? = some oi) (hsel : ∀ (j : Nat) (o : Oper) cs b, ops[j]? = some o → o.op ≠ .select cs b)
    (hQ : ∀ c a w, Q (.panic c) (a.put oi.dst v) w → Q (.panic c) a w) (hil : i ≠ l) (J : Array Bool → Prop) (E : World → Prop) (hE : ∀ listed w, J listed → TillG B C l listed w → E w)
    (hJ : ∀ listed j, J listed → i ∈ Region.ready md ops listed → j ∈ Region.ready md ops listed → j ≠ i → J (listed.setIfInBounds j true)) :
    ∀ (fuel : Nat) (listed : Array Bool) (a : Act) (w : World), J listed →
      (∀ j oj, ops[j]? = some oj → j ≠ i → listed.getD j true = false → (∀ e ∈ oj.after, Region.binds md e = true → e.on ≠ i) → oi.apart ops oj = true) →
      i ∈ Region.ready md ops listed → YieldsIf P ops E oi v a → TillG B C l listed w →
      wpAnyG P md ops Q B C l fuel (listed.setIfInBounds i true) (a.put oi.dst v) w → wpAnyG P md ops Q B C l (fuel + 1) listed a w := by
  intro fuel
  induction fuel with
  | zero =>
    intro listed a w hj _ hr hy hS H
    refine ⟨fun h => (by rw [h] at hr; cases hr), fun j hj' => ?_⟩
    by_cases hji : j = i
    · subst hji; exact hy.wpOp hi (hE _ _ hj hS) ⟨(TillG.unset hil).2 hS, H⟩
    · have := ready_mono hj' hji
      rw [H.1] at this
      cases this
  | succ fuel ih =>
    intro listed a w hj hfree hr hy hS H
    refine ⟨fun h => (by rw [h] at hr; cases hr), fun j hj' => ?_⟩
    by_cases hji : j = i
    · subst hji; exact hy.wpOp hi (hE _ _ hj hS) ⟨(TillG.unset hil).2 hS, H⟩
    · have h1 := H.2 j (ready_mono hj' hji)
      obtain ⟨hjun, oj, hoj, hall⟩ := mem_ready.1 hj'
      have hnot : ∀ e ∈ oj.after, Region.binds md e = true → e.on ≠ i := fun e he hb heq => by
        have h1 := hall e he hb
        have h0 := (mem_ready.1 hr).1
        rw [heq] at h1
        rcases Nat.lt_or_ge i listed.size with h' | h'
        · simp [h'] at h0 h1; rw [h0] at h1; cases h1
        · simp [Array.getElem?_eq_none h'] at h1
      have h2 := wpOp_putIf hoj (hfree j oj hoj hji hjun hnot) (fun cs b => hsel i oi cs b hi) (fun cs b => hsel j oj cs b hoj) hQ hy h1
      have hfree' : ∀ k ok, ops[k]? = some ok → k ≠ i → (listed.setIfInBounds j true).getD k true = false →
          (∀ e ∈ ok.after, Region.binds md e = true → e.on ≠ i) → oi.apart ops ok = true := fun k ok hk hki hun hno => by
        refine hfree k ok hk hki ?_ hno
        by_cases hjk : j = k
        · subst hjk; exact hjun
        · rw [getD_set_ne true hjk] at hun; exact hun
      refine wpOp_mono (fun a' w' h3 => ?_) h2
      have hcomm := Array.setIfInBounds_comm (xs := listed) true true hji
      obtain ⟨h4, h5, h6⟩ := h3
      rw [← hcomm] at h5 h6
      have h7 := (TillG.unset hil).1 h5
      exact ⟨h7, ih (listed.setIfInBounds j true) a' w' (hJ listed j hj hr hj' hji) hfree' (ready_mono hr (Ne.symm hji)) h4 h7 h6⟩
/-- One that answers so under B. -/
theorem g_tb {i : Nat} {oi : Oper} {fuel : Nat} {listed : Array Bool} {a : Act} {w : World} (hS : TillG B C l listed w)
    (h : ∃ v, (∀ w, B w → (execOp a.eval oi).run P w = .ok (.value v) w) ∧ wpAnyG P md ops Q B C l fuel (listed.setIfInBounds i true) (a.put oi.dst v) w)
    (hi : ops[i]? = some oi := by simp only [List.getElem?_toArray, List.getElem?_cons_zero, List.getElem?_cons_succ]; rfl) (hil : i ≠ l := by decide)
    (hs : Region.noSelect ops = true := by kernel_rfl) (hf : Region.free md ops listed i = true := by kernel_rfl) (hr : (Region.ready md ops listed).contains i = true := by kernel_rfl) (hw : Region.wanted oi (yielded ops a.tmps) = true := by rfl)
    (hQ : ∀ v c a w, Q (.panic c) (a.put oi.dst v) w → Q (.panic c) a w := by exact fun _ _ _ _ h => h) : wpAnyG P md ops Q B C l (fuel + 1) listed a w := by
  obtain ⟨v, h1, h2⟩ := h
  exact G_first hi (Region.noSelect_spec hs) (hQ v) hil (fun _ => True) B (fun _ _ _ h => h.1) (fun _ _ _ _ _ _ => trivial) fuel listed a w trivial (Region.free_spec hi hf) (by simpa using hr) (Or.inl ⟨hw, h1⟩) hS h2
/-- One that answers so under C, and that l waits for. -/
theorem g_tc {i : Nat} {oi ol : Oper} {fuel : Nat} {listed : Array Bool} {a : Act} {w : World} (hS : TillG B C l listed w)
    (h : ∃ v, (∀ w, C w → (execOp a.eval oi).run P w = .ok (.value v) w) ∧ wpAnyG P md ops Q B C l fuel (listed.setIfInBounds i true) (a.put oi.dst v) w)
    (hi : ops[i]? = some oi := by simp only [List.getElem?_toArray, List.getElem?_cons_zero, List.getElem?_cons_succ]; rfl) (hol : ops[l]? = some ol := by simp only [List.getElem?_toArray, List.getElem?_cons_zero, List.getElem?_cons_succ]; rfl)
    (hwt : (ol.after.any fun e => Region.binds md e && e.on == i) = true := by kernel_rfl) (hul : listed.getD l true = false := by kernel_rfl) (hil : i ≠ l := by decide)
    (hs : Region.noSelect ops = true := by kernel_rfl) (hf : Region.free md ops listed i = true := by kernel_rfl) (hr : (Region.ready md ops listed).contains i = true := by kernel_rfl) (hw : Region.wanted oi (yielded ops a.tmps) = true := by rfl)
    (hQ : ∀ v c a w, Q (.panic c) (a.put oi.dst v) w → Q (.panic c) a w := by exact fun _ _ _ _ h => h) : wpAnyG P md ops Q B C l (fuel + 1) listed a w := by
  obtain ⟨v, h1, h2⟩ := h
  refine G_first hi (Region.noSelect_spec hs) (hQ v) hil (fun x => x.getD l true = false) C (fun _ _ hj h => h.2 hj) (fun x j hj hri hrj hji => ?_) fuel listed a w hul (Region.free_spec hi hf) (by simpa using hr) (Or.inl ⟨hw, h1⟩) hS h2
  have hjl : j ≠ l := fun e => by
    subst e
    obtain ⟨_, oj, hoj, hall⟩ := mem_ready.1 hrj
    rw [hol] at hoj
    cases hoj
    obtain ⟨e, he, hb⟩ := Array.any_eq_true'.1 hwt
    simp only [Bool.and_eq_true, beq_iff_eq] at hb
    have h3 := hall e he hb.1
    have h0 := (mem_ready.1 hri).1
    rw [hb.2] at h3
    rcases Nat.lt_or_ge i x.size with h' | h'
    · simp [h'] at h0 h3; rw [h0] at h3; cases h3
    · simp [Array.getElem?_eq_none h'] at h3
  show (x.setIfInBounds j true).getD l true = false
  rw [getD_set_ne true hjl]
  exact hj
def AllReadyG (P : Program) (md : Region.Mode) (ops : Array Oper) (Q : Exit → Act → World → Prop) (B C : World → Prop) (l fuel : Nat) (listed : Array Bool) (a : Act) (w : World) (rs : List Nat) : Prop :=
  ∀ i ∈ rs, wpOp P ops Q i (fun a' w' => TillG B C l (listed.setIfInBounds i true) w' ∧ wpAnyG P md ops Q B C l fuel (listed.setIfInBounds i true) a' w') a w
theorem AllReadyG.nil {fuel : Nat} {listed : Array Bool} {a : Act} {w : World} : AllReadyG P md ops Q B C l fuel listed a w [] := fun _ h => by cases h
theorem AllReadyG.cons {fuel : Nat} {listed : Array Bool} {a : Act} {w : World} {i : Nat} {o : Oper} {rs : List Nat} (ho : ops[i]? = some o)
    (h : ∀ K' : Act → World → Prop, Shut (∀ a w, TillG B C l (listed.setIfInBounds i true) w → (TillG B C l (listed.setIfInBounds i true) w → wpAnyG P md ops Q B C l fuel (listed.setIfInBounds i true) a w) → K' a w) → if Region.wanted o (yielded ops a.tmps) = true then Oper.wp P o a w K' Q else K' (a.put o.dst undef) w)
    (hs : AllReadyG P md ops Q B C l fuel listed a w rs) : AllReadyG P md ops Q B C l fuel listed a w (i :: rs) := fun j hj => by
  rcases List.mem_cons.1 hj with rfl | hj
  · exact wpOp_step ho (fun K' hK => h K' (fun a w hS hW => hK a w ⟨hS, hW hS⟩))
  · exact hs j hj
theorem g_ready {rs : List Nat} {fuel : Nat} {listed : Array Bool} {a : Act} {w : World} (hr : Region.ready md ops listed = rs) (hne : rs ≠ [])
    (h : AllReadyG P md ops Q B C l fuel listed a w rs) : wpAnyG P md ops Q B C l (fuel + 1) listed a w := ⟨fun h0 => absurd (hr ▸ h0) hne, hr ▸ h⟩
theorem g_done {listed : Array Bool} {a : Act} {w : World} (hr : Region.ready md ops listed = []) (h : Q .normal a w) : ∀ fuel, wpAnyG P md ops Q B C l fuel listed a w
  | 0 => ⟨hr, h⟩
  | _ + 1 => ⟨fun _ => h, by rw [hr]; simp⟩
theorem g_begin {id : Nat} {a : Act} {w : World} (l : Nat) (hm : P.follows .mixedOrders = true) (hB : B w.drew) (hC : C w.drew)
    (h : B w.drew → C w.drew → wpAnyG P .any ops Q B C l ops.size (Array.replicate ops.size false) a w.drew) : (Code.region id ops true).wp P Q a w :=
  wp_region_any hm (wpAny_of_G _ _ _ _ (h hB hC))
end
end Go
/- The document's side of chapter 11: Fresh. -/
namespace Go.Proofs.Ytjhoekhfikcanaa
open Go.RowKit
set_option linter.unusedVariables false

theorem infoBool : (Try.prog.info? 4).map (fun i => (i.zero, i.size, i.bytes)) = some (some (.bool false), 1, 1) := by kernel_rfl
section
variable {V w : World} {F : List Nat} {p : Value} {N : Nat} {R : List (Int × Tm)}
set_option maxHeartbeats 8000000 in
set_option maxRecDepth 100000 in
theorem RFresh_at (h : IsR V F w p N R) (hN : N < 65536) :
    Calls Try.prog 27 #[p] w fun e w' => ∃ F', e = .returned (.tuple #[.agg #[.int .i64 0, .int .i64 N, .string ⟨#[]⟩, .slice none 0 0], .bool true]) ∧ IsR V F' w' p (N + 1) R ∧ Touch F w w' ∧ ∀ k ∈ F', k ∈ F ∨ w.heap.size ≤ k := by
  have HLT := Lib.hid h.lt
  have HSEE := Lib.hid h.see
  obtain ⟨bt, a1, c1, a2, c2, a3, c3, rfl, hlt, d0, d1, _, _⟩ := h.open
  obtain ⟨xs, ys, hrow1, hrow2, hmid, hgrow⟩ := h.grow hN rfl d0 d1
  obtain ⟨i0, hi0, hz0, hs0, hb0⟩ := info_parts infoTermR
  have hbn : (∀ j, w.frozen? ⟨bt, j, none⟩ = false) := by
    obtain ⟨bt', v1, v2, v3, ts, bs, e, rfl, hn, h1, _⟩ := h
    cases e
    exact fun j => by simp [World.frozen?, h1]
  have hge : decide ((65536 : Int) ≤ (N : Int)) = false := by simp; omega
  have hwr : IntKind.i64.wrap (((N + 1 : Nat) : Int) - 1) = (N : Int) := by rw [IntKind.wrap_i64]; omega
  obtain ⟨w1, e1, B1, z1, X1⟩ := box_new w #[.int .i64 0, .int .i64 0, .string ⟨#[]⟩, .slice none 0 0] 48
  have HB1 := Lib.hid (And.intro B1 X1)
  have HO1 := Lib.hid (fun (k : Nat) (hk : some k = (Value.slice a1 N c1).ownBlock ∨ (Value.slice a1 N c1).ownBlock = some k) => (show k < w.heap.size from (hrow1.lt k (hk.elim Eq.symm id)).2))
  have HR1 := Lib.hid (fun (x : World) (hb : Below w.heap.size w x) => row_ext hrow1 hb)
  have HMID := Lib.hid hmid
  have HGROW := Lib.hid hgrow
  have k0 := cell_later B1 d0
  have k1 := cell_later B1 d1
  have f0 : w1.frozen? ⟨bt, 0, none⟩ = false := (B1.frozen (p := ⟨bt, 0, none⟩) hlt).trans (hbn 0)
  have f1 : w1.frozen? ⟨bt, 1, none⟩ = false := (B1.frozen (p := ⟨bt, 1, none⟩) hlt).trans (hbn 1)
  have HE1 := Lib.hid e1
  have HD0 := Lib.hid (And.intro d0 d1)
  have HZ1 := Lib.hid z1
  obtain ⟨j0, hj0, hy0, hy1, hy2⟩ := info_parts infoBool
  clear h hrow1 hrow2 hmid hgrow B1 X1 d0 d1 hbn e1
  go_enter Try.func27, Try.ntmps27
  go_upto_region 1 with fail
  rw [HE1.out]
  go_upto_region 3 with fail
  refine g_begin (B := fun w' => w'.frozen? ⟨bt, 0, none⟩ = false ∧ w'.frozen? ⟨bt, 1, none⟩ = false) (C := fun w' => w'.cell? ⟨bt, 0, none⟩ = some (.slice a1 N c1) ∧ w'.cell? ⟨bt, 1, none⟩ = some (.slice a2 N c2)) 17 (by kernel_rfl) ⟨f0, f1⟩ ⟨k0, k1⟩ (fun hHB hHC => ?_)
  refine g_tb (i := 0) ⟨hHB, fun _ => hHC⟩ ?_; apply Exists.intro; refine ⟨fun wq hq => ?_, ?_⟩; (focus ((try dsimp only at hq); go_simp; (first | done | with_reducible rfl | fail)))
  refine g_tb (i := 1) ⟨hHB, fun _ => hHC⟩ ?_; apply Exists.intro; refine ⟨fun wq hq => ?_, ?_⟩; (focus ((try dsimp only at hq); go_simp; (first | done | with_reducible rfl | fail)))
  refine g_tb (i := 2) ⟨hHB, fun _ => hHC⟩ ?_; apply Exists.intro; refine ⟨fun wq hq => ?_, ?_⟩; (focus ((try dsimp only at hq); go_simp; (first | done | with_reducible rfl | fail)))
  refine g_tb (i := 3) ⟨hHB, fun _ => hHC⟩ ?_; apply Exists.intro; refine ⟨fun wq hq => ?_, ?_⟩; (focus ((try dsimp only at hq); go_simp; (first | done | with_reducible rfl | fail)))
  refine g_tb (i := 4) ⟨hHB, fun _ => hHC⟩ ?_; apply Exists.intro; refine ⟨fun wq hq => ?_, ?_⟩; (focus ((try dsimp only at hq); go_simp; (first | done | with_reducible rfl | fail)))
  refine g_tc (i := 5) ⟨hHB, fun _ => hHC⟩ ?_; apply Exists.intro; refine ⟨fun wq hq => ?_, ?_⟩; (focus ((try dsimp only at hq); go_simp; (first | done | with_reducible rfl | fail)))
  refine g_tb (i := 6) ⟨hHB, fun _ => hHC⟩ ?_; apply Exists.intro; refine ⟨fun wq hq => ?_, ?_⟩; (focus ((try dsimp only at hq); go_simp; (first | done | with_reducible rfl | fail)))
  refine g_tb (i := 9) ⟨hHB, fun _ => hHC⟩ ?_; apply Exists.intro; refine ⟨fun wq hq => ?_, ?_⟩; (focus ((try dsimp only at hq); go_simp; (first | done | with_reducible rfl | fail)))
  refine g_tb (i := 10) ⟨hHB, fun _ => hHC⟩ ?_; apply Exists.intro; refine ⟨fun wq hq => ?_, ?_⟩; (focus ((try dsimp only at hq); go_simp; (first | done | with_reducible rfl | fail)))
  refine g_tb (i := 11) ⟨hHB, fun _ => hHC⟩ ?_; apply Exists.intro; refine ⟨fun wq hq => ?_, ?_⟩; (focus ((try dsimp only at hq); go_simp; (first | done | with_reducible rfl | fail)))
  refine g_tc (i := 12) ⟨hHB, fun _ => hHC⟩ ?_; apply Exists.intro; refine ⟨fun wq hq => ?_, ?_⟩; (focus ((try dsimp only at hq); go_simp; (first | done | with_reducible rfl | fail)))
  try simp only [Act.put, List.setIfInBounds_toArray, List.set_cons_zero, List.set_cons_succ]
  refine g_ready (rs := [7, 13]) (by kernel_rfl) (by simp) ?_
  refine AllReadyG.cons (by simp only [List.getElem?_toArray, List.getElem?_cons_zero, List.getElem?_cons_succ]; rfl) (fun K hK => ?_) (AllReadyG.cons (by simp only [List.getElem?_toArray, List.getElem?_cons_zero, List.getElem?_cons_succ]; rfl) (fun K hK => ?_) AllReadyG.nil)
  · go_simp
    refine hK.out _ _ ⟨⟨((bel1' _ _).frozen (p := ⟨bt, 0, none⟩) (World.block_lt_of_cell? _ _ hHC.1)).trans hHB.1, ((bel1' _ _).frozen (p := ⟨bt, 1, none⟩) (World.block_lt_of_cell? _ _ hHC.2)).trans hHB.2⟩, fun _ => ⟨cell_later (bel1' _ _) hHC.1, cell_later (bel1' _ _) hHC.2⟩⟩ (fun hHeld => ?_)
    replace hHB := hHeld.1
    replace hHC := hHeld.2 (by kernel_rfl)
    dsimp only at hHB hHC
    clear hHeld hK K
    try simp only [Act.put, List.setIfInBounds_toArray, List.set_cons_zero, List.set_cons_succ]
    refine g_ready (rs := [8, 13]) (by kernel_rfl) (by simp) ?_
    refine AllReadyG.cons (by simp only [List.getElem?_toArray, List.getElem?_cons_zero, List.getElem?_cons_succ]; rfl) (fun K hK => ?_) (AllReadyG.cons (by simp only [List.getElem?_toArray, List.getElem?_cons_zero, List.getElem?_cons_succ]; rfl) (fun K hK => ?_) AllReadyG.nil)
    · have HX1 := Lib.hid (show Below w.heap.size w (w1.alloc (.cells #[.int .i64 0, .int .i64 0, .string ⟨#[]⟩, .slice none 0 0] 48)).drew from (Ext.trans' HB1.out.1 (bel1' _ _)).drew)
      refine step_append_k (by rfl) _ _ 46 (by rfl) 0 48 i0 (.agg #[.int .i64 0, .int .i64 0, .string ⟨#[]⟩, .slice none 0 0]) 4 56 Try.underlying46 hi0 hz0 hs0 (by decide) hb0 rfl (.slice a1 N c1) N xs (by rfl) (HR1.out _ HX1.out) (some ⟨w.heap.size + 1, 0, none⟩) 1 1 [.int .i64 0, .int .i64 0, .string ⟨#[]⟩, .slice none 0 0] (by rfl) (by rfl) (Or.inr ⟨_, rfl, fun j u hu => (by rw [← HZ1.out]; exact cell_new w1 #[.int .i64 0, .int .i64 0, .string ⟨#[]⟩, .slice none 0 0] 48 j u hu)⟩) (by simp [Value.oneCell']) (by unfold maxLen; omega) (by omega) (Nat.zero_le _) (N + 1) (xs ++ [.int .i64 0, .int .i64 0, .string ⟨#[]⟩, .slice none 0 0]) rfl rfl ?_
      intro a4 c4 wA hownA hgrowA hatA
      obtain ⟨_, mc, mf⟩ := HMID.out _ wA wA HX1.out hgrowA (Below.refl _ _)
      have HGA := Lib.hid (And.intro hgrowA (And.intro hatA hownA))
      refine hK.out _ _ ⟨⟨mf 0, mf 1⟩, fun _ => ⟨(mc 0).trans HD0.out.1, (mc 1).trans HD0.out.2⟩⟩ (fun hHeld => ?_)
      replace hHB := hHeld.1
      replace hHC := hHeld.2 (by kernel_rfl)
      dsimp only at hHB hHC
      clear hHeld hK K
      try simp only [Act.put, List.setIfInBounds_toArray, List.set_cons_zero, List.set_cons_succ]
      clear mc mf hgrowA hatA hownA
      refine g_ready (rs := [13]) (by kernel_rfl) (by simp) ?_
      refine AllReadyG.cons (by simp only [List.getElem?_toArray, List.getElem?_cons_zero, List.getElem?_cons_succ]; rfl) (fun K hK => ?_) AllReadyG.nil
      go_simp
      refine hK.out _ _ ⟨⟨((bel1' _ _).frozen (p := ⟨bt, 0, none⟩) (World.block_lt_of_cell? _ _ hHC.1)).trans hHB.1, ((bel1' _ _).frozen (p := ⟨bt, 1, none⟩) (World.block_lt_of_cell? _ _ hHC.2)).trans hHB.2⟩, fun _ => ⟨cell_later (bel1' _ _) hHC.1, cell_later (bel1' _ _) hHC.2⟩⟩ (fun hHeld => ?_)
      replace hHB := hHeld.1
      replace hHC := hHeld.2 (by kernel_rfl)
      dsimp only at hHB hHC
      clear hHeld hK K
      try simp only [Act.put, List.setIfInBounds_toArray, List.set_cons_zero, List.set_cons_succ]
      refine g_ready (rs := [14]) (by kernel_rfl) (by simp) ?_
      refine AllReadyG.cons (by simp only [List.getElem?_toArray, List.getElem?_cons_zero, List.getElem?_cons_succ]; rfl) (fun K hK => ?_) AllReadyG.nil
      have HX2 := Lib.hid (bel1' wA (.cells #[.bool false] 4))
      refine step_append_k (by rfl) _ _ 50 (by rfl) 0 4 j0 (.bool false) 1 1 Try.underlying50 hj0 hy0 hy1 (by decide) hy2 rfl (.slice a2 N c2) N ys (by rfl) (HMID.out _ wA _ HX1.out HGA.out.1 HX2.out).1 (some ⟨wA.heap.size, 0, none⟩) 1 1 [.bool false] (by rfl) (by rfl) (Or.inr ⟨_, rfl, fun j u hu => cell_new wA #[.bool false] 4 j u hu⟩) (by simp [Value.oneCell']) (by unfold maxLen; omega) (by omega) (Nat.zero_le _) (N + 1) (ys ++ [.bool false]) rfl rfl ?_
      intro a5 c5 wB hownB hgrowB hatB
      obtain ⟨mc, mf, F', q1, q2, q3, q4, q5⟩ := HGROW.out _ wA _ wB (.slice a4 (N + 1) c4) (.slice a5 (N + 1) c5) HX1.out HGA.out.1 HGA.out.2.1 HGA.out.2.2 HX2.out hgrowB hatB hownB
      have HQ := Lib.hid (And.intro q1 (And.intro q2 q3))
      have HBX := Lib.hid (And.intro q4 q5)
      refine hK.out _ _ ⟨⟨mf 0, mf 1⟩, fun _ => ⟨(mc 0).trans HD0.out.1, (mc 1).trans HD0.out.2⟩⟩ (fun hHeld => ?_)
      replace hHB := hHeld.1
      replace hHC := hHeld.2 (by kernel_rfl)
      dsimp only at hHB hHC
      clear hHeld hK K
      try simp only [Act.put, List.setIfInBounds_toArray, List.set_cons_zero, List.set_cons_succ]
      clear mc mf q1 q2 q3 q4 q5 hownB hgrowB hatB
      refine g_tb (i := 15) ⟨hHB, fun _ => hHC⟩ ?_; apply Exists.intro; refine ⟨fun wq hq => ?_, ?_⟩; (focus ((try dsimp only at hq); go_simp; (first | done | with_reducible rfl | fail)))
      refine g_tb (i := 16) ⟨hHB, fun _ => hHC⟩ ?_; apply Exists.intro; refine ⟨fun wq hq => ?_, ?_⟩; (focus ((try dsimp only at hq); go_simp; (first | done | with_reducible rfl | fail)))
      try simp only [Act.put, List.setIfInBounds_toArray, List.set_cons_zero, List.set_cons_succ]
      refine g_ready (rs := [17]) (by kernel_rfl) (by simp) ?_
      refine AllReadyG.cons (by simp only [List.getElem?_toArray, List.getElem?_cons_zero, List.getElem?_cons_succ]; rfl) (fun K hK => ?_) AllReadyG.nil
      have HC0 := Lib.hid hHC.1
      have hC1 : (wB.setCell ⟨bt, 0, none⟩ (.slice a4 (N + 1) c4)).cell? ⟨bt, 1, none⟩ = some (.slice a2 N c2) := by rw [World.cell?_setCell_other]; exact hHC.2; intro e; injection e with _ e _; cases e
      go_simp
      refine hK.out _ _ ⟨(by (show (wB.setCell ⟨bt, 0, none⟩ (.slice a4 (N + 1) c4)).frozen? ⟨bt, 0, none⟩ = false ∧ (wB.setCell ⟨bt, 0, none⟩ (.slice a4 (N + 1) c4)).frozen? ⟨bt, 1, none⟩ = false); exact ⟨by rw [World.frozen?_setCell]; exact hHB.1, by rw [World.frozen?_setCell]; exact hHB.2⟩), (fun h => absurd h (by decide +kernel))⟩ (fun hHeld => ?_)
      replace hHB := hHeld.1
      dsimp only at hHB
      clear hHeld hK K
      try simp only [Act.put, List.setIfInBounds_toArray, List.set_cons_zero, List.set_cons_succ]
      refine g_tb (i := 18) ⟨hHB, (fun h => absurd h (by decide +kernel))⟩ ?_; apply Exists.intro; refine ⟨fun wq hq => ?_, ?_⟩; (focus ((try dsimp only at hq); go_simp; (first | done | with_reducible rfl | fail)))
      refine g_tb (i := 19) ⟨hHB, (fun h => absurd h (by decide +kernel))⟩ ?_; apply Exists.intro; refine ⟨fun wq hq => ?_, ?_⟩; (focus ((try dsimp only at hq); go_simp; (first | done | with_reducible rfl | fail)))
      try simp only [Act.put, List.setIfInBounds_toArray, List.set_cons_zero, List.set_cons_succ]
      refine g_ready (rs := [20]) (by kernel_rfl) (by simp) ?_
      refine AllReadyG.cons (by simp only [List.getElem?_toArray, List.getElem?_cons_zero, List.getElem?_cons_succ]; rfl) (fun K hK => ?_) AllReadyG.nil
      go_simp
      refine hK.out _ _ ⟨(by (show ((wB.setCell ⟨bt, 0, none⟩ (.slice a4 (N + 1) c4)).setCell ⟨bt, 1, none⟩ (.slice a5 (N + 1) c5)).frozen? ⟨bt, 0, none⟩ = false ∧ ((wB.setCell ⟨bt, 0, none⟩ (.slice a4 (N + 1) c4)).setCell ⟨bt, 1, none⟩ (.slice a5 (N + 1) c5)).frozen? ⟨bt, 1, none⟩ = false); exact ⟨by rw [World.frozen?_setCell]; exact hHB.1, by rw [World.frozen?_setCell]; exact hHB.2⟩), (fun h => absurd h (by decide +kernel))⟩ (fun hHeld => ?_)
      replace hHB := hHeld.1
      dsimp only at hHB
      clear hHeld hK K
      try simp only [Act.put, List.setIfInBounds_toArray, List.set_cons_zero, List.set_cons_succ]
      refine g_done (by kernel_rfl) ?_ _
      clear hHB hHC hC1
      have hbox : Box ((wB.setCell ⟨bt, 0, none⟩ (.slice a4 (N + 1) c4)).setCell ⟨bt, 1, none⟩ (.slice a5 (N + 1) c5)) w.heap.size [.int .i64 0, .int .i64 0, .string ⟨#[]⟩, .slice none 0 0] := by
        have hx : Box _ w.heap.size _ := HB1.out.2.ext ((bel1' w1 (.cells #[.int .i64 0, .int .i64 0, .string ⟨#[]⟩, .slice none 0 0] 48)).drew)
        exact hx.block (HBX.out.1 _ (Nat.le_refl _) hx.lt) (Nat.lt_of_lt_of_le hx.lt HBX.out.2)
      have hc0 : ((wB.setCell ⟨bt, 0, none⟩ (.slice a4 (N + 1) c4)).setCell ⟨bt, 1, none⟩ (.slice a5 (N + 1) c5)).cell? ⟨bt, 0, none⟩ = some (.slice a4 (N + 1) c4) := by
        rw [World.cell?_setCell_other]
        · exact css HC0.out
        · intro e; injection e with _ e _; cases e
      obtain ⟨wS, eS⟩ : ∃ wS, (wB.setCell ⟨bt, 0, none⟩ (.slice a4 (N + 1) c4)).setCell ⟨bt, 1, none⟩ (.slice a5 (N + 1) c5) = wS := ⟨_, rfl⟩
      rw [eS] at hbox hc0 HQ
      rw [eS]
      clear eS HBX
      obtain ⟨x0, x1, x2, x3, xf⟩ := hbox.four
      have HEND := Lib.hid (show ∀ u0 u1 u2 u3, IsR V F' (set4 wS w.heap.size u0 u1 u2 u3) (.pointer (some ⟨bt, 0, none⟩)) (N + 1) R ∧ Touch F w (set4 wS w.heap.size u0 u1 u2 u3) ∧ ∀ k ∈ F', k ∈ F ∨ w.heap.size ≤ k from fun u0 u1 u2 u3 => by
        have ht : Touch [w.heap.size] wS (set4 wS w.heap.size u0 u1 u2 u3) := ⟨rfl, rfl, rfl, Nat.le_of_eq (set4_size _ _ _ _ _ _).symm, fun j hj hn => set4_other _ _ _ _ _ _ j (by simpa using hn)⟩
        have hx1 : w.heap.size < (w1.alloc (.cells #[.int .i64 0, .int .i64 0, .string ⟨#[]⟩, .slice none 0 0] 48)).drew.heap.size := by have := HZ1.out; show _ < (w1.alloc (.cells #[.int .i64 0, .int .i64 0, .string ⟨#[]⟩, .slice none 0 0] 48)).heap.size; simp; omega
        have hFr : ∀ k ∈ [w.heap.size], ¬ k ∈ F' := fun k hk hm => by
          simp at hk
          subst hk
          rcases HQ.out.2.2 _ hm with h | h
          · have := HLT.out _ h; omega
          · exact absurd hx1 (Nat.not_lt.2 h)
        exact ⟨HQ.out.1.touch ht hFr (Blind.new HSEE.out.1 (fun k hk => by simp at hk; omega)), HQ.out.2.1.four (Nat.le_refl _) _ _ _ _, fun k hk => (HQ.out.2.2 k hk).imp id (fun h => Nat.le_of_lt (Nat.lt_of_lt_of_le hx1 h))⟩)
      clear hbox
      go_wp2
      refine bodyPost_ret (v := .tuple #[.agg #[.int .i64 0, .int .i64 N, .string ⟨#[]⟩, .slice none 0 0], .bool true]) (by rw [results_cell_tmp rfl]; go_simp) rfl ?_
      obtain ⟨q1, q2, q3⟩ := HEND.out (.int .i64 0) (.int .i64 N) (.string ⟨#[]⟩) (.slice none 0 0)
      first | exact ⟨F', rfl, q1, q2, q3⟩ | exact ⟨rfl, F', q1, q2, q3⟩
    · go_simp
      refine hK.out _ _ ⟨⟨((bel1' _ _).frozen (p := ⟨bt, 0, none⟩) (World.block_lt_of_cell? _ _ hHC.1)).trans hHB.1, ((bel1' _ _).frozen (p := ⟨bt, 1, none⟩) (World.block_lt_of_cell? _ _ hHC.2)).trans hHB.2⟩, fun _ => ⟨cell_later (bel1' _ _) hHC.1, cell_later (bel1' _ _) hHC.2⟩⟩ (fun hHeld => ?_)
      replace hHB := hHeld.1
      replace hHC := hHeld.2 (by kernel_rfl)
      dsimp only at hHB hHC
      clear hHeld hK K
      try simp only [Act.put, List.setIfInBounds_toArray, List.set_cons_zero, List.set_cons_succ]
      refine g_ready (rs := [8]) (by kernel_rfl) (by simp) ?_
      refine AllReadyG.cons (by simp only [List.getElem?_toArray, List.getElem?_cons_zero, List.getElem?_cons_succ]; rfl) (fun K hK => ?_) AllReadyG.nil
      have HX1 := Lib.hid (show Below w.heap.size w ((w1.alloc (.cells #[.int .i64 0, .int .i64 0, .string ⟨#[]⟩, .slice none 0 0] 48)).alloc (.cells #[.bool false] 4)).drew from (Ext.trans' (Ext.trans' HB1.out.1 (bel1' _ _)) (bel1' _ _)).drew)
      refine step_append_k (by rfl) _ _ 46 (by rfl) 0 48 i0 (.agg #[.int .i64 0, .int .i64 0, .string ⟨#[]⟩, .slice none 0 0]) 4 56 Try.underlying46 hi0 hz0 hs0 (by decide) hb0 rfl (.slice a1 N c1) N xs (by rfl) (HR1.out _ HX1.out) (some ⟨w.heap.size + 1, 0, none⟩) 1 1 [.int .i64 0, .int .i64 0, .string ⟨#[]⟩, .slice none 0 0] (by rfl) (by rfl) (Or.inr ⟨_, rfl, fun j u hu => cell_later (bel1' _ _).drew (by rw [← HZ1.out]; exact cell_new w1 #[.int .i64 0, .int .i64 0, .string ⟨#[]⟩, .slice none 0 0] 48 j u hu)⟩) (by simp [Value.oneCell']) (by unfold maxLen; omega) (by omega) (Nat.zero_le _) (N + 1) (xs ++ [.int .i64 0, .int .i64 0, .string ⟨#[]⟩, .slice none 0 0]) rfl rfl ?_
      intro a4 c4 wA hownA hgrowA hatA
      obtain ⟨_, mc, mf⟩ := HMID.out _ wA wA HX1.out hgrowA (Below.refl _ _)
      have HGA := Lib.hid (And.intro hgrowA (And.intro hatA hownA))
      refine hK.out _ _ ⟨⟨mf 0, mf 1⟩, fun _ => ⟨(mc 0).trans HD0.out.1, (mc 1).trans HD0.out.2⟩⟩ (fun hHeld => ?_)
      replace hHB := hHeld.1
      replace hHC := hHeld.2 (by kernel_rfl)
      dsimp only at hHB hHC
      clear hHeld hK K
      try simp only [Act.put, List.setIfInBounds_toArray, List.set_cons_zero, List.set_cons_succ]
      clear mc mf hgrowA hatA hownA
      refine g_ready (rs := [14]) (by kernel_rfl) (by simp) ?_
      refine AllReadyG.cons (by simp only [List.getElem?_toArray, List.getElem?_cons_zero, List.getElem?_cons_succ]; rfl) (fun K hK => ?_) AllReadyG.nil
      have HX2 := Lib.hid (Below.refl wA.heap.size wA)
      refine step_append_k (by rfl) _ _ 50 (by rfl) 0 4 j0 (.bool false) 1 1 Try.underlying50 hj0 hy0 hy1 (by decide) hy2 rfl (.slice a2 N c2) N ys (by rfl) (HMID.out _ wA _ HX1.out HGA.out.1 HX2.out).1 (some ⟨w.heap.size + 1 + 1, 0, none⟩) 1 1 [.bool false] (by rfl) (by rfl) (Or.inr ⟨_, rfl, fun j u hu => (World.cell?_of_block (a := (⟨w.heap.size + 1 + 1, 0, none⟩ : Addr).add j) (by rw [add_plain]; exact HGA.out.1.block (w.heap.size + 1 + 1) (by show w.heap.size + 1 + 1 < (((w1.alloc (.cells #[.int .i64 0, .int .i64 0, .string ⟨#[]⟩, .slice none 0 0] 48)).alloc (.cells #[.bool false] 4))).heap.size; have := HZ1.out; first | (simp; omega) | simp [*] | simp) (fun e => by have := HO1.out _ (by first | exact Or.inl e | exact Or.inr e); omega))).trans (show (((w1.alloc (.cells #[.int .i64 0, .int .i64 0, .string ⟨#[]⟩, .slice none 0 0] 48)).alloc (.cells #[.bool false] 4))).cell? ((⟨w.heap.size + 1 + 1, 0, none⟩ : Addr).add j) = some u from by have h := cell_new (w1.alloc (.cells #[.int .i64 0, .int .i64 0, .string ⟨#[]⟩, .slice none 0 0] 48)) #[.bool false] 4 j u hu; rw [show (w1.alloc (.cells #[.int .i64 0, .int .i64 0, .string ⟨#[]⟩, .slice none 0 0] 48)).heap.size = w.heap.size + 1 + 1 by simp [HZ1.out]] at h; exact h)⟩) (by simp [Value.oneCell']) (by unfold maxLen; omega) (by omega) (Nat.zero_le _) (N + 1) (ys ++ [.bool false]) rfl rfl ?_
      intro a5 c5 wB hownB hgrowB hatB
      obtain ⟨mc, mf, F', q1, q2, q3, q4, q5⟩ := HGROW.out _ wA _ wB (.slice a4 (N + 1) c4) (.slice a5 (N + 1) c5) HX1.out HGA.out.1 HGA.out.2.1 HGA.out.2.2 HX2.out hgrowB hatB hownB
      have HQ := Lib.hid (And.intro q1 (And.intro q2 q3))
      have HBX := Lib.hid (And.intro q4 q5)
      refine hK.out _ _ ⟨⟨mf 0, mf 1⟩, fun _ => ⟨(mc 0).trans HD0.out.1, (mc 1).trans HD0.out.2⟩⟩ (fun hHeld => ?_)
      replace hHB := hHeld.1
      replace hHC := hHeld.2 (by kernel_rfl)
      dsimp only at hHB hHC
      clear hHeld hK K
      try simp only [Act.put, List.setIfInBounds_toArray, List.set_cons_zero, List.set_cons_succ]
      clear mc mf q1 q2 q3 q4 q5 hownB hgrowB hatB
      refine g_tb (i := 15) ⟨hHB, fun _ => hHC⟩ ?_; apply Exists.intro; refine ⟨fun wq hq => ?_, ?_⟩; (focus ((try dsimp only at hq); go_simp; (first | done | with_reducible rfl | fail)))
      refine g_tb (i := 16) ⟨hHB, fun _ => hHC⟩ ?_; apply Exists.intro; refine ⟨fun wq hq => ?_, ?_⟩; (focus ((try dsimp only at hq); go_simp; (first | done | with_reducible rfl | fail)))
      try simp only [Act.put, List.setIfInBounds_toArray, List.set_cons_zero, List.set_cons_succ]
      refine g_ready (rs := [17]) (by kernel_rfl) (by simp) ?_
      refine AllReadyG.cons (by simp only [List.getElem?_toArray, List.getElem?_cons_zero, List.getElem?_cons_succ]; rfl) (fun K hK => ?_) AllReadyG.nil
      have HC0 := Lib.hid hHC.1
      have hC1 : (wB.setCell ⟨bt, 0, none⟩ (.slice a4 (N + 1) c4)).cell? ⟨bt, 1, none⟩ = some (.slice a2 N c2) := by rw [World.cell?_setCell_other]; exact hHC.2; intro e; injection e with _ e _; cases e
      go_simp
      refine hK.out _ _ ⟨(by (show (wB.setCell ⟨bt, 0, none⟩ (.slice a4 (N + 1) c4)).frozen? ⟨bt, 0, none⟩ = false ∧ (wB.setCell ⟨bt, 0, none⟩ (.slice a4 (N + 1) c4)).frozen? ⟨bt, 1, none⟩ = false); exact ⟨by rw [World.frozen?_setCell]; exact hHB.1, by rw [World.frozen?_setCell]; exact hHB.2⟩), (fun h => absurd h (by decide +kernel))⟩ (fun hHeld => ?_)
      replace hHB := hHeld.1
      dsimp only at hHB
      clear hHeld hK K
      try simp only [Act.put, List.setIfInBounds_toArray, List.set_cons_zero, List.set_cons_succ]
      refine g_tb (i := 18) ⟨hHB, (fun h => absurd h (by decide +kernel))⟩ ?_; apply Exists.intro; refine ⟨fun wq hq => ?_, ?_⟩; (focus ((try dsimp only at hq); go_simp; (first | done | with_reducible rfl | fail)))
      refine g_tb (i := 19) ⟨hHB, (fun h => absurd h (by decide +kernel))⟩ ?_; apply Exists.intro; refine ⟨fun wq hq => ?_, ?_⟩; (focus ((try dsimp only at hq); go_simp; (first | done | with_reducible rfl | fail)))
      try simp only [Act.put, List.setIfInBounds_toArray, List.set_cons_zero, List.set_cons_succ]
      refine g_ready (rs := [20]) (by kernel_rfl) (by simp) ?_
      refine AllReadyG.cons (by simp only [List.getElem?_toArray, List.getElem?_cons_zero, List.getElem?_cons_succ]; rfl) (fun K hK => ?_) AllReadyG.nil
      go_simp
      refine hK.out _ _ ⟨(by (show ((wB.setCell ⟨bt, 0, none⟩ (.slice a4 (N + 1) c4)).setCell ⟨bt, 1, none⟩ (.slice a5 (N + 1) c5)).frozen? ⟨bt, 0, none⟩ = false ∧ ((wB.setCell ⟨bt, 0, none⟩ (.slice a4 (N + 1) c4)).setCell ⟨bt, 1, none⟩ (.slice a5 (N + 1) c5)).frozen? ⟨bt, 1, none⟩ = false); exact ⟨by rw [World.frozen?_setCell]; exact hHB.1, by rw [World.frozen?_setCell]; exact hHB.2⟩), (fun h => absurd h (by decide +kernel))⟩ (fun hHeld => ?_)
      replace hHB := hHeld.1
      dsimp only at hHB
      clear hHeld hK K
      try simp only [Act.put, List.setIfInBounds_toArray, List.set_cons_zero, List.set_cons_succ]
      refine g_done (by kernel_rfl) ?_ _
      clear hHB hHC hC1
      have hbox : Box ((wB.setCell ⟨bt, 0, none⟩ (.slice a4 (N + 1) c4)).setCell ⟨bt, 1, none⟩ (.slice a5 (N + 1) c5)) w.heap.size [.int .i64 0, .int .i64 0, .string ⟨#[]⟩, .slice none 0 0] := by
        have hx : Box _ w.heap.size _ := HB1.out.2.ext ((Ext.trans' (bel1' w1 (.cells #[.int .i64 0, .int .i64 0, .string ⟨#[]⟩, .slice none 0 0] 48)) (bel1' _ (.cells #[.bool false] 4))).drew)
        exact hx.block (HBX.out.1 _ (Nat.le_refl _) hx.lt) (Nat.lt_of_lt_of_le hx.lt HBX.out.2)
      have hc0 : ((wB.setCell ⟨bt, 0, none⟩ (.slice a4 (N + 1) c4)).setCell ⟨bt, 1, none⟩ (.slice a5 (N + 1) c5)).cell? ⟨bt, 0, none⟩ = some (.slice a4 (N + 1) c4) := by
        rw [World.cell?_setCell_other]
        · exact css HC0.out
        · intro e; injection e with _ e _; cases e
      obtain ⟨wS, eS⟩ : ∃ wS, (wB.setCell ⟨bt, 0, none⟩ (.slice a4 (N + 1) c4)).setCell ⟨bt, 1, none⟩ (.slice a5 (N + 1) c5) = wS := ⟨_, rfl⟩
      rw [eS] at hbox hc0 HQ
      rw [eS]
      clear eS HBX
      obtain ⟨x0, x1, x2, x3, xf⟩ := hbox.four
      have HEND := Lib.hid (show ∀ u0 u1 u2 u3, IsR V F' (set4 wS w.heap.size u0 u1 u2 u3) (.pointer (some ⟨bt, 0, none⟩)) (N + 1) R ∧ Touch F w (set4 wS w.heap.size u0 u1 u2 u3) ∧ ∀ k ∈ F', k ∈ F ∨ w.heap.size ≤ k from fun u0 u1 u2 u3 => by
        have ht : Touch [w.heap.size] wS (set4 wS w.heap.size u0 u1 u2 u3) := ⟨rfl, rfl, rfl, Nat.le_of_eq (set4_size _ _ _ _ _ _).symm, fun j hj hn => set4_other _ _ _ _ _ _ j (by simpa using hn)⟩
        have hx1 : w.heap.size < ((w1.alloc (.cells #[.int .i64 0, .int .i64 0, .string ⟨#[]⟩, .slice none 0 0] 48)).alloc (.cells #[.bool false] 4)).drew.heap.size := by have := HZ1.out; show _ < ((w1.alloc (.cells #[.int .i64 0, .int .i64 0, .string ⟨#[]⟩, .slice none 0 0] 48)).alloc (.cells #[.bool false] 4)).heap.size; simp; omega
        have hFr : ∀ k ∈ [w.heap.size], ¬ k ∈ F' := fun k hk hm => by
          simp at hk
          subst hk
          rcases HQ.out.2.2 _ hm with h | h
          · have := HLT.out _ h; omega
          · exact absurd hx1 (Nat.not_lt.2 h)
        exact ⟨HQ.out.1.touch ht hFr (Blind.new HSEE.out.1 (fun k hk => by simp at hk; omega)), HQ.out.2.1.four (Nat.le_refl _) _ _ _ _, fun k hk => (HQ.out.2.2 k hk).imp id (fun h => Nat.le_of_lt (Nat.lt_of_lt_of_le hx1 h))⟩)
      clear hbox
      go_wp2
      refine bodyPost_ret (v := .tuple #[.agg #[.int .i64 0, .int .i64 N, .string ⟨#[]⟩, .slice none 0 0], .bool true]) (by rw [results_cell_tmp rfl]; go_simp) rfl ?_
      obtain ⟨q1, q2, q3⟩ := HEND.out (.int .i64 0) (.int .i64 N) (.string ⟨#[]⟩) (.slice none 0 0)
      first | exact ⟨F', rfl, q1, q2, q3⟩ | exact ⟨rfl, F', q1, q2, q3⟩
  · go_simp
    refine hK.out _ _ ⟨⟨((bel1' _ _).frozen (p := ⟨bt, 0, none⟩) (World.block_lt_of_cell? _ _ hHC.1)).trans hHB.1, ((bel1' _ _).frozen (p := ⟨bt, 1, none⟩) (World.block_lt_of_cell? _ _ hHC.2)).trans hHB.2⟩, fun _ => ⟨cell_later (bel1' _ _) hHC.1, cell_later (bel1' _ _) hHC.2⟩⟩ (fun hHeld => ?_)
    replace hHB := hHeld.1
    replace hHC := hHeld.2 (by kernel_rfl)
    dsimp only at hHB hHC
    clear hHeld hK K
    try simp only [Act.put, List.setIfInBounds_toArray, List.set_cons_zero, List.set_cons_succ]
    refine g_ready (rs := [7]) (by kernel_rfl) (by simp) ?_
    refine AllReadyG.cons (by simp only [List.getElem?_toArray, List.getElem?_cons_zero, List.getElem?_cons_succ]; rfl) (fun K hK => ?_) AllReadyG.nil
    go_simp
    refine hK.out _ _ ⟨⟨((bel1' _ _).frozen (p := ⟨bt, 0, none⟩) (World.block_lt_of_cell? _ _ hHC.1)).trans hHB.1, ((bel1' _ _).frozen (p := ⟨bt, 1, none⟩) (World.block_lt_of_cell? _ _ hHC.2)).trans hHB.2⟩, fun _ => ⟨cell_later (bel1' _ _) hHC.1, cell_later (bel1' _ _) hHC.2⟩⟩ (fun hHeld => ?_)
    replace hHB := hHeld.1
    replace hHC := hHeld.2 (by kernel_rfl)
    dsimp only at hHB hHC
    clear hHeld hK K
    try simp only [Act.put, List.setIfInBounds_toArray, List.set_cons_zero, List.set_cons_succ]
    refine g_ready (rs := [8]) (by kernel_rfl) (by simp) ?_
    refine AllReadyG.cons (by simp only [List.getElem?_toArray, List.getElem?_cons_zero, List.getElem?_cons_succ]; rfl) (fun K hK => ?_) AllReadyG.nil
    have HX1 := Lib.hid (show Below w.heap.size w ((w1.alloc (.cells #[.bool false] 4)).alloc (.cells #[.int .i64 0, .int .i64 0, .string ⟨#[]⟩, .slice none 0 0] 48)).drew from (Ext.trans' (Ext.trans' HB1.out.1 (bel1' _ _)) (bel1' _ _)).drew)
    refine step_append_k (by rfl) _ _ 46 (by rfl) 0 48 i0 (.agg #[.int .i64 0, .int .i64 0, .string ⟨#[]⟩, .slice none 0 0]) 4 56 Try.underlying46 hi0 hz0 hs0 (by decide) hb0 rfl (.slice a1 N c1) N xs (by rfl) (HR1.out _ HX1.out) (some ⟨w.heap.size + 1 + 1, 0, none⟩) 1 1 [.int .i64 0, .int .i64 0, .string ⟨#[]⟩, .slice none 0 0] (by rfl) (by rfl) (Or.inr ⟨_, rfl, fun j u hu => (by have h := cell_new (w1.alloc (.cells #[.bool false] 4)) #[.int .i64 0, .int .i64 0, .string ⟨#[]⟩, .slice none 0 0] 48 j u hu; rw [show (w1.alloc (.cells #[.bool false] 4)).heap.size = w.heap.size + 1 + 1 by simp [HZ1.out]] at h; exact h)⟩) (by simp [Value.oneCell']) (by unfold maxLen; omega) (by omega) (Nat.zero_le _) (N + 1) (xs ++ [.int .i64 0, .int .i64 0, .string ⟨#[]⟩, .slice none 0 0]) rfl rfl ?_
    intro a4 c4 wA hownA hgrowA hatA
    obtain ⟨_, mc, mf⟩ := HMID.out _ wA wA HX1.out hgrowA (Below.refl _ _)
    have HGA := Lib.hid (And.intro hgrowA (And.intro hatA hownA))
    refine hK.out _ _ ⟨⟨mf 0, mf 1⟩, fun _ => ⟨(mc 0).trans HD0.out.1, (mc 1).trans HD0.out.2⟩⟩ (fun hHeld => ?_)
    replace hHB := hHeld.1
    replace hHC := hHeld.2 (by kernel_rfl)
    dsimp only at hHB hHC
    clear hHeld hK K
    try simp only [Act.put, List.setIfInBounds_toArray, List.set_cons_zero, List.set_cons_succ]
    clear mc mf hgrowA hatA hownA
    refine g_ready (rs := [14]) (by kernel_rfl) (by simp) ?_
    refine AllReadyG.cons (by simp only [List.getElem?_toArray, List.getElem?_cons_zero, List.getElem?_cons_succ]; rfl) (fun K hK => ?_) AllReadyG.nil
    have HX2 := Lib.hid (Below.refl wA.heap.size wA)
    refine step_append_k (by rfl) _ _ 50 (by rfl) 0 4 j0 (.bool false) 1 1 Try.underlying50 hj0 hy0 hy1 (by decide) hy2 rfl (.slice a2 N c2) N ys (by rfl) (HMID.out _ wA _ HX1.out HGA.out.1 HX2.out).1 (some ⟨w.heap.size + 1, 0, none⟩) 1 1 [.bool false] (by rfl) (by rfl) (Or.inr ⟨_, rfl, fun j u hu => (World.cell?_of_block (a := (⟨w.heap.size + 1, 0, none⟩ : Addr).add j) (by rw [add_plain]; exact HGA.out.1.block (w.heap.size + 1) (by show w.heap.size + 1 < (((w1.alloc (.cells #[.bool false] 4)).alloc (.cells #[.int .i64 0, .int .i64 0, .string ⟨#[]⟩, .slice none 0 0] 48))).heap.size; have := HZ1.out; first | (simp; omega) | simp [*] | simp) (fun e => by have := HO1.out _ (by first | exact Or.inl e | exact Or.inr e); omega))).trans (cell_later (bel1' (w1.alloc (.cells #[.bool false] 4)) (.cells #[.int .i64 0, .int .i64 0, .string ⟨#[]⟩, .slice none 0 0] 48)).drew (by rw [← HZ1.out]; exact cell_new w1 #[.bool false] 4 j u hu))⟩) (by simp [Value.oneCell']) (by unfold maxLen; omega) (by omega) (Nat.zero_le _) (N + 1) (ys ++ [.bool false]) rfl rfl ?_
    intro a5 c5 wB hownB hgrowB hatB
    obtain ⟨mc, mf, F', q1, q2, q3, q4, q5⟩ := HGROW.out _ wA _ wB (.slice a4 (N + 1) c4) (.slice a5 (N + 1) c5) HX1.out HGA.out.1 HGA.out.2.1 HGA.out.2.2 HX2.out hgrowB hatB hownB
    have HQ := Lib.hid (And.intro q1 (And.intro q2 q3))
    have HBX := Lib.hid (And.intro q4 q5)
    refine hK.out _ _ ⟨⟨mf 0, mf 1⟩, fun _ => ⟨(mc 0).trans HD0.out.1, (mc 1).trans HD0.out.2⟩⟩ (fun hHeld => ?_)
    replace hHB := hHeld.1
    replace hHC := hHeld.2 (by kernel_rfl)
    dsimp only at hHB hHC
    clear hHeld hK K
    try simp only [Act.put, List.setIfInBounds_toArray, List.set_cons_zero, List.set_cons_succ]
    clear mc mf q1 q2 q3 q4 q5 hownB hgrowB hatB
    refine g_tb (i := 15) ⟨hHB, fun _ => hHC⟩ ?_; apply Exists.intro; refine ⟨fun wq hq => ?_, ?_⟩; (focus ((try dsimp only at hq); go_simp; (first | done | with_reducible rfl | fail)))
    refine g_tb (i := 16) ⟨hHB, fun _ => hHC⟩ ?_; apply Exists.intro; refine ⟨fun wq hq => ?_, ?_⟩; (focus ((try dsimp only at hq); go_simp; (first | done | with_reducible rfl | fail)))
    try simp only [Act.put, List.setIfInBounds_toArray, List.set_cons_zero, List.set_cons_succ]
    refine g_ready (rs := [17]) (by kernel_rfl) (by simp) ?_
    refine AllReadyG.cons (by simp only [List.getElem?_toArray, List.getElem?_cons_zero, List.getElem?_cons_succ]; rfl) (fun K hK => ?_) AllReadyG.nil
    have HC0 := Lib.hid hHC.1
    have hC1 : (wB.setCell ⟨bt, 0, none⟩ (.slice a4 (N + 1) c4)).cell? ⟨bt, 1, none⟩ = some (.slice a2 N c2) := by rw [World.cell?_setCell_other]; exact hHC.2; intro e; injection e with _ e _; cases e
    go_simp
    refine hK.out _ _ ⟨(by (show (wB.setCell ⟨bt, 0, none⟩ (.slice a4 (N + 1) c4)).frozen? ⟨bt, 0, none⟩ = false ∧ (wB.setCell ⟨bt, 0, none⟩ (.slice a4 (N + 1) c4)).frozen? ⟨bt, 1, none⟩ = false); exact ⟨by rw [World.frozen?_setCell]; exact hHB.1, by rw [World.frozen?_setCell]; exact hHB.2⟩), (fun h => absurd h (by decide +kernel))⟩ (fun hHeld => ?_)
    replace hHB := hHeld.1
    dsimp only at hHB
    clear hHeld hK K
    try simp only [Act.put, List.setIfInBounds_toArray, List.set_cons_zero, List.set_cons_succ]
    refine g_tb (i := 18) ⟨hHB, (fun h => absurd h (by decide +kernel))⟩ ?_; apply Exists.intro; refine ⟨fun wq hq => ?_, ?_⟩; (focus ((try dsimp only at hq); go_simp; (first | done | with_reducible rfl | fail)))
    refine g_tb (i := 19) ⟨hHB, (fun h => absurd h (by decide +kernel))⟩ ?_; apply Exists.intro; refine ⟨fun wq hq => ?_, ?_⟩; (focus ((try dsimp only at hq); go_simp; (first | done | with_reducible rfl | fail)))
    try simp only [Act.put, List.setIfInBounds_toArray, List.set_cons_zero, List.set_cons_succ]
    refine g_ready (rs := [20]) (by kernel_rfl) (by simp) ?_
    refine AllReadyG.cons (by simp only [List.getElem?_toArray, List.getElem?_cons_zero, List.getElem?_cons_succ]; rfl) (fun K hK => ?_) AllReadyG.nil
    go_simp
    refine hK.out _ _ ⟨(by (show ((wB.setCell ⟨bt, 0, none⟩ (.slice a4 (N + 1) c4)).setCell ⟨bt, 1, none⟩ (.slice a5 (N + 1) c5)).frozen? ⟨bt, 0, none⟩ = false ∧ ((wB.setCell ⟨bt, 0, none⟩ (.slice a4 (N + 1) c4)).setCell ⟨bt, 1, none⟩ (.slice a5 (N + 1) c5)).frozen? ⟨bt, 1, none⟩ = false); exact ⟨by rw [World.frozen?_setCell]; exact hHB.1, by rw [World.frozen?_setCell]; exact hHB.2⟩), (fun h => absurd h (by decide +kernel))⟩ (fun hHeld => ?_)
    replace hHB := hHeld.1
    dsimp only at hHB
    clear hHeld hK K
    try simp only [Act.put, List.setIfInBounds_toArray, List.set_cons_zero, List.set_cons_succ]
    refine g_done (by kernel_rfl) ?_ _
    clear hHB hHC hC1
    have hbox : Box ((wB.setCell ⟨bt, 0, none⟩ (.slice a4 (N + 1) c4)).setCell ⟨bt, 1, none⟩ (.slice a5 (N + 1) c5)) w.heap.size [.int .i64 0, .int .i64 0, .string ⟨#[]⟩, .slice none 0 0] := by
      have hx : Box _ w.heap.size _ := HB1.out.2.ext ((Ext.trans' (bel1' w1 (.cells #[.bool false] 4)) (bel1' _ (.cells #[.int .i64 0, .int .i64 0, .string ⟨#[]⟩, .slice none 0 0] 48))).drew)
      exact hx.block (HBX.out.1 _ (Nat.le_refl _) hx.lt) (Nat.lt_of_lt_of_le hx.lt HBX.out.2)
    have hc0 : ((wB.setCell ⟨bt, 0, none⟩ (.slice a4 (N + 1) c4)).setCell ⟨bt, 1, none⟩ (.slice a5 (N + 1) c5)).cell? ⟨bt, 0, none⟩ = some (.slice a4 (N + 1) c4) := by
      rw [World.cell?_setCell_other]
      · exact css HC0.out
      · intro e; injection e with _ e _; cases e
    obtain ⟨wS, eS⟩ : ∃ wS, (wB.setCell ⟨bt, 0, none⟩ (.slice a4 (N + 1) c4)).setCell ⟨bt, 1, none⟩ (.slice a5 (N + 1) c5) = wS := ⟨_, rfl⟩
    rw [eS] at hbox hc0 HQ
    rw [eS]
    clear eS HBX
    obtain ⟨x0, x1, x2, x3, xf⟩ := hbox.four
    have HEND := Lib.hid (show ∀ u0 u1 u2 u3, IsR V F' (set4 wS w.heap.size u0 u1 u2 u3) (.pointer (some ⟨bt, 0, none⟩)) (N + 1) R ∧ Touch F w (set4 wS w.heap.size u0 u1 u2 u3) ∧ ∀ k ∈ F', k ∈ F ∨ w.heap.size ≤ k from fun u0 u1 u2 u3 => by
      have ht : Touch [w.heap.size] wS (set4 wS w.heap.size u0 u1 u2 u3) := ⟨rfl, rfl, rfl, Nat.le_of_eq (set4_size _ _ _ _ _ _).symm, fun j hj hn => set4_other _ _ _ _ _ _ j (by simpa using hn)⟩
      have hx1 : w.heap.size < ((w1.alloc (.cells #[.bool false] 4)).alloc (.cells #[.int .i64 0, .int .i64 0, .string ⟨#[]⟩, .slice none 0 0] 48)).drew.heap.size := by have := HZ1.out; show _ < ((w1.alloc (.cells #[.bool false] 4)).alloc (.cells #[.int .i64 0, .int .i64 0, .string ⟨#[]⟩, .slice none 0 0] 48)).heap.size; simp; omega
      have hFr : ∀ k ∈ [w.heap.size], ¬ k ∈ F' := fun k hk hm => by
        simp at hk
        subst hk
        rcases HQ.out.2.2 _ hm with h | h
        · have := HLT.out _ h; omega
        · exact absurd hx1 (Nat.not_lt.2 h)
      exact ⟨HQ.out.1.touch ht hFr (Blind.new HSEE.out.1 (fun k hk => by simp at hk; omega)), HQ.out.2.1.four (Nat.le_refl _) _ _ _ _, fun k hk => (HQ.out.2.2 k hk).imp id (fun h => Nat.le_of_lt (Nat.lt_of_lt_of_le hx1 h))⟩)
    clear hbox
    go_wp2
    refine bodyPost_ret (v := .tuple #[.agg #[.int .i64 0, .int .i64 N, .string ⟨#[]⟩, .slice none 0 0], .bool true]) (by rw [results_cell_tmp rfl]; go_simp) rfl ?_
    obtain ⟨q1, q2, q3⟩ := HEND.out (.int .i64 0) (.int .i64 N) (.string ⟨#[]⟩) (.slice none 0 0)
    first | exact ⟨F', rfl, q1, q2, q3⟩ | exact ⟨rfl, F', q1, q2, q3⟩
end
end Go.Proofs.Ytjhoekhfikcanaa
/- Stage 11's laws: both. -/
namespace Go.Proofs.Ytjhoekhfikcanaa
open Go.RowKit
set_option linter.unusedVariables false

section
variable {V w : World}
theorem IsR.new {w1 w2 : World} (hs : Stays V w1) (e : w1.alloc (.cells #[.slice none 0 0, .slice none 0 0, .slice none 0 0] 53) = w2) : IsR V [w1.heap.size] w2 (.pointer (some ⟨w1.heap.size, 0, none⟩)) 0 [] := by
  have hb : Below w1.heap.size w1 w2 := by rw [← e]; exact bel1' _ _
  refine ⟨w1.heap.size, .slice none 0 0, .slice none 0 0, .slice none 0 0, [], [], rfl, rfl, by simp, by rw [← e]; exact heap_alloc_new w1 _, rfl, rfl, World.ownsRow_nil _ _ _ _, World.ownsRow_nil _ _ _ _, World.ownsRow_nil _ _ _ _, ⟨fun i hi => by omega, fun i t ht => by cases ht⟩, trivial, by omega, hs.later hb, Blind.new hs (fun k hk => by simp at hk; omega)⟩
/-- Both, with so many variables. -/
def BothI (V w : World) (p q : Value) (i : Nat) (wr : World) : Prop :=
  ∃ F F2, IsB V F wr p i [] ∧ IsR V F2 wr q i [] ∧ (∀ k ∈ F, w.heap.size ≤ k) ∧ (∀ k ∈ F2, w.heap.size ≤ k) ∧ (∀ k ∈ F, ¬ k ∈ F2) ∧ Below w.heap.size w wr
set_option maxHeartbeats 8000000 in
theorem both_at (hs : Stays V w) (n : Nat) (hn : n ≤ 60000) : Calls Try.prog 10 #[.int .i64 n] w fun e w' => ∃ p q, e = .returned (.tuple #[p, q]) ∧ BothI V w p q n w' := by
  have HS := Lib.hid hs
  have C := New_at (V := V) (w := w) hs
  clear hs
  go_enter Try.func10, Try.ntmps10
  (go_wp2_with fail; go_fit (C); rintro e w1 ⟨p, F, rfl, h1, b1, hf1⟩)
  obtain ⟨w2, e2⟩ : ∃ w2, w1.alloc (.cells #[.slice none 0 0, .slice none 0 0, .slice none 0 0] 53) = w2 := ⟨_, rfl⟩
  have hr2 := IsR.new (HS.out.later b1) e2
  have hb2 : Below w1.heap.size w1 w2 := by rw [← e2]; exact bel1' _ _
  obtain ⟨q, hq⟩ : ∃ q : Value, .pointer (some ⟨w1.heap.size, 0, none⟩) = q := ⟨_, rfl⟩
  rw [hq] at hr2
  have H2 := Lib.hid (show BothI V w p q 0 w2 from ⟨F, [w1.heap.size], h1.ext hb2, hr2, hf1, fun k hk => by simp at hk; have := b1.size; omega, fun k hk hm => by simp at hm; have := h1.lt k hk; omega, Ext.trans' b1 hb2⟩)
  clear h1 hr2 b1 hb2 hf1
  have HE2 := Lib.hid e2
  have HQ := Lib.hid hq
  clear e2 hq
  go_upto_region 2 with fail
  rw [HE2.out, HQ.out]
  go_wp2_with fail
  go_loopw [6] (fun z wr => ∃ j : Nat, j ≤ n ∧ z = .int .i64 j ∧ Hid (BothI V w p q j wr)) (fun z _ => n - (intOf z).toNat)
  case atStart => exact ⟨0, Nat.zero_le _, rfl, H2⟩
  case round =>
    obtain ⟨j, hj, rfl, HP⟩ := hrel
    by_cases hjn : j < n
    · obtain ⟨F, F2, h1, h2, h3, h4, h5, h6⟩ := HP.out
      have hjn2 : (j : Int) < n := by omega
      have C1 := Fresh_at h1 (by omega)
      have HP2 := Lib.hid (And.intro h2 (And.intro h3 (And.intro h4 (And.intro h5 h6))))
      have HV := Lib.hid h1.see
      have HSZ := Lib.hid h2.lt
      clear h1 h2 h3 h4 h5 h6 HP
      (go_wp2_with fail; go_fit (C1); rintro e w5 ⟨F', rfl, h1, t1, hin⟩)
      obtain ⟨h2, h3, h4, h5, h6⟩ := HP2.out
      have h2' := h2.touch t1 h5 HV.out.2
      have C2 := RFresh_at h2' (by omega)
      have hF' : ∀ k ∈ F', w.heap.size ≤ k := fun k hk => (hin k hk).elim (h3 k) (fun h => by have := h6.size; omega)
      have hd' : ∀ k ∈ F', ¬ k ∈ F2 := fun k hk hm => (hin k hk).elim (fun h => h5 k h hm) (fun h => by have := HSZ.out k hm; omega)
      have H5 := Lib.hid (show IsB V F' w5 p (j + 1) [] ∧ (∀ k ∈ F', w.heap.size ≤ k) ∧ (∀ k ∈ F', ¬ k ∈ F2) ∧ (∀ k ∈ F2, w.heap.size ≤ k) ∧ Below w.heap.size w w5 from ⟨h1, hF', hd', h4, h6.trans (t1.below h6.size h3)⟩)
      have HV2 := Lib.hid h2'.see
      clear h1 t1 hin h2 h3 h4 h5 h6 h2' hF' hd'
      (go_wp2_with fail; go_fit (C2); rintro e w6 ⟨F2', rfl, h2, t2, hin2⟩)
      obtain ⟨h1, hF', hd', h4, h6⟩ := H5.out
      have HN := Lib.hid (show BothI V w p q (j + 1) w6 from ⟨F', F2', h1.touch t2 (fun k hk hm => hd' k hm hk) HV2.out.2, h2, hF', fun k hk => (hin2 k hk).elim (h4 k) (fun h => by have := h6.size; omega), fun k hk hm => (hin2 k hm).elim (hd' k hk) (fun h => by have := h1.lt k hk; omega), h6.trans (t2.below h6.size h4)⟩)
      clear h1 hF' hd' h4 h6 h2 t2 hin2
      go_wp2
      go_roundw
      case rel => exact ⟨j + 1, by omega, by go_num, HN⟩
      case measure => simp [intOf]; omega
    · have hjn2 : j = n := by omega
      subst hjn2
      go_wp2
      go_ret2
      exact ⟨p, q, rfl, HP.out⟩
end
end Go.Proofs.Ytjhoekhfikcanaa
