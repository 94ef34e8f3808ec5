import Derived.Test.YtchbbaehdcmcfaaHsozz
import Derived.Test.YtchbbaehdcmcfaaHsoaw
import Derived.Test.YtchbbaehdcmcfaaHsoaf
set_option linter.unusedVariables false
set_option linter.unusedSimpArgs false
/- Package code: a register's step. -/
namespace Go.Proofs.Ytchbbaehdcmcfaa
open Go.RowKit Go.Maps
set_option linter.unusedVariables false
section
variable {w w' W : World} {mb qb sb S : Nat} {vs : List Int} {vr : Value} {ps : List TmP} {seen : List Int}
theorem row_get {B : Nat} {ty : TypeId} (h : RowP w B ty vr ps) {i : Nat} {p : TmP} (hi : ps[i]? = some p) : ∃ b off c, vr = .slice (some ⟨b, off, none⟩) ps.length c ∧ vr.ownBlock = some b ∧ w.cell? ⟨b, off + i * 4, none⟩ = some (.int .i64 p.1.k) ∧ w.cell? ⟨b, off + i * 4 + 1, none⟩ = some (.int .i64 p.1.n) ∧ w.cell? ⟨b, off + i * 4 + 2, none⟩ = some (.string p.1.s) ∧ w.cell? ⟨b, off + i * 4 + 3, none⟩ = some p.2 := by
 obtain ⟨a, c, rfl, h1, h2, h3⟩ := Elems.owned pCells_len h
 rcases h3 with rfl | ⟨b, off, rfl, hb, hc⟩
 ·simp at hi
 ·have g := fun j u hj => by have := hc i p hi j u hj; rw [← Nat.add_assoc] at this; exact this
  exact ⟨b, off, c, rfl, rfl, g 0 _ rfl, g 1 _ rfl, g 2 _ rfl, g 3 _ rfl⟩
theorem MkS.grow {B : Nat} (h : MkS B w mb qb sb S vs vr ps seen) {w4 : World} {vr' : Value} {qs : List TmP} (ho : RowP w4 B 31 vr' (ps ++ qs)) (hg : w.grownBy w4 vr.ownBlock) (ha : vr'.ownBlock = vr.ownBlock ∨ vr'.ownBlock = some w.heap.size) :
  MkS B (w4.setCell ⟨mb, 0, none⟩ vr') mb qb sb S vs vr' (ps ++ qs) seen ∧ Touch (mb :: sb :: vr.ownBlock.toList) w (w4.setCell ⟨mb, 0, none⟩ vr') := by
 have t4 : Touch vr.ownBlock.toList w w4 := ⟨hg.os, hg.tape, hg.output, hg.size, fun k hk hn => hg.block k hk (fun e => hn (by simp [← e]))⟩
 have t5 := touch_one w4 mb 0 vr'
 have a := h.apart
 have l := h.lts
 have n1 : ¬ mb ∈ vr.ownBlock.toList := by simp; exact a.2.2.2.1
 have n2 : ¬ qb ∈ vr.ownBlock.toList := by simp; exact a.2.2.2.2.1
 have n3 : ¬ sb ∈ vr.ownBlock.toList := by simp; exact a.2.2.2.2.2
 have m2 : ¬ qb ∈ [mb] := by simp; exact fun e => a.1 e.symm
 have m3 : ¬ sb ∈ [mb] := by simp; exact fun e => a.2.1 e.symm
 have hb4 := t4.box n1 h.box
 have hq4 := h.map.block (t4.block _ h.map.lt n2)
 have hlt4 : sb < w4.heap.size := Nat.lt_of_lt_of_le h.lt t4.size
 refine ⟨⟨hb4.set (k := 0) (u := vr') (by simp), ho.keep (fun k hk => t5.block k (ho.lt k hk).2 (fun hm => ?_)), hq4.block (t5.block _ hq4.lt m2), fun n hn => t5.cell m3 (t4.cell n3 (h.bits n hn)), fun j => ?_, Nat.lt_of_lt_of_le hlt4 t5.size, ⟨a.1, a.2.1, a.2.2.1, ?_, ?_, ?_⟩, h.size, h.own⟩, ?_⟩
 ·have e := List.mem_singleton.1 hm
  subst e
  rcases ha with ha | ha
  ·rw [ha] at hk; exact a.2.2.2.1 hk
  ·rw [ha] at hk; injection hk with hk; omega
 ·rw [World.frozen?_setCell, World.frozen?_of_block (t4.block sb h.lt n3)]; exact h.fz j
 ·rcases ha with ha | ha <;> rw [ha]
  ·exact a.2.2.2.1
  ·intro e; injection e with e; omega
 ·rcases ha with ha | ha <;> rw [ha]
  ·exact a.2.2.2.2.1
  ·intro e; injection e with e; omega
 ·rcases ha with ha | ha <;> rw [ha]
  ·exact a.2.2.2.2.2
  ·intro e; injection e with e; omega
 ·exact (t4.sub (F' := mb :: sb :: vr.ownBlock.toList) (fun k hk => by simp at hk; simp [hk])).trans (t5.sub (F' := [mb]) (by simp)) (fun k hk => Or.inl (by simp at hk; simp [hk]))
def MstP (W w : World) (mb qb sb S : Nat) (vs : List Int) (vr : Value) (ps : List TmP) (seen : List Int) (i : Nat) (t : Tm) (e : Ending) (w' : World) : Prop :=
 ∃ vr' qs, e = .returned (insVal (stepI vs seen i ps.length t)) ∧ MkS W.heap.size w' mb qb sb S vs vr' (ps ++ qs) (seenI seen t) ∧ qs.map (·.1) = t.args ∧ (∀ q ∈ qs, TmV W q.1 (pVal q)) ∧ Touch (mb :: sb :: vr.ownBlock.toList) w w' ∧ (vr'.ownBlock = vr.ownBlock ∨ ∃ k, vr'.ownBlock = some k ∧ w.heap.size ≤ k)
set_option maxHeartbeats 4000000 in
set_option maxRecDepth 100000 in
theorem mstep_at (h : MkS W.heap.size w mb qb sb S vs vr ps seen) (hW : Below W.heap.size W w) {i : Nat} {p : TmP} (hi : ps[i]? = some p) (hv : TmV W p.1 (pVal p)) (hf : formedT p.1 = true) (hocc : ∀ n ∈ occT p.1, n ∈ vs) (hlen : ps.length ≤ 100000) :
    Calls Try.prog 55 #[.pointer (some ⟨mb, 0, none⟩), .int .i64 (i : Nat)] w (MstP W w mb qb sb S vs vr ps seen i p.1) := by
  obtain ⟨⟨k, n, s, ts⟩, u⟩ := p
  have HF := Lib.hid (formed_kids hf)
  have HFT := Lib.hid hf
  have HOCC := Lib.hid hocc
  obtain ⟨u', hu', hss, hkk, hnn, hts⟩ := tmV_iff.1 hv
  obtain rfl : u = u' := by
    have h1 : pVal (Tm.mk k n s ts, u) = Value.agg #[.int .i64 k, .int .i64 n, .string s, u] := rfl
    rw [h1] at hu'
    simpa using hu'
  obtain ⟨a, c, rfl, ha1, ha2, ha3⟩ := hts.len
  unfold maxLen at ha2
  obtain ⟨w1, e1, B1, z1, X1⟩ := box_new w #[.string ⟨#[]⟩, .int .i64 0, .int .i64 0, .int .i64 0, .int .i64 0, .string ⟨#[]⟩] 36
  obtain ⟨w3, e2, B2, z2, X2⟩ := box_new w1 #[.int .i64 k, .int .i64 n, .string s, .slice a ts.length c] 31
  have HZ1 := Lib.hid z1
  have HZ3 := Lib.hid (show w3.heap.size = w.heap.size + 2 by omega)
  have X1' := X1.ext B2
  have B3 := Ext.trans' B1 B2
  have h2 := h.ext B1
  obtain ⟨rb, ro, rc, hvr, hvo, d0, d1, d2, d3⟩ := row_get h2.row hi
  replace d0 : w1.cell? ⟨rb, ro + i * 4, none⟩ = some (.int .i64 k) := d0
  replace d1 : w1.cell? ⟨rb, ro + i * 4 + 1, none⟩ = some (.int .i64 n) := d1
  replace d2 : w1.cell? ⟨rb, ro + i * 4 + 2, none⟩ = some (.string s) := d2
  replace d3 : w1.cell? ⟨rb, ro + i * 4 + 3, none⟩ = some (.slice a ts.length c) := d3
  have hil : i < ps.length := (List.getElem?_eq_some_iff.1 hi).1
  have h3 := h.ext B3
  obtain ⟨c0, c1, c2, cf⟩ := h2.box.three
  have HE := Lib.hid (And.intro e1 e2)
  have HX3 := Lib.hid (And.intro h3 (And.intro X2 (And.intro X1' B3)))
  have HTS := Lib.hid hts
  have HNN := Lib.hid hnn
  have HL := Lib.hid h.lts
  have HSEV := Lib.hid (fun (wq : World) (F : List Nat) (vr' : Value) (ps' : List TmP) (sn : List Int) (hm : MkS W.heap.size wq mb qb sb S vs vr' ps' sn) (ht : Touch F w wq) (hr : ∀ k, vr'.ownBlock = some k → k < w.heap.size ∨ w.heap.size + 2 ≤ k) (u0 u1 u2 u3 u4 u5 : Value) =>
    (show MkS W.heap.size ((((((wq.setCell ⟨w.heap.size, 0, none⟩ u0).setCell ⟨w.heap.size, 1, none⟩ u1).setCell ⟨w.heap.size, 2, none⟩ u2).setCell ⟨w.heap.size, 3, none⟩ u3).setCell ⟨w.heap.size, 4, none⟩ u4).setCell ⟨w.heap.size, 5, none⟩ u5) mb qb sb S vs vr' ps' sn ∧
      Touch F w ((((((wq.setCell ⟨w.heap.size, 0, none⟩ u0).setCell ⟨w.heap.size, 1, none⟩ u1).setCell ⟨w.heap.size, 2, none⟩ u2).setCell ⟨w.heap.size, 3, none⟩ u3).setCell ⟨w.heap.size, 4, none⟩ u4).setCell ⟨w.heap.size, 5, none⟩ u5) from
      ⟨hm.six (w0 := w) (Nat.le_refl _) h.lts.1 h.lts.2.1 h.lts.2.2.1 (fun k hk => by have := hr k hk; omega) _ _ _ _ _ _, ht.trans (set6_touch wq w.heap.size _ _ _ _ _ _) (fun k hk => by simp at hk; exact Or.inr (by omega))⟩))
  have HROWB := Lib.hid (fun k hk => (h.lts.2.2.2 k hk) : ∀ k, vr.ownBlock = some k → k < w.heap.size)
  clear hf hocc hv hu' hkk hnn hts e1 e2 z1 z2 X1 X2 X1' B1 B2 B3 h h2 h3 hi hvo
  subst hvr
  go_enter Try.func55, Try.ntmps55
  go_upto_region 1 with fail
  (try rw [HE.out.1])
  go_upto_region 2 with fail
  (try rw [HE.out.2])
  obtain ⟨g0, g1, g2, gf⟩ := HX3.out.1.box.three
  obtain ⟨x0, x1, x2, x3, xf⟩ := HX3.out.2.1.four
  clear c0 c1 c2 cf d0 d1 d2 d3
  have r0 := HX3.out.2.2.1.cells 0 _ rfl
  have r1 := HX3.out.2.2.1.cells 1 _ rfl
  have r2 := HX3.out.2.2.1.cells 2 _ rfl
  have r3 := HX3.out.2.2.1.cells 3 _ rfl
  have r4 := HX3.out.2.2.1.cells 4 _ rfl
  have r5 := HX3.out.2.2.1.cells 5 _ rfl
  have rf := HX3.out.2.2.1.fz
  have HB3 := Lib.hid HX3.out.2.2.2
  by_cases hk0 : k = 0
  · subst hk0
    have hts : ts = [] := by
      rcases HF.out with h | h | h
      · have := h.2; unfold varV at this; injection this
      · exact absurd (show (0 : Int) = 1 from h.1) (by decide)
      · exact absurd (show (0 : Int) = 2 from h.1) (by decide)
    have hn : n ∈ vs := HOCC.out n (by rw [occ_var]; simp)
    obtain ⟨o, ho⟩ : ∃ o, (if seen.contains n then opVal else opVar) = o := ⟨_, rfl⟩
    have hst : stepI vs seen i ps.length (.mk 0 n s ts) = ⟨o, i, (posI vs n : Nat), 0, 0, ⟨#[]⟩⟩ := by rw [← ho]; rfl
    have hse : seenI seen (.mk 0 n s ts) = seenN seen n := by unfold seenI seenN; exact if_pos rfl
    have HC := Lib.hid (fun (wq : World) (hb : Below w3.heap.size w3 wq) => variable_at (reg := (i : Int)) (HX3.out.1.ext hb) hn)
    unfold VarP varIns insVal at HC
    rw [ho] at HC
    have HLK := Lib.hid (fun (wq : World) (hm : SlotM wq qb vs) => hm.look HNN.out hn)
    obtain ⟨j, hj⟩ : ∃ j, posI vs n = j := ⟨_, rfl⟩
    rw [hj] at HC HLK
    have HRES := Lib.hid (show ∀ wq : World, MkS W.heap.size wq mb qb sb S vs (.slice (some ⟨rb, ro, none⟩) ps.length rc) ps (seenN seen n) → Touch (mb :: sb :: (Value.slice (some ⟨rb, ro, none⟩) ps.length rc).ownBlock.toList) w wq →
        MstP W w mb qb sb S vs (.slice (some ⟨rb, ro, none⟩) ps.length rc) ps seen i (.mk 0 n s ts) (.returned (.agg #[.string o, .int .i64 i, .int .i64 j, .int .i64 0, .int .i64 0, .string ⟨#[]⟩])) wq from fun wq h1 h2 => by
      refine ⟨_, [], by rw [hst, hj]; rfl, by rw [hse, List.append_nil]; exact h1, by rw [hts]; rfl, by simp, h2, Or.inl rfl⟩)
    clear hst hse ho hts hn hj
    go_upto_region 3 with fail
    refine wp_region_held_drew (S := fun wq => wq.cell? ⟨mb, 1, none⟩ = some (.map (some qb)) ∧ wq.cell? ⟨w1.heap.size, 1, none⟩ = some (.int .i64 n) ∧ (Instr.lookup 98 (.map (some qb)) (.int .i64 n) false).run Try.prog wq = .ok (.int .i64 j) wq) (by kernel_rfl) (⟨g1, x1, HLK.out _ ((HX3.out.1.ext (Below.refl _ _).drew).map)⟩) (fun hHeld => ?_)
    first | (refine held_t (i := 0) hHeld ?_; constructor; constructor; intro wq hq; focus ((try dsimp only at hq); go_simp; first | done | with_reducible rfl | fail)) | refine held_s (i := 0) hHeld ?_ | fail
    first | (refine held_t (i := 1) hHeld ?_; constructor; constructor; intro wq hq; focus ((try dsimp only at hq); go_simp; first | done | with_reducible rfl | fail)) | refine held_s (i := 1) hHeld ?_ | fail
    first | (refine held_t (i := 2) hHeld ?_; constructor; constructor; intro wq hq; focus ((try dsimp only at hq); go_simp; first | done | with_reducible rfl | fail)) | refine held_s (i := 2) hHeld ?_ | fail
    first | (refine held_t (i := 3) hHeld ?_; constructor; constructor; intro wq hq; focus ((try dsimp only at hq); go_simp; first | done | with_reducible rfl | fail)) | refine held_s (i := 3) hHeld ?_ | fail
    first | (refine held_t (i := 4) hHeld ?_; constructor; constructor; intro wq hq; focus ((try dsimp only at hq); go_simp; first | done | with_reducible rfl | fail)) | refine held_s (i := 4) hHeld ?_ | fail
    first | (refine held_t (i := 5) hHeld ?_; constructor; constructor; intro wq hq; focus ((try dsimp only at hq); go_simp; first | done | with_reducible rfl | fail)) | refine held_s (i := 5) hHeld ?_ | fail
    first | (refine held_t (i := 6) hHeld ?_; constructor; constructor; intro wq hq; focus ((try dsimp only at hq); go_simp; first | done | with_reducible rfl | fail)) | refine held_s (i := 6) hHeld ?_ | fail
    first | (refine held_t (i := 7) hHeld ?_; constructor; constructor; intro wq hq; focus ((try dsimp only at hq); go_simp; first | done | with_reducible rfl | fail)) | refine held_s (i := 7) hHeld ?_ | fail
    first | (refine held_t (i := 8) hHeld ?_; constructor; constructor; intro wq hq; focus ((try dsimp only at hq); go_simp; first | done | with_reducible rfl | fail)) | refine held_s (i := 8) hHeld ?_ | fail
    try simp only [Act.put, lay4]
    refine held_c 9 fun K hK => ?_
    go_simp
    (go_at_call 88; refine (HC.out _ (Below.refl _ _).drew).mono ?_; rintro e w6 ⟨rfl, m6, t6⟩; have HT6 := Lib.hid ((Touch.of_below (Ext.trans' HB3.out (Below.refl _ _).drew) (mb :: sb :: (Value.slice (some ⟨rb, ro, none⟩) ps.length rc).ownBlock.toList)).trans t6 (fun k hk => Or.inl (by simp at hk; simp [hk]))); have HM6 := Lib.hid m6; have hnr : ¬ w.heap.size ∈ [sb] := (fun hm => by (have h8 := HL.out.2.2.1; have h7 := List.mem_singleton.1 hm; omega)); replace r0 := t6.cell hnr r0; replace r1 := t6.cell hnr r1; replace r2 := t6.cell hnr r2; replace r3 := t6.cell hnr r3; replace r4 := t6.cell hnr r4; replace r5 := t6.cell hnr r5; have rf6 : ∀ q, w6.frozen? ⟨w.heap.size, q, none⟩ = false := (t6.box hnr (HX3.out.2.2.1.ext (Below.refl _ _).drew)).fz; have hx6 := t6.cell (b := w1.heap.size) (fun hm => by (have h8 := HL.out.2.2.1; have h9 := HZ1.out; have h7 := List.mem_singleton.1 hm; omega)) x1; clear rf; have HX6 := Lib.hid hx6; clear hx6 t6 m6)
    refine hK.out _ _ (⟨HM6.out.box.three.2.1, HX6.out, HLK.out _ HM6.out.map⟩) (fun hHeld => ?_)
    clear hK K
    try simp only [Act.put, lay4]
    refine held_c 10 fun K hK => ?_
    go_simp
    (have HS6 := Lib.hid (HSEV.out w6 _ _ ps (seenN seen n) HM6.out HT6.out (fun k hk => Or.inl (HROWB.out k hk)) (.string o) (.int .i64 i) (.int .i64 j) (.int .i64 0) (.int .i64 0) (.string ⟨#[]⟩)); have hwn : w1.heap.size ≠ w.heap.size := (by (have := HZ1.out; omega)))
    refine hK.out _ _ (⟨HS6.out.1.box.three.2.1, (far_cell hwn).trans ((far_cell hwn).trans ((far_cell hwn).trans ((far_cell hwn).trans ((far_cell hwn).trans ((far_cell hwn).trans HX6.out))))), HLK.out _ HS6.out.1.map⟩) (fun hHeld => ?_)
    clear hK K
    try simp only [Act.put, lay4]
    refine wpAnyH_done (by kernel_rfl) ?_ _
    clear hHeld
    go_wp2
    refine bodyPost_ret (v := .agg #[.string o, .int .i64 i, .int .i64 j, .int .i64 0, .int .i64 0, .string ⟨#[]⟩]) (by rw [results_cell1 rfl]; go_simp) rfl ?_
    exact HRES.out _ HS6.out.1 HS6.out.2
  by_cases hk1 : k = 1
  · subst hk1
    have hts : ts = [] := by
      rcases HF.out with h | h | h
      · exact absurd (show (1 : Int) = 0 from h.1) (by decide)
      · have := h.2; injection this
      · exact absurd (show (1 : Int) = 2 from h.1) (by decide)
    have hst : stepI vs seen i ps.length (.mk 1 n s ts) = ⟨opInt, i, 0, 0, n, ⟨#[]⟩⟩ := rfl
    have hse : seenI seen (.mk 1 n s ts) = seen := rfl
    have HS6 := Lib.hid (HSEV.out w3 (mb :: sb :: (Value.slice (some ⟨rb, ro, none⟩) ps.length rc).ownBlock.toList) _ ps seen HX3.out.1 (Touch.of_below HB3.out _) (fun k hk => Or.inl (HROWB.out k hk)) (.string opInt) (.int .i64 i) (.int .i64 0) (.int .i64 0) (.int .i64 n) (.string ⟨#[]⟩))
    have HRES := Lib.hid (show ∀ wq : World, MkS W.heap.size wq mb qb sb S vs (.slice (some ⟨rb, ro, none⟩) ps.length rc) ps seen → Touch (mb :: sb :: (Value.slice (some ⟨rb, ro, none⟩) ps.length rc).ownBlock.toList) w wq →
        MstP W w mb qb sb S vs (.slice (some ⟨rb, ro, none⟩) ps.length rc) ps seen i (.mk 1 n s ts) (.returned (.agg #[.string opInt, .int .i64 i, .int .i64 0, .int .i64 0, .int .i64 n, .string ⟨#[]⟩])) wq from fun wq h1 h2 =>
      ⟨_, [], by rw [hst]; rfl, by rw [hse, List.append_nil]; exact h1, by rw [hts]; rfl, by simp, h2, Or.inl rfl⟩)
    clear hst hse hts
    unfold opInt at HRES HS6
    go_wp2
    refine bodyPost_ret (v := .agg #[.string ⟨#[105, 110, 116]⟩, .int .i64 i, .int .i64 0, .int .i64 0, .int .i64 n, .string ⟨#[]⟩]) (by rw [results_cell1 rfl]; go_simp) rfl ?_
    exact HRES.out _ HS6.out.1 HS6.out.2
  have hk2 : k = 2 := by
    rcases HF.out with h | h | h
    · exact absurd h.1 hk0
    · exact absurd h.1 hk1
    · exact h.1
  subst hk2
  by_cases hm0 : ts.length = 0
  · have hts : ts = [] := List.length_eq_zero_iff.1 hm0
    have hst : stepI vs seen i ps.length (.mk 2 n s ts) = ⟨opAtom, i, 0, 0, 0, s⟩ := by rw [hts]; rfl
    have hse : seenI seen (.mk 2 n s ts) = seen := rfl
    have HS6 := Lib.hid (HSEV.out w3 (mb :: sb :: (Value.slice (some ⟨rb, ro, none⟩) ps.length rc).ownBlock.toList) _ ps seen HX3.out.1 (Touch.of_below HB3.out _) (fun k hk => Or.inl (HROWB.out k hk)) (.string opAtom) (.int .i64 i) (.int .i64 0) (.int .i64 0) (.int .i64 0) (.string s))
    have HRES := Lib.hid (show ∀ wq : World, MkS W.heap.size wq mb qb sb S vs (.slice (some ⟨rb, ro, none⟩) ps.length rc) ps seen → Touch (mb :: sb :: (Value.slice (some ⟨rb, ro, none⟩) ps.length rc).ownBlock.toList) w wq →
        MstP W w mb qb sb S vs (.slice (some ⟨rb, ro, none⟩) ps.length rc) ps seen i (.mk 2 n s ts) (.returned (.agg #[.string opAtom, .int .i64 i, .int .i64 0, .int .i64 0, .int .i64 0, .string s])) wq from fun wq h1 h2 =>
      ⟨_, [], by rw [hst]; rfl, by rw [hse, List.append_nil]; exact h1, by rw [hts]; rfl, by simp, h2, Or.inl rfl⟩)
    clear hst hse
    rw [hts] at x3
    subst hts
    unfold opAtom at HRES HS6
    go_wp2
    refine bodyPost_ret (v := .agg #[.string ⟨#[97, 116, 111, 109]⟩, .int .i64 i, .int .i64 0, .int .i64 0, .int .i64 0, .string s]) (by rw [results_cell1 rfl]; go_simp) rfl ?_
    exact HRES.out _ HS6.out.1 HS6.out.2
  · have hm0' : ((ts.length : Nat) : Int) ≠ 0 := by omega
    obtain ⟨qs, ao, c', hsl, hql, hqm, hqa, hbig, hsrc⟩ := HTS.out.pairs
    obtain ⟨m, hm⟩ : ∃ m, ts.length = m := ⟨_, rfl⟩
    have hm8 : m ≤ 8 := by rw [← hm]; exact (plain_kids HFT.out rfl).2
    obtain ⟨L, hL⟩ : ∃ L, ps.length = L := ⟨_, rfl⟩
    have hst : stepI vs seen i ps.length (.mk 2 n s ts) = ⟨opComp, i, (ts.length : Nat), (ps.length : Nat), 0, s⟩ := by
      unfold stepI
      exact (if_neg (show ¬ (2 : Int) = 0 by decide)).trans ((if_neg (show ¬ (2 : Int) = 1 by decide)).trans (if_neg hm0))
    have hse : seenI seen (.mk 2 n s ts) = seen := rfl
    obtain ⟨hao, hc'⟩ : a = ao ∧ c = c' := by injection hsl with h1 h2 h3; exact ⟨h1, h3⟩
    subst hao hc'
    obtain ⟨i0, hi0, hz0, hs0, hb0⟩ := info_parts infoTermB
    have HONE := Lib.hid (pCells_one qs hqa)
    have hsrc3 : (m = 0 ∨ ∃ ad, a = some ad ∧ ∀ j u, (qs.flatMap pCells)[j]? = some u → w3.drew.cell? (ad.add j) = some u) := by
      rw [← hm]
      exact hsrc.imp id fun ⟨ad, e, hc⟩ => ⟨ad, e, fun j u hj => cell_later (Ext.trans' (hW.trans (HB3.out.mono hW.size)) (Below.refl _ _).drew) (hc j u hj)⟩
    have hfl : (qs.flatMap pCells).length = m * 4 := by rw [flat_len pCells_len, hql, hm]
    have HRW := Lib.hid (show w3.drew.ownsRow W.heap.size 31 4 (.slice (some ⟨rb, ro, none⟩) L rc) L (ps.flatMap pCells) from by rw [← hL]; exact (HX3.out.1.ext (Below.refl _ _).drew).row)
    have HQ := Lib.hid (And.intro hqm (And.intro hqa hql))
    have HWS := Lib.hid (Nat.le_trans hW.size HB3.out.size)
    rw [hm] at hm0' hm0 x3 ha1 hst
    rw [hL] at g0 hlen hst
    have HST := Lib.hid (And.intro hst hse)
    have HML := Lib.hid (And.intro hm hL)
    clear hst hse hsrc hql hqm hqa hsl hW hm hbig hL
    go_upto_region 9 with fail
    have hrbw : rb < w.heap.size := HROWB.out rb rfl
    have hmrb : rb ≠ mb := fun e => HX3.out.1.apart.2.2.2.1 (by rw [e]; rfl)
    have hmb3 : mb < w3.heap.size := HX3.out.1.box.lt
    have hw1a : w1.heap.size < w3.heap.size := by have := HZ1.out; have := HZ3.out; omega
    have hw1b : w1.heap.size ≠ rb := by have := HZ1.out; omega
    have hw1c : w1.heap.size ≠ mb := by have := HZ1.out; have := HL.out.1; omega
    have HBX3 := Lib.hid ((HX3.out.1.ext (Below.refl _ _).drew).box)
    refine wp_region_held_drew (S := fun wq => wq.cell? ⟨w1.heap.size, 3, none⟩ = some (.slice a m c)) (by kernel_rfl) (x3) (fun hHeld => ?_)
    first | (refine held_t (i := 0) hHeld ?_; constructor; constructor; intro wq hq; focus ((try dsimp only at hq); go_simp; first | done | with_reducible rfl | fail)) | refine held_s (i := 0) hHeld ?_ | fail
    first | (refine held_t (i := 1) hHeld ?_; constructor; constructor; intro wq hq; focus ((try dsimp only at hq); go_simp; first | done | with_reducible rfl | fail)) | refine held_s (i := 1) hHeld ?_ | fail
    first | (refine held_t (i := 2) hHeld ?_; constructor; constructor; intro wq hq; focus ((try dsimp only at hq); go_simp; first | done | with_reducible rfl | fail)) | refine held_s (i := 2) hHeld ?_ | fail
    first | (refine held_t (i := 3) hHeld ?_; constructor; constructor; intro wq hq; focus ((try dsimp only at hq); go_simp; first | done | with_reducible rfl | fail)) | refine held_s (i := 3) hHeld ?_ | fail
    first | (refine held_t (i := 5) hHeld ?_; constructor; constructor; intro wq hq; focus ((try dsimp only at hq); go_simp; first | done | with_reducible rfl | fail)) | refine held_s (i := 5) hHeld ?_ | fail
    first | (refine held_t (i := 6) hHeld ?_; constructor; constructor; intro wq hq; focus ((try dsimp only at hq); go_simp; first | done | with_reducible rfl | fail)) | refine held_s (i := 6) hHeld ?_ | fail
    try simp only [Act.put, lay4]
    refine held_c 4 fun K hK => ?_
    go_simp
    skip
    refine hK.out _ _ (hHeld) (fun hHeld => ?_)
    clear hK K
    try simp only [Act.put, lay4]
    refine held_c 7 fun K hK => ?_
    (refine step_append_k (by rfl) _ _ 29 (by rfl) W.heap.size 31 i0 (.agg #[.int .i64 0, .int .i64 0, .string ⟨#[]⟩, .slice none 0 0]) 4 56 Try.underlying29 hi0 hz0 hs0 (by decide) hb0 rfl (.slice (some ⟨rb, ro, none⟩) L rc) L (ps.flatMap pCells) (by rfl) HRW.out a m c (qs.flatMap pCells) (by rfl) hfl hsrc3 HONE.out (by unfold maxLen; omega) (by omega) HWS.out (L + m) ((ps ++ qs).flatMap pCells) rfl (by simp) ?_; intro a4 c4 w4 hown4 hgrow4 hat4; have HGR := Lib.hid (And.intro hown4 (And.intro hgrow4 hat4)); have hbk4 : ∀ k, k < w3.heap.size → k ≠ rb → w4.heap[k]? = w3.drew.heap[k]? := (fun k hk hn => hgrow4.block k hk (fun e => hn (Option.some.inj (show some k = some rb from e)))); have HBX4 := Lib.hid (HBX3.out.block (hbk4 mb hmb3 (fun e => hmrb e.symm)) (Nat.lt_of_lt_of_le hmb3 hgrow4.size)); have hq0 := HBX4.out.cells 0 _ rfl; have hqf := HBX4.out.fz; have HBK4 := Lib.hid hbk4; clear hown4 hgrow4 hat4 hbk4)
    refine hK.out _ _ ((World.cell?_of_block (HBK4.out w1.heap.size hw1a hw1b)).trans x3) (fun hHeld => ?_)
    clear hK K
    try simp only [Act.put, lay4]
    first | (refine held_t (i := 8) hHeld ?_; constructor; constructor; intro wq hq; focus ((try dsimp only at hq); go_simp; first | done | with_reducible rfl | fail)) | refine held_s (i := 8) hHeld ?_ | fail
    first | (refine held_t (i := 9) hHeld ?_; constructor; constructor; intro wq hq; focus ((try dsimp only at hq); go_simp; first | done | with_reducible rfl | fail)) | refine held_s (i := 9) hHeld ?_ | fail
    try simp only [Act.put, lay4]
    refine held_c 10 fun K hK => ?_
    go_simp
    skip
    refine hK.out _ _ ((far_cell hw1c).trans hHeld) (fun hHeld => ?_)
    clear hK K
    try simp only [Act.put, lay4]
    refine wpAnyH_done (by kernel_rfl) ?_ _
    have HG := Lib.hid (MkS.grow (HX3.out.1.ext (Below.refl _ _).drew) (vr' := .slice a4 (L + m) c4) (qs := qs) (by have := HGR.out.1; unfold RowP; rw [List.length_append, HML.out.2, HQ.out.2.2, HML.out.1]; exact this) HGR.out.2.1 HGR.out.2.2)
    have x2' : w4.cell? ⟨w1.heap.size, 2, none⟩ = some (.string s) := (World.cell?_of_block (HBK4.out w1.heap.size hw1a hw1b)).trans x2
    have z2 : (w4.setCell ⟨mb, 0, none⟩ (.slice a4 (L + m) c4)).cell? ⟨w1.heap.size, 2, none⟩ = some (.string s) := (far_cell hw1c).trans x2'
    have z3 : (w4.setCell ⟨mb, 0, none⟩ (.slice a4 (L + m) c4)).cell? ⟨w1.heap.size, 3, none⟩ = some (.slice a m c) := hHeld
    have hrn : w.heap.size ≠ mb := by have := HL.out.1; omega
    have hrb2 : w.heap.size ≠ rb := by omega
    have hr3 : w.heap.size < w3.heap.size := by have := HZ3.out; omega
    have RB := Lib.hid (((HX3.out.2.2.1.ext (Below.refl _ _).drew).block (HBK4.out w.heap.size hr3 hrb2) (Nat.lt_of_lt_of_le hr3 HGR.out.2.1.size)).far (c := mb) (k := 0) (u := .slice a4 (L + m) c4) hrn)
    have HT4 := Lib.hid ((Touch.of_below (Ext.trans' HB3.out (Below.refl _ _).drew) (mb :: sb :: (Value.slice (some ⟨rb, ro, none⟩) L rc).ownBlock.toList)).trans HG.out.2 (fun k hk => Or.inl hk))
    have HS6 := Lib.hid (HSEV.out _ _ _ (ps ++ qs) seen HG.out.1 HT4.out (fun k hk => by
      rcases HGR.out.2.2 with e | e
      · rw [e] at hk; exact Or.inl (HROWB.out k hk)
      · rw [e] at hk
        have := Option.some.inj hk
        have h3 := HZ3.out
        have h4 : w3.drew.heap.size = w3.heap.size := rfl
        exact Or.inr (by omega)) (.string opComp) (.int .i64 i) (.int .i64 m) (.int .i64 L) (.int .i64 0) (.string s))
    have HRES := Lib.hid (show ∀ wq : World, MkS W.heap.size wq mb qb sb S vs (.slice a4 (L + m) c4) (ps ++ qs) seen → Touch (mb :: sb :: (Value.slice (some ⟨rb, ro, none⟩) L rc).ownBlock.toList) w wq →
        MstP W w mb qb sb S vs (.slice (some ⟨rb, ro, none⟩) ps.length rc) ps seen i (.mk 2 n s ts) (.returned (.agg #[.string opComp, .int .i64 i, .int .i64 m, .int .i64 L, .int .i64 0, .string s])) wq from fun wq h1 h2 =>
      ⟨_, qs, by rw [HML.out.2, HST.out.1]; rfl, by rw [HST.out.2]; exact h1, HQ.out.1, HQ.out.2.1, h2, by
        rcases HGR.out.2.2 with e | e
        · exact Or.inl e
        · exact Or.inr ⟨_, e, by have := HZ3.out; have h4 : w3.drew.heap.size = w3.heap.size := rfl; omega⟩⟩)
    obtain ⟨w5, hw5⟩ : ∃ w5, w4.setCell ⟨mb, 0, none⟩ (.slice a4 (L + m) c4) = w5 := ⟨_, rfl⟩
    rw [hw5] at z2 z3 RB HS6 ⊢
    clear hHeld x2' x0 x1 x2 x3 xf g0 g1 g2 gf r0 r1 r2 r3 r4 r5 rf hq0 hqf hw5 HG HT4
    have r0 := RB.out.cells 0 _ rfl
    have r1 := RB.out.cells 1 _ rfl
    have r2 := RB.out.cells 2 _ rfl
    have r3 := RB.out.cells 3 _ rfl
    have r4 := RB.out.cells 4 _ rfl
    have r5 := RB.out.cells 5 _ rfl
    have rf := RB.out.fz
    unfold opComp at HRES HS6
    go_wp2
    refine bodyPost_ret (v := .agg #[.string ⟨#[99, 111, 109, 112]⟩, .int .i64 i, .int .i64 m, .int .i64 L, .int .i64 0, .string s]) (by rw [results_cell1 rfl]; go_simp) rfl ?_
    exact HRES.out _ HS6.out.1 HS6.out.2
end
end Go.Proofs.Ytchbbaehdcmcfaa
/- Package code: Head. -/
namespace Go.Proofs.Ytchbbaehdcmcfaa
open Go.RowKit Go.Maps
set_option linter.unusedVariables false
theorem pos_le : ∀ (l : List Int) (n : Int), posI l n ≤ l.length
 | [], n => by rw [posI]; exact Nat.le_refl _
 | x :: r, n => by
  rw [posI, List.length_cons]
  have := pos_le r n
  split <;> omega
theorem step_in {W : World} {t : Tm} {v : Value} (hv : TmV W t v) {vs seen : List Int} {i next : Nat} (hvs : vs.length ≤ 100000) (hi : i ≤ 100000) (hn : next ≤ 100000) : InsIn (stepI vs seen i next t) := by
 obtain ⟨k, n, s, ts⟩ := t
 obtain ⟨u, rfl, hss, hk, hnn, hts⟩ := tmV_iff.1 hv
 obtain ⟨a, c, _, h1, h2, h3⟩ := hts.len
 have hp := pos_le vs n
 have hi' : I64 (i : Int) := by unfold I64; omega
 have h0 : I64 0 := by unfold I64; omega
 have hB : (⟨#[]⟩ : ByteArray).size ≤ BIG := by unfold BIG; decide
 have hl : I64 ((ts.length : Nat) : Int) := by unfold BIG at h3; unfold I64; omega
 unfold stepI
 split
 ·exact ⟨hi', by show I64 ((posI vs n : Nat) : Int); unfold I64; omega, h0, h0, hB⟩
 ·split
  ·exact ⟨hi', h0, h0, hnn, hB⟩
  ·split
   ·exact ⟨hi', h0, h0, h0, hss⟩
   ·exact ⟨hi', hl, by show I64 ((next : Nat) : Int); unfold I64; omega, h0, hss⟩
theorem SlotM.cell_ne {w : World} {qb b j : Nat} {l : List Int} {u : Value} (h : SlotM w qb l) (hc : w.cell? ⟨b, j, none⟩ = some u) : b ≠ qb := by
 intro e
 subst e
 obtain ⟨D, ⟨es, clock, h1, _⟩, _⟩ := h
 simp [World.cell?, h1] at hc
theorem nodup_take {l : List Int} (h : l.Nodup) {i : Nat} {x : Int} (hx : l[i]? = some x) : ¬ x ∈ l.take i := by
 intro hm
 obtain ⟨j, hj, e⟩ := List.getElem_of_mem hm
 rw [List.length_take] at hj
 rw [List.getElem_take] at e
 obtain ⟨hi, ei⟩ := List.getElem?_eq_some_iff.1 hx
 have h1 := pos_get8 h (j := j) (by omega)
 have h2 := pos_get8 h hi
 rw [e] at h1
 rw [ei] at h2
 omega
structure HdS (W : World) (t : Tm) (mb qb sb cb S m : Nat) (vs : List Int) (i : Nat) (wr : World) (vr vl : Value) (ps : List TmP) (seen : List Int) (done : List InsM) : Prop where
 mks : MkS W.heap.size wr mb qb sb S vs vr ps seen
 cbox : Box wr cb [.int .i64 m, .int .i64 S, .int .i64 0, vl]
 lrow : wr.ownsRow W.heap.size 36 6 vl i (done.flatMap insCells)
 len : done.length = i
 pure : ∃ K q, (headC t).l = done ++ flatI vs K q i ps.length seen ∧ (ps.map (·.1)).drop i = q ∧ ps.length = i + q.length ∧ sizesN q ≤ K ∧ formedL q = true ∧ ∀ n ∈ occL q, n ∈ vs
 tm : ∀ p ∈ ps, TmV W p.1 (pVal p)
 ins : ∀ x ∈ done, InsIn x
 bel : Below W.heap.size W wr
 far : cb ≠ mb ∧ cb ≠ qb ∧ cb ≠ sb ∧ vr.ownBlock ≠ some cb
 farl : vl.ownBlock ≠ some mb ∧ vl.ownBlock ≠ some qb ∧ vl.ownBlock ≠ some sb ∧ vl.ownBlock ≠ some cb ∧ ∀ k, vl.ownBlock = some k → vr.ownBlock ≠ some k
 cown : W.heap.size ≤ cb
theorem touch4C (w : World) (b : Nat) (u0 u1 u2 u3 : Value) : Touch [b] w (set4 w b u0 u1 u2 u3) :=
 (((touch_one w b 0 u0).trans (touch_one _ b 1 u1) (fun k hk => Or.inl hk)).trans (touch_one _ b 2 u2) (fun k hk => Or.inl hk)).trans (touch_one _ b 3 u3) (fun k hk => Or.inl hk)
theorem grown_touch {w w' : World} {v : Value} (hg : w.grownBy w' v.ownBlock) : Touch v.ownBlock.toList w w' := ⟨hg.os, hg.tape, hg.output, hg.size, fun k hk hn => hg.block k hk (fun e => hn (by simp [← e]))⟩
section
variable {W wr w5 w6 w7 : World} {t : Tm} {mb qb sb cb S m : Nat} {vs : List Int} {i : Nat} {vr vl vr' vl' : Value} {ps qs : List TmP} {seen : List Int} {done : List InsM}
theorem HdS.pure_next (h : HdS W t mb qb sb cb S m vs i wr vr vl ps seen done) {p : TmP} (hi : ps[i]? = some p) : formedT p.1 = true ∧ (∀ n ∈ occT p.1, n ∈ vs) ∧ i < (headC t).l.length ∧ ps.length ≤ (headC t).l.length ∧
  ∀ qs : List TmP, qs.map (·.1) = p.1.args → ∃ K q, (headC t).l = (done ++ [stepI vs seen i ps.length p.1]) ++ flatI vs K q (i + 1) (ps ++ qs).length (seenI seen p.1) ∧ ((ps ++ qs).map (·.1)).drop (i + 1) = q ∧ (ps ++ qs).length = (i + 1) + q.length ∧ sizesN q ≤ K ∧ formedL q = true ∧ ∀ n ∈ occL q, n ∈ vs := by
 obtain ⟨K, q, h1, h2, h3, h4, h5, h6⟩ := h.pure
 have hil : i < ps.length := (List.getElem?_eq_some_iff.1 hi).1
 have hmi : i < (ps.map (·.1)).length := by rw [List.length_map]; exact hil
 rw [List.drop_eq_getElem_cons hmi] at h2
 have hpi : (ps.map (·.1))[i] = p.1 := by
  have := (List.getElem?_eq_some_iff.1 hi).2
  rw [List.getElem_map, this]
 rw [hpi] at h2
 subst h2
 have hp := size_pos p.1
 rw [sizesN] at h4
 rw [formedL, Bool.and_eq_true] at h5
 have hkid := size_kids p.1
 cases K with
 | zero => omega
 | succ K =>
  rw [flatI] at h1
  have hl1 := congrArg List.length h1
  rw [List.length_append, List.length_cons, h.len, cflat_size _ _ _ _ _ _ (by rw [sizes_app]; omega), sizes_app] at hl1
  have hq' : ∀ l : List Tm, l.length ≤ sizesN l := by
   intro l
   induction l with
   | nil => simp
   | cons x r ih => rw [sizesN, List.length_cons]; have := size_pos x; omega
  have h3' := h3
  rw [List.length_cons] at h3'
  have h9 := hq' ((ps.map (·.1)).drop (i + 1))
  refine ⟨h5.1, fun n hn => h6 n (by rw [occL, List.mem_append]; exact Or.inl hn), by omega, by omega, fun qs hqs => ⟨K, (ps.map (·.1)).drop (i + 1) ++ p.1.args, ?_, ?_, ?_, ?_, ?_, ?_⟩⟩
  ·have hlq : qs.length = p.1.args.length := by rw [← hqs, List.length_map]
   rw [h1, List.append_assoc, List.length_append, hlq]
   rfl
  ·rw [List.map_append, List.drop_append_of_le_length (by rw [List.length_map]; omega), hqs]
  ·have hlq : qs.length = p.1.args.length := by rw [← hqs, List.length_map]
   rw [List.length_append, List.length_append, hlq]
   omega
  ·rw [sizes_app]; omega
  ·rw [formedL_app, h5.2, formed_argsL h5.1]; rfl
  ·intro n hn
   rw [occL_app, List.mem_append] at hn
   rcases hn with hn | hn
   ·exact h6 n (by rw [occL, List.mem_append]; exact Or.inr hn)
   ·exact h6 n (by rw [occL, List.mem_append]; exact Or.inl ((occ_kids h5.1).2 (Or.inr hn)))
theorem HdS.next (h : HdS W t mb qb sb cb S m vs i wr vr vl ps seen done) {p : TmP} (hi : ps[i]? = some p) (hm : MkS W.heap.size w5 mb qb sb S vs vr' (ps ++ qs) (seenI seen p.1)) (hqs : qs.map (·.1) = p.1.args) (hqt : ∀ q ∈ qs, TmV W q.1 (pVal q)) (ht : Touch (mb :: sb :: vr.ownBlock.toList) wr w5)
  (hv' : vr'.ownBlock = vr.ownBlock ∨ ∃ k, vr'.ownBlock = some k ∧ wr.heap.size ≤ k) (b6 : Below w5.heap.size w5 w6) (ho : w7.ownsRow W.heap.size 36 6 vl' (i + 1) ((done ++ [stepI vs seen i ps.length p.1]).flatMap insCells)) (hg : w6.grownBy w7 vl.ownBlock) (hl' : vl'.ownBlock = vl.ownBlock ∨ vl'.ownBlock = some w6.heap.size) (hS : vs.length ≤ 100000) (hL : (headC t).l.length ≤ 100000) :
  HdS W t mb qb sb cb S m vs (i + 1) (w7.setCell ⟨cb, 3, none⟩ vl') vr' vl' (ps ++ qs) (seenI seen p.1) (done ++ [stepI vs seen i ps.length p.1]) := by
 obtain ⟨p1, p2, p3, p3', p4⟩ := h.pure_next hi
 have f := h.far
 have fl := h.farl
 have t67 := grown_touch hg
 have t78 := touch_one w7 cb 3 vl'
 have hcw : cb < wr.heap.size := h.cbox.lt
 have hvw : ∀ k, vl.ownBlock = some k → k < wr.heap.size := fun k hk => (h.lrow.lt k hk).2
 have nvr : ∀ k, vr'.ownBlock = some k → k ≠ cb ∧ vl.ownBlock ≠ some k := fun k hk => by
  rcases hv' with e | ⟨k', e, hk'⟩
  ·rw [e] at hk
   exact ⟨fun e => f.2.2.2 (by rw [hk, e]), fun e => fl.2.2.2.2 k e hk⟩
  ·rw [e] at hk
   have := Option.some.inj hk
   exact ⟨by omega, fun e => by have := hvw k e; omega⟩
 have t57 : Touch vl.ownBlock.toList w5 w7 := (Touch.of_below b6 _).trans t67 (fun k hk => Or.inl hk)
 have t58 : Touch (cb :: vl.ownBlock.toList) w5 (w7.setCell ⟨cb, 3, none⟩ vl') := (t57.sub (fun k hk => List.mem_cons_of_mem _ hk)).trans t78 (fun k hk => Or.inl (by have := List.mem_singleton.1 hk; simp [this]))
 have hcn : ¬ cb ∈ mb :: sb :: vr.ownBlock.toList := by simp; exact ⟨f.1, f.2.2.1, f.2.2.2⟩
 have hcl : ¬ cb ∈ vl.ownBlock.toList := by simp; exact fl.2.2.2.1
 have hsz : wr.heap.size ≤ w6.heap.size := Nat.le_trans ht.size b6.size
 have hlts := h.mks.lts
 have hown' : ∀ k, vl'.ownBlock = some k → k ≠ cb := fun k hk => by
  rcases hl' with e | e
  ·rw [e] at hk; exact fun e => fl.2.2.2.1 (by rw [hk, e])
  ·rw [e] at hk; have := Option.some.inj hk; omega
 refine ⟨hm.touch t58 ?_ ?_ ?_ ?_, (t57.box hcl (ht.box hcn h.cbox)).set (k := 3) (u := vl') (by simp), owns_row_block ho (fun k hk => t78.block k (ho.lt k hk).2 (by simp; exact hown' k hk)), by rw [List.length_append, h.len]; rfl, p4 qs hqs, fun q hq => ?_, fun x hx => ?_, ?_, ⟨f.1, f.2.1, f.2.2.1, fun e => (nvr _ e).1 rfl⟩, ⟨?_, ?_, ?_, fun e => hown' _ e rfl, fun k hk e => ?_⟩, h.cown⟩
 ·simp; exact ⟨fun e => f.1 e.symm, fl.1⟩
 ·simp; exact ⟨fun e => f.2.1 e.symm, fl.2.1⟩
 ·simp; exact ⟨fun e => f.2.2.1 e.symm, fl.2.2.1⟩
 ·intro k hk; simp; exact nvr k hk
 ·rcases List.mem_append.1 hq with hq | hq
  ·exact h.tm q hq
  ·exact hqt q hq
 ·rcases List.mem_append.1 hx with hx | hx
  ·exact h.ins x hx
  ·have := List.mem_singleton.1 hx
   subst this
   exact step_in (h.tm p (List.mem_of_getElem? hi)) hS (by omega) (by omega)
 ·have hW := h.bel
  have b1 : Below W.heap.size W w5 := hW.trans (ht.below hW.size (fun k hk => by
   simp only [List.mem_cons, Option.mem_toList] at hk
   rcases hk with rfl | rfl | hk
   ·exact h.mks.own.1
   ·exact h.mks.own.2.2
   ·exact (h.mks.row.lt k hk).1))
  have t5s := t58.below b1.size (fun k hk => by
   simp only [List.mem_cons, Option.mem_toList] at hk
   rcases hk with rfl | hk
   ·exact h.cown
   ·exact (h.lrow.lt k hk).1)
  exact b1.trans t5s
 ·intro e
  rcases hl' with q | q
  ·rw [q] at e; exact fl.1 e
  ·rw [q] at e; have := Option.some.inj e; have := hlts.1; omega
 ·intro e
  rcases hl' with q | q
  ·rw [q] at e; exact fl.2.1 e
  ·rw [q] at e; have := Option.some.inj e; have := hlts.2.1; omega
 ·intro e
  rcases hl' with q | q
  ·rw [q] at e; exact fl.2.2.1 e
  ·rw [q] at e; have := Option.some.inj e; have := hlts.2.2.1; omega
 ·rcases hl' with q | q
  ·rw [q] at hk; exact (nvr k e).2 hk
  ·rw [q] at hk
   have h1 := Option.some.inj hk
   have h2 := hm.lts.2.2.2 k e
   have h3 := b6.size
   omega
end
theorem zero_code (w : World) : CodeV w zeroC (.agg #[.int .i64 0, .int .i64 0, .int .i64 0, .slice none 0 0]) :=
 ⟨none, 0, 0, rfl, by unfold I64 zeroC; simp, by unfold I64 zeroC; simp, by unfold I64 zeroC; simp, ⟨none, 0, rfl, Nat.le_refl _, Nat.zero_le _, Or.inl rfl⟩, fun x hx => by cases hx⟩
end Go.Proofs.Ytchbbaehdcmcfaa
