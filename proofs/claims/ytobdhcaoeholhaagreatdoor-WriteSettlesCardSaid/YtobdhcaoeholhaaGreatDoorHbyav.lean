import Derived.Test.YtobdhcaoeholhaaGreatDoorHbyau
import Derived.Test.YtobdhcaoeholhaaGreatDoorHbyab
import Derived.Test.YtobdhcaoeholhaaGreatDoorHbyah
import Derived.Deep.RegionHeld3
import Derived.Laws.StructEq
import Derived.Test.YtobdhcaoeholhaaGreatDoorHbyar
import Derived.Lib.Strings
import Derived.Test.YtobdhcaoeholhaaGreatDoorHbyac
import Derived.Deep.QuietTactic
import Derived.Test.YtobdhcaoeholhaaGreatDoorHbyaa
import Derived.Test.YtobdhcaoeholhaaGreatDoorHbyai
import Derived.Test.YtobdhcaoeholhaaGreatDoorHbyaf
import Derived.Test.YtobdhcaoeholhaaGreatDoorHbyag
import Derived.Deep.CutBlock
import Derived.Test.YtobdhcaoeholhaaGreatDoorHbyad
set_option linter.unusedVariables false
set_option linter.unusedSimpArgs false
/- The project's writer: Term, Plain. -/
namespace Go.Proofs.YtobdhcaoeholhaaGreatDoor
open Go.Shelf Go.RowKit
set_option linter.unusedVariables false
set_option maxRecDepth 100000

theorem whide_one {w : World} {b : Nat} (hb : w.heap.size ≤ b) {w' : World} (h : Below w.heap.size w w') : Stays w (hide (fun k => k == b) w') := by
  have := Stays.hide (D := fun _ => false) (D' := fun k => k == b) h.size (fun k hk _ => ⟨by simp; omega, h.block k hk⟩)
  rw [hide_none] at this
  exact this
/-- A new writer. -/
theorem wr_new {w w' : World} (hc : Con w) (hb : Below w.heap.size w w') {b : Nat} (hw : w.heap.size ≤ b) (hlt : b < w'.heap.size) {vo vv : Value} (hx : Box w' b [vo, vv, .slice none 0 0]) {xs : List O} {vs : List Int}
    (ho : Ops (hide (fun k => k == b) w') vo xs) (hn : Nums (hide (fun k => k == b) w') vv vs) : Wr (fun k => k == b) w' b xs vs [] where
  mb := by simp
  old := fun k hk => by simp; omega
  con := hc.ext hb
  gl := ⟨by have := hc.lt.1; simp; omega, by have := hc.lt.2; simp; omega⟩
  co := ⟨vo, hx.cells 0 _ rfl, ho⟩
  cv := ⟨vv, hx.cells 1 _ rfl, hn⟩
  c2 := ⟨.slice none 0 0, hx.cells 2 _ rfl, RowB.nil _ _, fun k hk => by cases hk⟩
  fz := hx.fz
theorem nums_off {w : World} {v : Value} {l : List Int} (h : Nums w v l) {B : Nat} {cs : Array Value} {ty : TypeId} {fr : Nat × Nat} (ho : w.heap[B]? = some (.cells cs ty fr)) (hc : ∀ u ∈ cs.toList, ∀ n, u ≠ Value.int .i64 n) : Nums (hide (fun k => k == B) w) v l := by
  obtain ⟨a, c, h1, h2, h3, h4⟩ := h
  refine ⟨a, c, h1, h2, h3, ?_⟩
  rcases h4 with h4 | ⟨b, off, e1, e2, e3⟩
  · exact Or.inl h4
  · cases l with
    | nil => exact Or.inl rfl
    | cons x r =>
      have hx := e3 0 x rfl 0 _ rfl
      have hne : b ≠ B := by
        rintro rfl
        simp only [World.cell?, ho] at hx
        have hm : Value.int .i64 x ∈ cs.toList := by
          have hq : cs[off + (0 * 1 + 0)]? = some (.int .i64 x) := by simpa using hx
          rw [← Array.getElem?_toList] at hq
          exact List.mem_of_getElem? hq
        exact hc _ hm x rfl
      exact Or.inr ⟨b, off, e1, by rw [hide_size]; exact e2, fun i y hy j u hu => by
        rw [hide_cell _ _ _ (by simpa using hne)]
        exact e3 i y hy j u hu⟩
/-- What a writing answers: a text, or how it is refused. -/
def textX (g : Bool) (t : List UInt8) : Value := .tuple (if g then #[.string ⟨(if 4096 < t.length then [] else t).toArray⟩, .int .i64 (if 4096 < t.length then 3 else 0)] else #[.string ⟨#[]⟩, .int .i64 1])
theorem textX_at {M : Nat → Bool} {w : World} {wb : Nat} {xs : List O} {vs : List Int} {out : List UInt8} (h : Wr M w wb xs vs out) (hz : out.length ≤ 1000000000) :
    Calls Tryz.prog 56 #[.pointer (some ⟨wb, 0, none⟩)] w fun e w' => e = .returned (textX true out) ∧ w = w' := text_at h hz
set_option maxHeartbeats 4000000 in
theorem wplain_at {w : World} (hc : Con w) {x : Tm} {v : Value} (hv : TmV w x v) :
    Calls Tryz.prog 27 #[v] w fun e w' => e = .returned (textX (goodT x) (PLAIN (varsT x []) x)) ∧ Below w.heap.size w w' := by
  obtain ⟨k, n, s, a, m, c, rfl⟩ := hv.full
  obtain ⟨w1, hw1, hb1, hz1, hx1⟩ := box_new w #[.int .i64 k, .int .i64 n, .string s, .slice a m c] 27
  have hv1 := TmV.ext hb1 _ _ hv
  obtain ⟨b0, b1, b2, b3, bf⟩ := hx1.four
  have HG := Good_at x w1 _ hv1
  cases hg : goodT x with
  | false =>
    rw [hg] at HG
    have HG := Lib.hid HG
    have HB1 := Lib.hid hb1
    clear hv hv1 hb1 hx1 hz1 hg hc
    go_enter Tryz.func27, Tryz.ntmps27
    go_wp2_with fail
    (try rw [hw1])
    clear hw1
    (go_wp2_with fail; go_fit (HG.out); rintro e w2 ⟨rfl, hb2⟩)
    have HB2 := Lib.hid (Ext.trans' HB1.out hb2)
    clear hb2
    go_wp2
    go_ret2
    exact ⟨rfl, HB2.out⟩
  | true =>
    rw [hg] at HG
    have HG := Lib.hid HG
    have HV := Lib.hid (fun wq (hb : Below w1.heap.size w1 wq) => Vars_at x wq _ (TmV.ext hb _ _ hv1))
    have HGG := Lib.hid hg
    have HB1 := Lib.hid hb1
    have HC := Lib.hid hc
    have HX1 := Lib.hid hx1
    have HV1 := Lib.hid hv1
    clear hv hv1 hb1 hx1 hz1 hg hc
    go_enter Tryz.func27, Tryz.ntmps27
    go_wp2_with fail
    (try rw [hw1])
    clear hw1
    (go_wp2_with fail; go_fit (HG.out); rintro e w2 ⟨rfl, hb2⟩)
    have HV2 := Lib.hid (HV.out w2 hb2)
    have HB2 := Lib.hid hb2
    obtain ⟨b0, b1, b2, b3, bf⟩ := (HX1.out.ext hb2).four
    clear hb2
    (go_wp2_with fail; go_fit (HV2.out); rintro e w3 ⟨r, rfl, hr, hb3⟩)
    rw [HGG.out, if_pos rfl] at hr
    obtain ⟨ar, cr, rfl, _⟩ := hr.len
    obtain ⟨nv, hnv⟩ : ∃ nv, (varsT x []).length = nv := ⟨_, rfl⟩
    rw [hnv] at hr
    simp only [hnv]
    obtain ⟨w4, hw4, hb4, hz4, hx4⟩ := box_new w3 #[.slice none 0 0, .slice ar nv cr, .slice none 0 0] 99
    have hb13 := Ext.trans' HB2.out hb3
    have hb14 := Ext.trans' hb13 hb4
    have hb04 := Ext.trans' HB1.out hb14
    have hsz : w.heap.size ≤ w3.heap.size := (Ext.trans' HB1.out hb13).size
    have hst := whide_one (Nat.le_refl w3.heap.size) hb4
    have hW := wr_new HC.out hb04 hsz hx4.lt hx4 (xs := []) (vs := varsT x []) ⟨none, 0, rfl, Nat.le_refl _, Nat.zero_le _, Or.inl rfl⟩ (Elems.stay hr hst)
    have hv4 := TmV.stay hst _ _ (TmV.ext hb13 _ _ HV1.out)
    have HPL := Lib.hid (plain_all (wb := w3.heap.size) (xs := []) (vs := varsT x []) (sizeN x + 1) x (by omega) HGG.out _ w4 [] _ hW hv4 (by have := plain_short2 (vs := varsT x []) HGG.out; simp; omega))
    have HB4 := Lib.hid hb04
    clear b0 b1 b2 b3 bf
    obtain ⟨c0, c1, c2, c3, cf⟩ := (HX1.out.ext hb13).four
    have hne : w.heap.size < w3.heap.size := (HX1.out.ext hb13).lt
    have HSZ := Lib.hid hsz
    have HW4 := Lib.hid hw4
    clear hw4 hb3 hb4 hb13 hb14 hb04 hr hnv hst hW hv4 hx4 hz4 hsz
    go_wp2_with fail
    (try rw [HW4.out])
    (go_wp2_with fail; go_fit (HPL.out); rintro e w5 ⟨rfl, M5, g3, g4⟩)
    have hTX := textX_at g3 (by have := plain_short2 (vs := varsT x []) HGG.out; simp; omega)
    rw [List.nil_append] at hTX
    obtain ⟨ts, te, hxx⟩ : ∃ (ts : ByteArray) (te : Int), textX true (PLAIN (varsT x []) x) = .tuple #[.string ts, .int .i64 te] := ⟨_, _, rfl⟩
    rw [hxx] at hTX
    have HXX := Lib.hid hxx
    have HTX := Lib.hid hTX
    clear hTX hxx
    have HB5 := Lib.hid (Below.trans HB4.out (g4.bel HB4.out.size (fun k hk => by have := HSZ.out; simp; omega)))
    clear g3 g4 c0 c1 c2 c3 cf hne
    (go_wp2_with fail; go_fit (HTX.out); rintro e w6 ⟨rfl, rfl⟩)
    go_wp2
    go_ret2
    exact ⟨by rw [HXX.out]; rfl, HB5.out⟩
/-- What Term answers. -/
abbrev termTx (xs : List O) (x : Tm) : Value := textX (goodB xs && goodT x) (writeT xs x)
set_option maxHeartbeats 8000000 in
theorem wterm_at {w : World} (hc : Con w) {xs : List O} {vt : Value} (ho : Ops w vt xs) {x : Tm} {v : Value} (hv : TmV w x v) :
    Calls Tryz.prog 25 #[.agg #[vt], v] w fun e w' => e = .returned (termTx xs x) ∧ Below w.heap.size w w' := by
  obtain ⟨k, n, s, a, m, c, rfl⟩ := hv.full
  obtain ⟨ao, co, rfl, hl1, hl2⟩ := ho.form
  obtain ⟨mo, hmo⟩ : ∃ m, xs.length = m := ⟨_, rfl⟩
  rw [hmo] at ho hl1
  rw [hmo]
  obtain ⟨w0, hw0, hb0, hz0, hx0⟩ := box_new w #[.slice ao mo co] 36
  obtain ⟨w1, hw1, hb1, hz1, hx1⟩ := box_new w0 #[.int .i64 k, .int .i64 n, .string s, .slice a m c] 27
  have hb01 := Ext.trans' hb0 hb1
  have hv1 := TmV.ext hb01 _ _ hv
  have ho1 := ho.ext hb01
  obtain ⟨b0, b1, b2, b3, bf⟩ := hx1.four
  have d0 : w1.cell? ⟨w.heap.size, 0, none⟩ = some (.slice ao mo co) := (hx0.ext hb1).cells 0 _ rfl
  have HO := good_walk ho1
  have HG := Good_at x w1 _ hv1
  unfold termTx
  cases hgo : goodB xs with
  | false =>
    rw [hgo] at HO
    have HO := Lib.hid HO
    have HB1 := Lib.hid hb01
    clear hv hv1 hb0 hb1 hb01 hx0 hx1 hz0 hz1 hgo hc ho ho1 hmo HG
    go_enter Tryz.func25, Tryz.ntmps25
    go_wp2_with fail
    (try rw [hw0])
    (try rw [hw1])
    clear hw0 hw1
    (go_wp2_with fail; go_fit (HO.out); rintro e w2 ⟨rfl, hb2⟩)
    have HB2 := Lib.hid (Ext.trans' HB1.out hb2)
    clear hb2
    go_wp2
    go_ret2
    exact ⟨rfl, HB2.out⟩
  | true =>
    rw [hgo] at HO
    have HO := Lib.hid HO
    cases hg : goodT x with
    | false =>
      have HG := Lib.hid (fun wq (hb : Below w1.heap.size w1 wq) => Good_at x wq _ (TmV.ext hb _ _ hv1))
      have HGG := Lib.hid hg
      have HB1 := Lib.hid hb01
      have HX1 := Lib.hid hx1
      clear hv hv1 hb0 hb1 hb01 hx0 hx1 hz0 hz1 hgo hg hc ho ho1 hmo
      go_enter Tryz.func25, Tryz.ntmps25
      go_wp2_with fail
      (try rw [hw0])
      (try rw [hw1])
      clear hw0 hw1
      (go_wp2_with fail; go_fit (HO.out); rintro e w2 ⟨rfl, hb2⟩)
      have HG2 := HG.out w2 hb2
      rw [HGG.out] at HG2
      have HG2 := Lib.hid HG2
      obtain ⟨b0, b1, b2, b3, bf⟩ := (HX1.out.ext hb2).four
      have HB2 := Lib.hid (Ext.trans' HB1.out hb2)
      clear hb2
      (go_wp2_with fail; go_fit (HG2.out); rintro e w3 ⟨rfl, hb3⟩)
      have HB3 := Lib.hid (Ext.trans' HB2.out hb3)
      clear hb3
      go_wp2
      go_ret2
      exact ⟨rfl, HB3.out⟩
    | true =>
      have HG := Lib.hid (fun wq (hb : Below w1.heap.size w1 wq) => Good_at x wq _ (TmV.ext hb _ _ hv1))
      have HVA := Lib.hid (fun wq (hb : Below w1.heap.size w1 wq) => Vars_at x wq _ (TmV.ext hb _ _ hv1))
      have HGG := Lib.hid hg
      have HB1 := Lib.hid hb01
      have HX1 := Lib.hid hx1
      have HX0 := Lib.hid (hx0.ext hb1)
      have HV1 := Lib.hid hv1
      have HO1 := Lib.hid ho1
      have HC := Lib.hid hc
      clear hv hv1 hb0 hb1 hb01 hx0 hx1 hz0 hz1 hgo hg hc ho ho1 hmo
      go_enter Tryz.func25, Tryz.ntmps25
      go_wp2_with fail
      (try rw [hw0])
      (try rw [hw1])
      clear hw0 hw1
      (go_wp2_with fail; go_fit (HO.out); rintro e w2 ⟨rfl, hb2⟩)
      have HG2 := HG.out w2 hb2
      rw [HGG.out] at HG2
      have HG2 := Lib.hid HG2
      obtain ⟨b0, b1, b2, b3, bf⟩ := (HX1.out.ext hb2).four
      have HB2 := Lib.hid hb2
      clear hb2
      (go_wp2_with fail; go_fit (HG2.out); rintro e w3 ⟨rfl, hb3⟩)
      have HB3 := Lib.hid (Ext.trans' HB2.out hb3)
      clear b0 b1 b2 b3 bf d0 hb3
      obtain ⟨b0, b1, b2, b3, bf⟩ := (HX1.out.ext HB3.out).four
      have d0 : w3.cell? ⟨w.heap.size, 0, none⟩ = some (.slice ao mo co) := (HX0.out.ext HB3.out).cells 0 _ rfl
      have HVB := Lib.hid (fun wq (hb : Below w3.heap.size w3 wq) => HVA.out wq (Ext.trans' HB3.out hb))
      have HS3 := Lib.hid (Ext.trans' HB1.out HB3.out).size
      go_wp2_with fail
      refine wp_region_held_drew (S := fun w' => (w'.cell? ⟨w.heap.size, 0, none⟩ = some (.slice ao mo co) ∧ w'.cell? ⟨w0.heap.size, 0, none⟩ = some (.int .i64 k) ∧ w'.cell? ⟨w0.heap.size, 1, none⟩ = some (.int .i64 n) ∧ w'.cell? ⟨w0.heap.size, 2, none⟩ = some (.string s) ∧ w'.cell? ⟨w0.heap.size, 3, none⟩ = some (.slice a m c)) ∧ Below w3.heap.size w3 w') (by kernel_rfl) ⟨⟨d0, b0, b1, b2, b3⟩, (Below.refl _ _).drew⟩ (fun hHeld => ?_)
      have hm0 : w.heap.size ≠ w3.heap.size := by have := (HX0.out.ext HB3.out).lt; omega
      have hm1 : w0.heap.size ≠ w3.heap.size := by have := (HX1.out.ext HB3.out).lt; omega
      first | (refine held_t (i := 0) hHeld ?_; apply Exists.intro; refine ⟨fun wq hq => ?_, ?_⟩; (focus ((try dsimp only at hq); go_simp; (first | done | with_reducible rfl | fail)))) | refine held_s (i := 0) hHeld ?_ | fail
      first | (refine held_t (i := 1) hHeld ?_; apply Exists.intro; refine ⟨fun wq hq => ?_, ?_⟩; (focus ((try dsimp only at hq); go_simp; (first | done | with_reducible rfl | fail)))) | refine held_s (i := 1) hHeld ?_ | fail
      try simp only [Act.put, List.setIfInBounds_toArray, List.set_cons_zero, List.set_cons_succ]
      refine wpAnyH_ready (rs := [2, 4]) (by kernel_rfl) (by simp) ?_
      refine AllReadyH.cons (by simp only [List.getElem?_toArray, List.getElem?_cons_zero, List.getElem?_cons_succ]; rfl) (fun K hK => ?_) (AllReadyH.cons (by simp only [List.getElem?_toArray, List.getElem?_cons_zero, List.getElem?_cons_succ]; rfl) (fun K hK => ?_) AllReadyH.nil)
      · go_simp
        (go_at_call 21; refine (HVB.out _ hHeld.2).mono ?_; rintro e w4 ⟨r, rfl, hr, hb4⟩)
        refine hK.out _ _ (⟨⟨cell_later hb4 hHeld.1.1, cell_later hb4 hHeld.1.2.1, cell_later hb4 hHeld.1.2.2.1, cell_later hb4 hHeld.1.2.2.2.1, cell_later hb4 hHeld.1.2.2.2.2⟩, Ext.trans' hHeld.2 hb4⟩) (fun hHeld => ?_)
        clear hK K
        try simp only [Act.put, List.setIfInBounds_toArray, List.set_cons_zero, List.set_cons_succ]
        rw [HGG.out, if_pos rfl] at hr
        obtain ⟨ar, cr, rfl, _⟩ := hr.len
        obtain ⟨nv, hNV⟩ : ∃ nv, (varsT x []).length = nv := ⟨_, rfl⟩
        rw [hNV] at hr
        simp only [hNV]
        have hS4 := hHeld
        first | (refine held_t (i := 3) hHeld ?_; apply Exists.intro; refine ⟨fun wq hq => ?_, ?_⟩; (focus ((try dsimp only at hq); go_simp; (first | done | with_reducible rfl | fail)))) | refine held_s (i := 3) hHeld ?_ | fail
        try simp only [Act.put, List.setIfInBounds_toArray, List.set_cons_zero, List.set_cons_succ]
        refine held_c 4 fun K hK => ?_
        go_simp
        skip
        refine hK.out _ _ (⟨⟨cell_later (bel1' _ _) hHeld.1.1, cell_later (bel1' _ _) hHeld.1.2.1, cell_later (bel1' _ _) hHeld.1.2.2.1, cell_later (bel1' _ _) hHeld.1.2.2.2.1, cell_later (bel1' _ _) hHeld.1.2.2.2.2⟩, Ext.trans' hHeld.2 (bel1' _ _)⟩) (fun hHeld => ?_)
        clear hK K
        try simp only [Act.put, List.setIfInBounds_toArray, List.set_cons_zero, List.set_cons_succ]
        refine held_c 5 fun K hK => ?_
        go_simp
        skip
        refine hK.out _ _ (⟨⟨cell_later (bel1' _ _) hS4.1.1, cell_later (bel1' _ _) hS4.1.2.1, cell_later (bel1' _ _) hS4.1.2.2.1, cell_later (bel1' _ _) hS4.1.2.2.2.1, cell_later (bel1' _ _) hS4.1.2.2.2.2⟩, Ext.trans' hS4.2 (bel1' _ _)⟩) (fun hHeld => ?_)
        clear hK K
        try simp only [Act.put, List.setIfInBounds_toArray, List.set_cons_zero, List.set_cons_succ]
        refine wpAnyH_done (by kernel_rfl) ?_ _
        obtain ⟨w9, hw9, hb9, hz9, hx9⟩ := box_new w4 #[.slice ao mo co, .slice ar nv cr, .slice none 0 0] 99
        have hst := whide_one (Nat.le_refl w4.heap.size) hb9
        have HBX := Lib.hid hx9
        have hb34 := hS4.2
        have hb19 := Ext.trans' (Ext.trans' HB3.out hb34) hb9
        have HB9 := Lib.hid (Ext.trans' HB1.out hb19)
        have HSZ := Lib.hid (show w.heap.size ≤ w4.heap.size from Nat.le_trans HS3.out hb34.size)
        have HOH := Lib.hid (Elems.stay (HO1.out.ext (Ext.trans' HB3.out hb34)) hst)
        have HNH := Lib.hid (Elems.stay hr hst)
        have HVH := Lib.hid (TmV.stay hst _ _ (TmV.ext (Ext.trans' HB3.out hb34) _ _ HV1.out))
        have HX9 := Lib.hid (HX1.out.ext hb19)
        clear hr hb4 hS4 hHeld hst hb34 hb19 hb9 hx9 hz9 b0 b1 b2 b3 bf d0
        (try rw [hw9])
        obtain ⟨b0, b1, b2, b3, bf⟩ := HX9.out.four
        generalize w4.heap.size = BB at *
        clear hw9
        have hnv : (varsT x []).length = nv := hNV
        have hwl : (placeT xs (varsT x []) 1200 x).length ≤ 1000000 := write_len HGG.out
        have HWL := Lib.hid hwl
        have hW := wr_new HC.out HB9.out HSZ.out HBX.out.lt HBX.out (xs := xs) (vs := varsT x []) HOH.out HNH.out
        have HPL := Lib.hid (place_at (wb := BB) (xs := xs) (vs := varsT x []) (bare_all (sizeN x + 1)) (by omega) HGG.out hW HVH.out 1200 (by simp only [List.length_nil]; omega))
        have HNE := Lib.hid HSZ.out
        clear hW hnv hNV hwl
        go_wp2_with fail
        (go_wp2_with fail; go_fit (HPL.out); rintro e w11 ⟨rfl, M5, g3, g4⟩)
        have hTX := textX_at g3 (by have := HWL.out; simp only [List.nil_append]; omega)
        rw [List.nil_append] at hTX
        obtain ⟨ts, te, hxx⟩ : ∃ (ts : ByteArray) (te : Int), textX true (writeT xs x) = .tuple #[.string ts, .int .i64 te] := ⟨_, _, rfl⟩
        rw [show placeT xs (varsT x []) 1200 x = writeT xs x from rfl, hxx] at hTX
        have HXX := Lib.hid hxx
        have HTX := Lib.hid hTX
        have HB11 := Lib.hid (Below.trans HB9.out (g4.bel HB9.out.size (fun k hk => by have := HNE.out; simp; omega)))
        clear g3 g4 hTX hxx b0 b1 b2 b3
        (go_wp2_with fail; go_fit (HTX.out); rintro e w12 ⟨rfl, rfl⟩)
        go_wp2
        go_ret2
        exact ⟨by rw [show textX (true && true) (writeT xs x) = textX true (writeT xs x) from rfl, HXX.out]; rfl, HB11.out⟩
      · go_simp
        skip
        refine hK.out _ _ (⟨⟨cell_later (bel1' _ _) hHeld.1.1, cell_later (bel1' _ _) hHeld.1.2.1, cell_later (bel1' _ _) hHeld.1.2.2.1, cell_later (bel1' _ _) hHeld.1.2.2.2.1, cell_later (bel1' _ _) hHeld.1.2.2.2.2⟩, Ext.trans' hHeld.2 (bel1' _ _)⟩) (fun hHeld => ?_)
        clear hK K
        try simp only [Act.put, List.setIfInBounds_toArray, List.set_cons_zero, List.set_cons_succ]
        refine held_c 2 fun K hK => ?_
        go_simp
        (go_at_call 21; refine (HVB.out _ hHeld.2).mono ?_; rintro e w7 ⟨r, rfl, hr, hb7⟩; rw [HGG.out, if_pos rfl] at hr; obtain ⟨ar, cr, rfl, _⟩ := hr.len; obtain ⟨nv, hNV⟩ : ∃ nv, (varsT x []).length = nv := ⟨_, rfl⟩; rw [hNV] at hr; simp only [hNV]; have hob : w7.heap[w3.heap.size]? = some (.cells #[.slice none 0 0, .slice none 0 0, .slice none 0 0] 99) := (hb7.block w3.heap.size (by simp)).trans (show (World.alloc w3 (.cells #[.slice none 0 0, .slice none 0 0, .slice none 0 0] 99)).heap[w3.heap.size]? = _ from heap_alloc_new _ _); have hbx : Box w7 w3.heap.size [.slice none 0 0, .slice none 0 0, .slice none 0 0] := wbox_ext_new w3.drew _ _ hb7; obtain ⟨e0, e1, e2, ef⟩ := hbx.three; have hb37 : Below w3.heap.size w3 w7 := Ext.trans' hHeld.2 hb7)
        refine hK.out _ _ (⟨⟨cell_later hb7 hHeld.1.1, cell_later hb7 hHeld.1.2.1, cell_later hb7 hHeld.1.2.2.1, cell_later hb7 hHeld.1.2.2.2.1, cell_later hb7 hHeld.1.2.2.2.2⟩, Ext.trans' hHeld.2 hb7⟩) (fun hHeld => ?_)
        clear hK K
        try simp only [Act.put, List.setIfInBounds_toArray, List.set_cons_zero, List.set_cons_succ]
        first | (refine held_t (i := 3) hHeld ?_; apply Exists.intro; refine ⟨fun wq hq => ?_, ?_⟩; (focus ((try dsimp only at hq); go_simp; (first | done | with_reducible rfl | fail)))) | refine held_s (i := 3) hHeld ?_ | fail
        try simp only [Act.put, List.setIfInBounds_toArray, List.set_cons_zero, List.set_cons_succ]
        refine held_c 5 fun K hK => ?_
        go_simp
        skip
        refine hK.out _ _ (⟨⟨far3 hHeld.1.1 hm0 _ _ _, far3 hHeld.1.2.1 hm1 _ _ _, far3 hHeld.1.2.2.1 hm1 _ _ _, far3 hHeld.1.2.2.2.1 hm1 _ _ _, far3 hHeld.1.2.2.2.2 hm1 _ _ _⟩, Below.set3 hHeld.2 (Nat.le_refl _) _ _ _⟩) (fun hHeld => ?_)
        clear hK K
        try simp only [Act.put, List.setIfInBounds_toArray, List.set_cons_zero, List.set_cons_succ]
        refine wpAnyH_done (by kernel_rfl) ?_ _
        have HBX := Lib.hid (show Box (((w7.setCell ⟨w3.heap.size, 0, none⟩ (.slice ao mo co)).setCell ⟨w3.heap.size, 1, none⟩ (.slice ar nv cr)).setCell ⟨w3.heap.size, 2, none⟩ (.slice none 0 0)) w3.heap.size [.slice ao mo co, .slice ar nv cr, .slice none 0 0] from wbox_all3 hbx (.slice ao mo co) (.slice ar nv cr) (.slice none 0 0))
        have hB3U : Below w3.heap.size w3 (((w7.setCell ⟨w3.heap.size, 0, none⟩ (.slice ao mo co)).setCell ⟨w3.heap.size, 1, none⟩ (.slice ar nv cr)).setCell ⟨w3.heap.size, 2, none⟩ (.slice none 0 0)) := Below.set3 hb37 (Nat.le_refl _) _ _ _
        have hst : Stays w3 (hide (fun k => k == w3.heap.size) (((w7.setCell ⟨w3.heap.size, 0, none⟩ (.slice ao mo co)).setCell ⟨w3.heap.size, 1, none⟩ (.slice ar nv cr)).setCell ⟨w3.heap.size, 2, none⟩ (.slice none 0 0))) := whide_one (Nat.le_refl w3.heap.size) hB3U
        have HB9 := Lib.hid (Ext.trans' HB1.out (Ext.trans' HB3.out hB3U))
        have HSZ := Lib.hid HS3.out
        have HOH := Lib.hid (Elems.stay (HO1.out.ext HB3.out) hst)
        have HNH := Lib.hid (show Nums (hide (fun k => k == w3.heap.size) (((w7.setCell ⟨w3.heap.size, 0, none⟩ (.slice ao mo co)).setCell ⟨w3.heap.size, 1, none⟩ (.slice ar nv cr)).setCell ⟨w3.heap.size, 2, none⟩ (.slice none 0 0))) (.slice ar nv cr) (varsT x []) from Elems.stay (nums_off hr hob (fun u hu n => by simp at hu; subst hu; simp)) ((Stays.set ⟨w3.heap.size, 0, none⟩ _ (by simp)).trans ((Stays.set ⟨w3.heap.size, 1, none⟩ _ (by simp)).trans (Stays.set ⟨w3.heap.size, 2, none⟩ _ (by simp)))))
        have HVH := Lib.hid (TmV.stay hst _ _ (TmV.ext HB3.out _ _ HV1.out))
        have HX9 := Lib.hid ((HX1.out.ext HB3.out).ext hB3U)
        clear hHeld hb7 hbx e0 e1 e2 ef hst hB3U hr hob hb37 b0 b1 b2 b3 bf d0
        generalize (((w7.setCell ⟨w3.heap.size, 0, none⟩ (.slice ao mo co)).setCell ⟨w3.heap.size, 1, none⟩ (.slice ar nv cr)).setCell ⟨w3.heap.size, 2, none⟩ (.slice none 0 0)) = w9 at *
        obtain ⟨b0, b1, b2, b3, bf⟩ := HX9.out.four
        generalize hBB : w3.heap.size = BB at HBX HSZ HOH HNH HVH ⊢
        have hnv : (varsT x []).length = nv := hNV
        have hwl : (placeT xs (varsT x []) 1200 x).length ≤ 1000000 := write_len HGG.out
        have HWL := Lib.hid hwl
        have hW := wr_new HC.out HB9.out HSZ.out HBX.out.lt HBX.out (xs := xs) (vs := varsT x []) HOH.out HNH.out
        have HPL := Lib.hid (place_at (wb := BB) (xs := xs) (vs := varsT x []) (bare_all (sizeN x + 1)) (by omega) HGG.out hW HVH.out 1200 (by simp only [List.length_nil]; omega))
        have HNE := Lib.hid HSZ.out
        clear hW hnv hNV hwl
        go_wp2_with fail
        (go_wp2_with fail; go_fit (HPL.out); rintro e w11 ⟨rfl, M5, g3, g4⟩)
        have hTX := textX_at g3 (by have := HWL.out; simp only [List.nil_append]; omega)
        rw [List.nil_append] at hTX
        obtain ⟨ts, te, hxx⟩ : ∃ (ts : ByteArray) (te : Int), textX true (writeT xs x) = .tuple #[.string ts, .int .i64 te] := ⟨_, _, rfl⟩
        rw [show placeT xs (varsT x []) 1200 x = writeT xs x from rfl, hxx] at hTX
        have HXX := Lib.hid hxx
        have HTX := Lib.hid hTX
        have HB11 := Lib.hid (Below.trans HB9.out (g4.bel HB9.out.size (fun k hk => by have := HNE.out; simp; omega)))
        clear g3 g4 hTX hxx b0 b1 b2 b3
        (go_wp2_with fail; go_fit (HTX.out); rintro e w12 ⟨rfl, rfl⟩)
        go_wp2
        go_ret2
        exact ⟨by rw [show textX (true && true) (writeT xs x) = textX true (writeT xs x) from rfl, HXX.out]; rfl, HB11.out⟩
end Go.Proofs.YtobdhcaoeholhaaGreatDoor
/- A row of terms that is laid anew. Nothing here speaks of one program but for the types. -/
namespace Go.Proofs.YtobdhcaoeholhaaGreatDoor
open Go.RowKit
set_option linter.unusedVariables false

theorem laidT_tms {w : World} {cs : Array Value} {ty : TypeId} (ps : List TmP) (hcs : cs.toList = ps.flatMap pCells) (hp : ∀ p ∈ ps, TmV (w.alloc (.cells cs ty)) p.1 (pVal p)) (hl : ps.length * 56 ≤ BIG) {n : Nat} (hn : ps.length = n) {ts : List Tm} (ht : ps.map (·.1) = ts) :
    Tms (w.alloc (.cells cs ty)) (.slice (some ⟨w.heap.size, 0, none⟩) n n) ts := by
  subst hn ht
  refine ⟨some ⟨w.heap.size, 0, none⟩, ps.length, by rw [List.length_map], by rw [List.length_map]; exact Nat.le_refl _, by unfold BIG at hl; unfold maxLen; omega, by rw [List.length_map]; exact hl, Or.inr ⟨_, _, rfl, by simp, TmRow.mk fun i x hx => ?_⟩⟩
  rw [List.getElem?_map] at hx
  obtain ⟨p, hpi, rfl⟩ := Option.map_eq_some_iff.1 hx
  have hv := hp p (List.mem_of_getElem? hpi)
  have key : ∀ j u, j < 4 → (pCells p)[j]? = some u → (w.alloc (.cells cs ty)).cell? ⟨w.heap.size, 0 + i * 4 + j, none⟩ = some u := fun j u hj hu => by
    have := cell_new w cs ty (i * 4 + j) u (by rw [hcs, flat_get pCells_len ps i p hpi j hj]; exact hu)
    rw [add_plain] at this
    rw [Nat.add_assoc]; exact this
  exact ⟨_, _, _, _, key 0 _ (by omega) rfl, key 1 _ (by omega) rfl, key 2 _ (by omega) rfl, key 3 _ (by omega) rfl, hv⟩
/-- Two terms beside each other. -/
theorem laid_two {w : World} {k1 n1 k2 n2 : Int} {s1 s2 : ByteArray} {u1 u2 : Value} {x y : Tm} {ty : TypeId} (h1 : TmV w x (.agg #[.int .i64 k1, .int .i64 n1, .string s1, u1])) (h2 : TmV w y (.agg #[.int .i64 k2, .int .i64 n2, .string s2, u2])) :
    Tms (w.alloc (.cells #[.int .i64 k1, .int .i64 n1, .string s1, u1, .int .i64 k2, .int .i64 n2, .string s2, u2] ty)) (.slice (some ⟨w.heap.size, 0, none⟩) 2 2) [x, y] := by
  obtain ⟨v1, e1⟩ := h1.pair
  obtain ⟨v2, e2⟩ := h2.pair
  unfold pVal at e1 e2
  simp only [Value.agg.injEq, Array.mk.injEq, List.cons.injEq, Value.int.injEq, Value.string.injEq, and_true, true_and] at e1 e2
  obtain ⟨rfl, rfl, rfl, rfl⟩ := e1
  obtain ⟨rfl, rfl, rfl, rfl⟩ := e2
  have hb := bel1' w (.cells #[.int .i64 x.k, .int .i64 x.n, .string x.s, u1, .int .i64 y.k, .int .i64 y.n, .string y.s, u2] ty)
  refine laidT_tms [(x, u1), (y, u2)] rfl (fun p hp => ?_) (by unfold BIG; simp) rfl rfl
  rcases List.mem_cons.1 hp with rfl | hp
  · exact TmV.ext hb _ _ h1
  · rcases List.mem_cons.1 hp with rfl | hp
    · exact TmV.ext hb _ _ h2
    · cases hp
end Go.Proofs.YtobdhcaoeholhaaGreatDoor
/- The laws of writing: awake. -/
namespace Go.Proofs.YtobdhcaoeholhaaGreatDoor
open Go.Shelf Go.RowKit
set_option linter.unusedVariables false
set_option maxRecDepth 100000

def aw9S : Tm := .mk 2 0 ⟨#[43]⟩ [.mk 2 0 ⟨#[97]⟩ [], .mk 2 0 ⟨#[42]⟩ [.mk 2 0 ⟨#[98]⟩ [], .mk 2 0 ⟨#[99]⟩ []]]
def aw9F : Tm := .mk 2 0 ⟨#[102]⟩ [.mk 0 7 ⟨#[]⟩ [], .mk 1 (-1) ⟨#[]⟩ []]
theorem aw9_text : termTx opsB aw9S = .tuple #[.string ⟨#[97, 32, 43, 32, 98, 32, 42, 32, 99]⟩, .int .i64 0] := by kernel_rfl
theorem aw9_plain : textX (goodT aw9F) (PLAIN (varsT aw9F []) aw9F) = .tuple #[.string ⟨#[102, 40, 95, 48, 44, 45, 49, 41]⟩, .int .i64 0] := by kernel_rfl
theorem i64_m1 : I64 (-1) := by unfold I64; omega
theorem i64_7 : I64 7 := by unfold I64; omega
set_option maxHeartbeats 4000000 in
theorem awake9_at {w : World} (hc : Con w) : Calls Tryz.prog 24 #[] w fun e w' => e = .returned (.bool true) ∧ Below w.heap.size w w' := by
  have HC := Lib.hid hc
  have HPl := Lib.hid (plain_walk w)
  clear hc
  go_enter Tryz.func24, Tryz.ntmps24
  (go_wp2_with fail; go_fit (HPl.out); rintro e w1 ⟨v, rfl, ho, hb1⟩)
  have HO1 := Lib.hid ho
  have HB1 := Lib.hid hb1
  clear ho hb1
  (go_wp2_with fail; go_fit (atom_at _ ⟨#[97]⟩); rintro e w2 ⟨rfl, hb2⟩)
  (go_wp2_with fail; go_fit (atom_at _ ⟨#[98]⟩); rintro e w3 ⟨rfl, hb3⟩)
  (go_wp2_with fail; go_fit (atom_at _ ⟨#[99]⟩); rintro e w4 ⟨rfl, hb4⟩)
  have hbT : ∀ s : ByteArray, s.size ≤ 1000 → TmV w4 (.mk 2 0 s []) (.agg #[.int .i64 2, .int .i64 0, .string s, .slice none 0 0]) := fun s hs => leaf_tm w4 i64_2 i64_0 (by unfold BIG; omega)
  have HT5 := Lib.hid (laid_two (ty := 27) (hbT ⟨#[98]⟩ (by decide)) (hbT ⟨#[99]⟩ (by decide)))
  have HB4 := Lib.hid (Ext.trans' hb2 (Ext.trans' hb3 hb4))
  have HC5 := Lib.hid (comp_at ⟨#[42]⟩ (by decide) HT5.out)
  clear hb2 hb3 hb4 hbT
  (go_wp2_with fail; go_fit (HC5.out); rintro e w5 ⟨a5, c5, rfl, htv, hb5⟩)
  have HV5 := Lib.hid htv
  have hl5 : ([.mk 2 0 ⟨#[98]⟩ [], .mk 2 0 ⟨#[99]⟩ []] : List Tm).length = 2 := rfl
  have HT6 := Lib.hid (laid_two (ty := 27) (leaf_tm w5 (s := ⟨#[97]⟩) i64_2 i64_0 (by decide)) HV5.out)
  have HC6 := Lib.hid (comp_at ⟨#[43]⟩ (by decide) HT6.out)
  have HB5 := Lib.hid (Ext.trans' HB4.out (Ext.trans' (bel1' _ _) hb5))
  clear htv hb5
  (go_wp2_with fail; go_fit (HC6.out); rintro e w6 ⟨a6, c6, rfl, htv, hb6⟩)
  have HB6 := Lib.hid (Ext.trans' HB5.out (Ext.trans' (bel1' _ _) hb6))
  have hWT := wterm_at (HC.out.ext (Ext.trans' HB1.out HB6.out)) (HO1.out.ext HB6.out) htv
  rw [show termTx opsB (Tm.mk 2 0 ⟨#[43]⟩ [.mk 2 0 ⟨#[97]⟩ [], .mk 2 0 ⟨#[42]⟩ [.mk 2 0 ⟨#[98]⟩ [], .mk 2 0 ⟨#[99]⟩ []]]) = _ from aw9_text] at hWT
  have HWT := Lib.hid hWT
  clear htv hb6 hWT
  (go_wp2_with fail; go_fit (HWT.out); rintro e w7 ⟨rfl, hb7⟩)
  have HB7 := Lib.hid (Ext.trans' HB1.out (Ext.trans' HB6.out hb7))
  clear hb7
  (go_wp2_with fail; go_fit (var_at _ 7); rintro e w8 ⟨rfl, hb8⟩)
  (go_wp2_with fail; go_fit (int_at _ (-1)); rintro e w9 ⟨rfl, hb9⟩)
  have HT9 := Lib.hid (laid_two (ty := 27) (leaf_tm w9 (k := 0) (n := 7) (s := ⟨#[]⟩) i64_0 i64_7 (by decide)) (leaf_tm w9 (k := 1) (n := -1) (s := ⟨#[]⟩) i64_1 i64_m1 (by decide)))
  have HC9 := Lib.hid (comp_at ⟨#[102]⟩ (by decide) HT9.out)
  have HB9 := Lib.hid (Ext.trans' HB7.out (Ext.trans' hb8 hb9))
  clear hb8 hb9
  (go_wp2_with fail; go_fit (HC9.out); rintro e w10 ⟨a10, c10, rfl, htv, hb10⟩)
  have HB10 := Lib.hid (Ext.trans' HB9.out (Ext.trans' (bel1' _ _) hb10))
  have hWP := wplain_at (HC.out.ext HB10.out) htv
  rw [show textX (goodT (Tm.mk 2 0 ⟨#[102]⟩ [.mk 0 7 ⟨#[]⟩ [], .mk 1 (-1) ⟨#[]⟩ []])) (PLAIN (varsT (Tm.mk 2 0 ⟨#[102]⟩ [.mk 0 7 ⟨#[]⟩ [], .mk 1 (-1) ⟨#[]⟩ []]) []) (Tm.mk 2 0 ⟨#[102]⟩ [.mk 0 7 ⟨#[]⟩ [], .mk 1 (-1) ⟨#[]⟩ []])) = _ from aw9_plain] at hWP
  have HWP := Lib.hid hWP
  clear htv hb10 hWP
  (go_wp2_with fail; go_fit (HWP.out); rintro e w11 ⟨rfl, hb11⟩)
  have HB11 := Lib.hid (Ext.trans' HB10.out hb11)
  clear hb11
  go_wp2
  go_ret
  exact ⟨rfl, HB11.out⟩
end Go.Proofs.YtobdhcaoeholhaaGreatDoor
/- The project's reader: Term. -/
namespace Go.Proofs.YtobdhcaoeholhaaGreatDoor
open Go.Shelf Go.RowKit
set_option linter.unusedVariables false

/-- What Term answers. -/
def TermX (w : World) (X : ReadR (Tm × List NmP)) (e : Ending) (w' : World) : Prop :=
  (match X with
    | .ok (t, names) => ∃ v vn, e = .returned (.tuple #[v, vn, .int .i64 0]) ∧ TmV w' t v ∧ Nms w' vn names
    | .bad k => e = .returned (.tuple #[.agg #[.int .i64 0, .int .i64 0, .string ⟨#[]⟩, .slice none 0 0], .slice none 0 0, .int .i64 k])) ∧ Below w.heap.size w w'
/-- What stands before whole is called. -/
theorem one_bad {xs : List O} {s : List UInt8} {l : List TokP} (hg : goodB xs = true) (hc : cutB s = .ok l) (h : wholeR (preO xs) (betO xs) l = none) : readB oneR xs s = .bad 2 := by
  unfold readB oneR; rw [hg, hc]; simp only [if_true]; rw [h]
theorem one_more {xs : List O} {s : List UInt8} {l : List TokP} {t : Tm} {s1 : RS} (hg : goodB xs = true) (hc : cutB s = .ok l) (h : wholeR (preO xs) (betO xs) l = some (t, s1)) (hr : s1.rest ≠ []) : readB oneR xs s = .bad 2 := by
  unfold readB oneR; rw [hg, hc]; simp only [if_true]; rw [h]; simp [hr]
theorem one_over {xs : List O} {s : List UInt8} {l : List TokP} {t : Tm} {s1 : RS} (hg : goodB xs = true) (hc : cutB s = .ok l) (h : wholeR (preO xs) (betO xs) l = some (t, s1)) (hr : s1.rest = []) (hb : goodT t = false) : readB oneR xs s = .bad 3 := by
  unfold readB oneR; rw [hg, hc]; simp only [if_true]; rw [h]; simp [hr, hb]
theorem one_ok {xs : List O} {s : List UInt8} {l : List TokP} {t : Tm} {s1 : RS} (hg : goodB xs = true) (hc : cutB s = .ok l) (h : wholeR (preO xs) (betO xs) l = some (t, s1)) (hr : s1.rest = []) (hb : goodT t = true) : readB oneR xs s = .ok (t, s1.names) := by
  unfold readB oneR; rw [hg, hc]; simp only [if_true]; rw [h]; simp [hr, hb]
theorem toks_len {w : World} {v : Value} {l : List TokP} (h : Toks w v l) : ∃ a c, v = .slice a l.length c := h.form
set_option maxHeartbeats 4000000 in
theorem term8_at {xs : List O} {w : World} {v : Value} (h : Ops w v xs) (s : ByteArray) (he : Err w) (hs : s.size ≤ 140737488351232) :
    Calls Tryz.prog 15 #[.agg #[v], .string s] w (TermX w (readB oneR xs (bl s))) := by
  obtain ⟨X, hX⟩ : ∃ X, readB oneR xs (bl s) = X := ⟨_, rfl⟩
  rw [hX]
  obtain ⟨ao, co, hvo, hl1, hl2⟩ := h.form
  obtain ⟨w1, hw1, hb1, hz1, hx1⟩ := box_new w #[v] 36
  obtain ⟨w2, hw2, hb2, hz2, hx2⟩ := box_new w1 #[.int .i64 0, .int .i64 0, .string ⟨#[]⟩, .slice none 0 0] 27
  have hB2 := Ext.trans' hb1 hb2
  have hE : Old (fun k => k == w1.heap.size) w2 := fun k hk => by have := hx2.lt; simp; omega
  have HBG := Lib.hid (begin_at hE (Elems.stay h (hide_one hb1.size hB2)) s (he.ext hB2) hs)
  obtain ⟨mo, hmo⟩ : ∃ m, xs.length = m := ⟨_, rfl⟩
  rw [hmo] at hvo
  subst hvo
  have c0 := (hx1.ext hb2).cells 0 _ rfl
  have HX2 := Lib.hid hx2
  have HB2 := Lib.hid hB2
  have HSB := Lib.hid hb1.size
  have HXX := Lib.hid hX
  clear h he hb1 hb2 hz1 hz2 hx1 hx2 hB2 hl1 hl2 hmo hX hs
  go_enter Tryz.func15, Tryz.ntmps15
  go_wp2_with fail
  (try rw [hw1])
  (try rw [hw2])
  clear hw1 hw2
  cases hg : goodB xs with
  | false =>
    have HB : Hid (Calls Tryz.prog 42 #[.agg #[.slice ao mo co], .string s] w2 fun e w' => e = .returned (.tuple #[.pointer none, .int .i64 1]) ∧ Below w2.heap.size w2 w') := Lib.hid (HBG.out.mono fun e w' h => by rw [hg] at h; exact h)
    have HN := Lib.hid (show X = .bad 1 by rw [← HXX.out]; unfold readB; rw [hg]; rfl)
    clear hg HBG
    (go_wp2_with fail; go_fit (HB.out); rintro e w3 ⟨rfl, hb3⟩)
    have HB3 := Lib.hid (Ext.trans' HB2.out hb3)
    obtain ⟨r0, r1, r2, r3, rf⟩ := (HX2.out.ext hb3).four
    clear hb3 c0
    go_wp2
    refine bodyPost_ret (v := .tuple #[.agg #[.int .i64 0, .int .i64 0, .string ⟨#[]⟩, .slice none 0 0], .slice none 0 0, .int .i64 1]) (by rw [results_cell3 rfl]; go_simp) rfl ?_
    rw [HN.out]
    exact ⟨rfl, Below.set4 HB3.out HSB.out _ _ _ _⟩
  | true =>
  cases hc : cutB (bl s) with
  | bad p o =>
    have HB : Hid (Calls Tryz.prog 42 #[.agg #[.slice ao mo co], .string s] w2 fun e w' => e = .returned (.tuple #[.pointer none, .int .i64 (if o then 3 else 2)]) ∧ Below w2.heap.size w2 w') := Lib.hid (HBG.out.mono fun e w' h => by rw [hg, hc] at h; exact h)
    have HN := Lib.hid (show X = .bad (if o then 3 else 2) by rw [← HXX.out]; unfold readB; rw [hg, hc]; rfl)
    clear hg hc HBG
    cases o
    all_goals
      (go_wp2_with fail; go_fit (HB.out); rintro e w3 ⟨rfl, hb3⟩)
      have HB3 := Lib.hid (Ext.trans' HB2.out hb3)
      obtain ⟨r0, r1, r2, r3, rf⟩ := (HX2.out.ext hb3).four
      clear hb3 c0
      go_wp2
    · refine bodyPost_ret (v := .tuple #[.agg #[.int .i64 0, .int .i64 0, .string ⟨#[]⟩, .slice none 0 0], .slice none 0 0, .int .i64 2]) (by rw [results_cell3 rfl]; go_simp) rfl ?_
      rw [HN.out]
      exact ⟨rfl, Below.set4 HB3.out HSB.out _ _ _ _⟩
    · refine bodyPost_ret (v := .tuple #[.agg #[.int .i64 0, .int .i64 0, .string ⟨#[]⟩, .slice none 0 0], .slice none 0 0, .int .i64 3]) (by rw [results_cell3 rfl]; go_simp) rfl ?_
      rw [HN.out]
      exact ⟨rfl, Below.set4 HB3.out HSB.out _ _ _ _⟩
  | ok l =>
    have HB : Hid (Calls Tryz.prog 42 #[.agg #[.slice ao mo co], .string s] w2 fun e w' => (∃ rb D M, w2.heap.size ≤ rb ∧ e = .returned (.tuple #[.pointer (some ⟨rb, 0, none⟩), .int .i64 0]) ∧ St D M w' rb xs ⟨l, 0, []⟩ ∧ (∀ k, k < w2.heap.size → D k = (k == w1.heap.size) ∧ M k = false)) ∧ Below w2.heap.size w2 w') := Lib.hid (HBG.out.mono fun e w' h => by rw [hg, hc] at h; exact h)
    have HGC := Lib.hid (And.intro hg hc)
    clear hg hc HBG
    (go_wp2_with fail; go_fit (HB.out); rintro e w3 ⟨⟨rb, D, M, hrb, rfl, hs3, hD⟩, hb3⟩)
    have HW := Lib.hid (whole_at hs3)
    have HX3 := Lib.hid (HX2.out.ext hb3)
    have HM0 := Lib.hid (show ∀ k, k < w2.heap.size → M k = false from fun k hk => (hD k hk).2)
    have hDB : D w1.heap.size = true := by rw [(hD _ HX2.out.lt).1]; simp
    have HB3 := Lib.hid hb3
    have HMd := Lib.hid hs3.md
    clear hs3 hb3 hD HB c0
    (go_wp2_with fail; go_fit (HW.out); rintro e w4 ⟨D4, M4, t4, v4, ok, rfl, htv, ht4, ho4, hok4, hsm4⟩)
    obtain ⟨k4, n4, s4, a4, m4, c4, rfl⟩ := htv.full
    obtain ⟨w5, hw5, hb5, hz5, hx5⟩ := box_new w4 #[.int .i64 k4, .int .i64 n4, .string s4, .slice a4 m4 c4] 27
    have HB24 := Lib.hid (Below.trans HB3.out (ht4.bel HB3.out.size HM0.out))
    have HB25 := Lib.hid (Ext.trans' HB24.out hb5)
    have HB5 := Lib.hid hb5
    have HX5 := Lib.hid (HX2.out.ext HB25.out)
    have HV4 := Lib.hid htv.bare
    have HVH := Lib.hid htv
    have HDB := Lib.hid ((ht4.dd _ HX3.out.lt).trans hDB)
    have HSM := Lib.hid hsm4
    have HOK := Lib.hid hok4
    have HXN := Lib.hid hx5
    obtain ⟨x0, x1, x2, x3, xf⟩ := hx5.four
    obtain ⟨r0, r1, r2, r3, rf⟩ := HX5.out.four
    have hneB : w4.heap.size ≠ w1.heap.size := by have := HX2.out.lt; have := HB24.out.size; omega
    have hrbB : rb ≠ w1.heap.size := by have := HX2.out.lt; omega
    clear htv ht4 ho4 hok4 hsm4 hb5 hz5 hx5 HW hDB
    cases hW : wholeR (preO xs) (betO xs) l with
    | none =>
      obtain rfl : ok = false := by rw [HOK.out, hW]; rfl
      have HN := Lib.hid (show X = .bad 2 from HXX.out.symm.trans (one_bad HGC.out.1 HGC.out.2 hW))
      clear hW
      go_wp2_with fail
      (try rw [hw5])
      clear hw5
      go_wp2
      refine bodyPost_ret (v := .tuple #[.agg #[.int .i64 0, .int .i64 0, .string ⟨#[]⟩, .slice none 0 0], .slice none 0 0, .int .i64 2]) (by rw [results_cell3 rfl]; go_simp) rfl ?_
      rw [HN.out]
      exact ⟨rfl, Below.set4 (Ext.trans' HB2.out HB25.out) HSB.out _ _ _ _⟩
    | some q =>
      obtain ⟨tq, s1⟩ := q
      obtain rfl : ok = true := by rw [HOK.out, hW]; rfl
      obtain ⟨rfl, hs4⟩ := HSM.out _ _ hW
      have hs5 := hs4.later HB5.out
      obtain ⟨_, vl, vn, _, p1, _, p3, pf, _, pl, pn, pm⟩ := hs5.parts
      obtain ⟨al, cl, rfl⟩ := toks_len pl
      obtain ⟨nl, hnl⟩ : ∃ n, s1.rest.length = n := ⟨_, rfl⟩
      rw [hnl] at p1
      have HNL := Lib.hid hnl
      have HPN := Lib.hid pn
      have HPM := Lib.hid pm
      have HW := Lib.hid hW
      have hM4B : ∀ k, vn.ownBlock = some k → k ≠ w1.heap.size := fun k hk e => by
        have h1 := (row_in pn hk).1
        have := HX2.out.lt
        omega
      have HMB := Lib.hid hM4B
      have HGD := Lib.hid (fun wq (hq : Below w5.heap.size w5 wq) => Good_at t4 wq _ (TmV.ext (Ext.trans' HB5.out hq) _ _ HV4.out))
      clear hW hs4 hs5 pl pn pm hnl hM4B
      by_cases hn : nl = 0
      · subst hn
        have HR := Lib.hid (show s1.rest = [] from List.length_eq_zero_iff.1 HNL.out)
        cases hgt : goodT t4 with
        | false =>
          have HN := Lib.hid (show X = .bad 3 from HXX.out.symm.trans (one_over HGC.out.1 HGC.out.2 HW.out HR.out hgt))
          rw [hgt] at HGD
          clear hgt
          go_wp2_with fail
          (try rw [hw5])
          clear hw5
          (go_wp2_with fail; go_fit (HGD.out _ (Below.refl _ _)); rintro e w6 ⟨rfl, hb6⟩)
          obtain ⟨r0, r1, r2, r3, rf⟩ := (HX5.out.ext hb6).four
          have HB6 := Lib.hid (Ext.trans' HB25.out hb6)
          clear hb6
          go_wp2
          refine bodyPost_ret (v := .tuple #[.agg #[.int .i64 0, .int .i64 0, .string ⟨#[]⟩, .slice none 0 0], .slice none 0 0, .int .i64 3]) (by rw [results_cell3 rfl]; go_simp) rfl ?_
          rw [HN.out]
          exact ⟨rfl, Below.set4 (Ext.trans' HB2.out HB6.out) HSB.out _ _ _ _⟩
        | true =>
          have HN := Lib.hid (show X = .ok (t4, s1.names) from HXX.out.symm.trans (one_ok HGC.out.1 HGC.out.2 HW.out HR.out hgt))
          rw [hgt] at HGD
          clear hgt
          go_wp2_with fail
          (try rw [hw5])
          clear hw5
          (go_wp2_with fail; go_fit (HGD.out _ (Below.refl _ _)); rintro e w6 ⟨rfl, hb6⟩)
          obtain ⟨r0, r1, r2, r3, rf⟩ := (HX5.out.ext hb6).four
          obtain ⟨x0, x1, x2, x3, xf⟩ := (HXN.out.ext hb6).four
          have p3 := cell_later hb6 p3
          have HB6 := Lib.hid hb6
          clear hb6 p1 pf
          go_wp2_with fail
          refine wp_region_held_drew (S := fun w' => w'.cell? ⟨w4.heap.size, 0, none⟩ = some (.int .i64 k4) ∧ w'.cell? ⟨w4.heap.size, 1, none⟩ = some (.int .i64 n4) ∧ w'.cell? ⟨w4.heap.size, 2, none⟩ = some (.string s4) ∧ w'.cell? ⟨w4.heap.size, 3, none⟩ = some (.slice a4 m4 c4) ∧ w'.cell? ⟨rb, 3, none⟩ = some vn) (by kernel_rfl) ⟨x0, x1, x2, x3, p3⟩ (fun hHeld => ?_)
          first | (refine held_t (i := 0) hHeld ?_; apply Exists.intro; refine ⟨fun wq hq => ?_, ?_⟩; (focus ((try dsimp only at hq); go_simp; (first | done | with_reducible rfl | fail)))) | refine held_s (i := 0) hHeld ?_ | fail
          first | (refine held_t (i := 1) hHeld ?_; apply Exists.intro; refine ⟨fun wq hq => ?_, ?_⟩; (focus ((try dsimp only at hq); go_simp; (first | done | with_reducible rfl | fail)))) | refine held_s (i := 1) hHeld ?_ | fail
          first | (refine held_t (i := 2) hHeld ?_; apply Exists.intro; refine ⟨fun wq hq => ?_, ?_⟩; (focus ((try dsimp only at hq); go_simp; (first | done | with_reducible rfl | fail)))) | refine held_s (i := 2) hHeld ?_ | fail
          first | (refine held_t (i := 3) hHeld ?_; apply Exists.intro; refine ⟨fun wq hq => ?_, ?_⟩; (focus ((try dsimp only at hq); go_simp; (first | done | with_reducible rfl | fail)))) | refine held_s (i := 3) hHeld ?_ | fail
          first | (refine held_t (i := 4) hHeld ?_; apply Exists.intro; refine ⟨fun wq hq => ?_, ?_⟩; (focus ((try dsimp only at hq); go_simp; (first | done | with_reducible rfl | fail)))) | refine held_s (i := 4) hHeld ?_ | fail
          try simp only [Act.put, List.setIfInBounds_toArray, List.set_cons_zero, List.set_cons_succ]
          refine held_c 5 fun K hK => ?_
          go_simp
          skip
          refine hK.out _ _ (⟨far4 hHeld.1 hneB _ _ _ _, far4 hHeld.2.1 hneB _ _ _ _, far4 hHeld.2.2.1 hneB _ _ _ _, far4 hHeld.2.2.2.1 hneB _ _ _ _, far4 hHeld.2.2.2.2 hrbB _ _ _ _⟩) (fun hHeld => ?_)
          clear hK K
          try simp only [Act.put, List.setIfInBounds_toArray, List.set_cons_zero, List.set_cons_succ]
          first | (refine held_t (i := 6) hHeld ?_; apply Exists.intro; refine ⟨fun wq hq => ?_, ?_⟩; (focus ((try dsimp only at hq); go_simp; (first | done | with_reducible rfl | fail)))) | refine held_s (i := 6) hHeld ?_ | fail
          first | (refine held_t (i := 7) hHeld ?_; apply Exists.intro; refine ⟨fun wq hq => ?_, ?_⟩; (focus ((try dsimp only at hq); go_simp; (first | done | with_reducible rfl | fail)))) | refine held_s (i := 7) hHeld ?_ | fail
          try simp only [Act.put, List.setIfInBounds_toArray, List.set_cons_zero, List.set_cons_succ]
          refine wpAnyH_done (by kernel_rfl) ?_ _
          go_wp2
          refine bodyPost_ret (v := .tuple #[.agg #[.int .i64 k4, .int .i64 n4, .string s4, .slice a4 m4 c4], vn, .int .i64 0]) (by rw [results_cell3 rfl]; go_simp) rfl ?_
          rw [HN.out]
          have hBf : Below w4.heap.size w4 w6.drew := (Ext.trans' HB5.out HB6.out).drew
          have hv6 := ((TmV.later hBf HVH.out).put4 HDB.out (.int .i64 k4) (.int .i64 n4) (.string s4) (.slice a4 m4 c4)).bare
          have hBB : Below w.heap.size w (set4 w6.drew w1.heap.size (.int .i64 k4) (.int .i64 n4) (.string s4) (.slice a4 m4 c4)) := Below.set4 (Ext.trans' HB2.out (Ext.trans' HB24.out hBf)) HSB.out _ _ _ _
          have hrow : (set4 w6.drew w1.heap.size (.int .i64 k4) (.int .i64 n4) (.string s4) (.slice a4 m4 c4)).ownsRow (rb + 1) 54 2 vn s1.names.length (s1.names.flatMap nmCells) := row_at HPN.out (fun g hg => by
            have h1 := HMB.out g hg
            have h2 := (row_in HPN.out hg).2
            rw [Below.heap_setCell _ _ _ g (fun e => h1 e), Below.heap_setCell _ _ _ g (fun e => h1 e), Below.heap_setCell _ _ _ g (fun e => h1 e), Below.heap_setCell _ _ _ g (fun e => h1 e)]
            exact HB6.out.drew.block g h2)
          exact ⟨⟨_, _, rfl, hv6, Elems.owned nmCells_len hrow⟩, hBB⟩
      · have HR := Lib.hid (show s1.rest ≠ [] from fun e => hn (by rw [← HNL.out, e]; rfl))
        have HN := Lib.hid (show X = .bad 2 from HXX.out.symm.trans (one_more HGC.out.1 HGC.out.2 HW.out HR.out))
        have hnd : (0 : Int) < (nl : Int) := by omega
        clear hn
        go_wp2_with fail
        (try rw [hw5])
        clear hw5
        go_wp2
        refine bodyPost_ret (v := .tuple #[.agg #[.int .i64 0, .int .i64 0, .string ⟨#[]⟩, .slice none 0 0], .slice none 0 0, .int .i64 2]) (by rw [results_cell3 rfl]; go_simp) rfl ?_
        rw [HN.out]
        exact ⟨rfl, Below.set4 (Ext.trans' HB2.out HB25.out) HSB.out _ _ _ _⟩
end Go.Proofs.YtobdhcaoeholhaaGreatDoor
/- The document's own writing without operators: plain. -/
namespace Go.Proofs.YtobdhcaoeholhaaGreatDoor
open Go.Shelf Go.RowKit
set_option linter.unusedVariables false

section
variable (q : ByteArray → List UInt8) (nm : Int → List UInt8) (vs : List Int)
end
theorem bl_cat (a b : ByteArray) : bl (a ++ b) = bl a ++ bl b := by simp [bl]
theorem size_bl (a : ByteArray) : a.size = (bl a).length := (bl_len a).symm
end Go.Proofs.YtobdhcaoeholhaaGreatDoor
/- What is written is read as it was: the law's walk. -/
namespace Go.Proofs.YtobdhcaoeholhaaGreatDoor
open Go.Shelf Go.RowKit
set_option linter.unusedVariables false
set_option maxRecDepth 100000

mutual
theorem tm_nums {w : World} : ∀ (x : Tm) (v : Value), TmV w x v → numsT x
  | .mk k n s ts, v, h => by
    rw [TmV] at h
    obtain ⟨a, c, h1, h2, h3, h4, h5, h6, h7, h8⟩ := h
    rw [numsT]
    refine ⟨fun _ => by unfold I64 at h7; omega, ?_⟩
    rcases h8 with rfl | ⟨b, off, _, _, e3⟩
    · rw [numsL]; trivial
    · exact row_nums ts b off e3
theorem row_nums {w : World} : ∀ (l : List Tm) (b off : Nat), TmRow w l b off → numsL l
  | [], b, off, _ => by rw [numsL]; trivial
  | x :: r, b, off, h => by
    rw [TmRow] at h
    obtain ⟨⟨c0, c1, c2, c3, _, _, _, _, h4⟩, h5⟩ := h
    rw [numsL]
    exact ⟨tm_nums x _ h4, row_nums r b (off + 4) h5⟩
end
abbrev spdot : ByteArray := ⟨#[32, 46]⟩
theorem bl_spdot (t : List UInt8) : bl ((⟨t.toArray⟩ : ByteArray) ++ spdot) = t ++ [32, 46] := bl_cat _ _
theorem textX_ok {t : List UInt8} (h : t.length ≤ 4096) : textX true t = .tuple #[.string ⟨t.toArray⟩, .int .i64 0] := by
  unfold textX
  rw [if_pos rfl, if_neg (by omega), if_neg (by omega)]
theorem textX_far {t : List UInt8} (h : 4096 < t.length) : textX true t = .tuple #[.string ⟨#[]⟩, .int .i64 3] := by
  unfold textX
  rw [if_pos rfl, if_pos h, if_pos h]
end Go.Proofs.YtobdhcaoeholhaaGreatDoor
/- WriteKnown: the chapter's texts, read, are written as it says: the law, walked. -/
namespace Go.Proofs.YtobdhcaoeholhaaGreatDoor
open Go.Shelf Go.RowKit
set_option linter.unusedVariables false
set_option maxRecDepth 100000

abbrev sQ : ByteArray := ⟨#[39, 39, 39, 39, 39, 39, 39, 39, 39, 39, 39, 39, 39, 39, 39, 39, 39, 39, 39, 39, 39, 39, 39, 39, 39, 39, 39, 39, 39, 39, 39, 39, 39, 39, 39, 39, 39, 39, 39, 39, 39, 39, 39, 39, 39, 39, 39, 39, 39, 39, 39, 39, 39, 39, 39, 39, 39, 39, 39]⟩
abbrev aQ : Tm := .mk 2 0 sQ []
abbrev gQ : Tm := .mk 2 0 ⟨#[103]⟩ [aQ, aQ, aQ, aQ, aQ, aQ, aQ, aQ]
abbrev hQ : Tm := .mk 2 0 ⟨#[103]⟩ [gQ, gQ, gQ, gQ, gQ, gQ, gQ, gQ]
end Go.Proofs.YtobdhcaoeholhaaGreatDoor
/- Tokens are no shorter than what they say: pure. -/
namespace Go.Proofs.YtobdhcaoeholhaaGreatDoor
open Go.RowKit
set_option linter.unusedVariables false

def TokK (t : TokB) : Prop := 1 ≤ t.len ∧ t.text.length ≤ t.len ∧ (digW t.n).length ≤ t.len
theorem digF_fit : ∀ (f u k : Nat), 1 ≤ k → u < 10 ^ k → (digF f u).length ≤ k
  | 0, u, k, _, _ => by simp [digF]
  | f + 1, u, k, hk, h => by
    rw [digF]
    split
    · rw [List.length_singleton]; exact hk
    · rename_i hu
      obtain ⟨j, rfl⟩ : ∃ j, k = j + 1 := ⟨k - 1, by omega⟩
      have hj : 1 ≤ j := by
        cases j with
        | zero => simp at h; omega
        | succ j => omega
      rw [List.length_append, List.length_singleton]
      have := digF_fit f (u / 10) j hj (by rw [Nat.pow_succ] at h; omega)
      omega
theorem digit_top {c : UInt8} (h : digitB c = true) : c.toNat - 48 < 10 := by
  have hh : ((List.range 256).all fun n => !digitB (UInt8.ofNat n) || decide (n - 48 < 10)) = true := by decide +kernel
  have h1 := List.all_eq_true.1 hh c.toNat (List.mem_range.2 c.toNat_lt)
  have e : UInt8.ofNat c.toNat = c := by simp
  rw [e, h] at h1
  simpa using h1
theorem fold_lt : ∀ (l : List UInt8) (a k : Nat), (∀ c ∈ l, digitB c = true) → a < 10 ^ k → l.foldl (fun n c => n * 10 + (c.toNat - 48)) a < 10 ^ (k + l.length)
  | [], a, k, _, h => by simpa using h
  | c :: r, a, k, hd, h => by
    rw [List.foldl_cons, List.length_cons]
    have hc := digit_top (hd c (by simp))
    have := fold_lt r (a * 10 + (c.toNat - 48)) (k + 1) (fun x hx => hd x (List.mem_cons_of_mem _ hx)) (by rw [Nat.pow_succ]; omega)
    rw [show k + (r.length + 1) = k + 1 + r.length from by omega]
    exact this
theorem twv_all (p : UInt8 → Bool) : ∀ (r : List UInt8), ∀ c ∈ r.take (r.takeWhile p).length, p c = true
  | [], c, h => by cases h
  | x :: r, c, h => by
    rw [List.takeWhile_cons] at h
    cases hx : p x with
    | false => rw [hx] at h; simp at h
    | true =>
      rw [hx] at h
      simp only [if_true, List.length_cons, List.take_succ_cons] at h
      rcases List.mem_cons.1 h with rfl | h
      · exact hx
      · exact twv_all p r c h
theorem num_lt {c : UInt8} {r : List UInt8} (h : digitB c = true) : numB ((c :: r).take ((r.takeWhile digitB).length + 1)) < 10 ^ ((r.takeWhile digitB).length + 1) := by
  rw [List.take_succ_cons]
  have hl : (r.take (r.takeWhile digitB).length).length ≤ (r.takeWhile digitB).length := by rw [List.length_take]; omega
  have h1 := fold_lt (c :: r.take (r.takeWhile digitB).length) 0 0 (fun x hx => by
    rcases List.mem_cons.1 hx with rfl | hx
    · exact h
    · exact twv_all digitB r x hx) (by decide)
  unfold numB
  refine Nat.lt_of_lt_of_le h1 (Nat.pow_le_pow_right (by decide) ?_)
  rw [List.length_cons]
  omega
theorem quov_len : ∀ (n : Nat) (s : List UInt8) (p : List UInt8 × Nat), s.length ≤ n → quoB s = some p → p.1.length + 1 ≤ p.2
  | _, [], p, _, h => by cases h
  | _, [c], p, _, h => by
    unfold quoB at h
    split at h
    · cases h; decide
    · cases h
  | 0, c :: d :: r, p, hn, h => by simp at hn
  | n + 1, c :: d :: r, p, hn, h => by
    simp only [List.length_cons] at hn
    rw [quoB] at h
    split at h
    · split at h
      · obtain ⟨q, hq, rfl⟩ := Option.map_eq_some_iff.1 h
        have := quov_len n r q (by omega) hq
        simp only [List.length_cons]
        omega
      · cases h; decide
    · split at h
      · split at h
        · cases h
        · obtain ⟨q, hq, rfl⟩ := Option.map_eq_some_iff.1 h
          have := quov_len n r q (by omega) hq
          simp only [List.length_cons]
          omega
      · split at h
        · obtain ⟨q, hq, rfl⟩ := Option.map_eq_some_iff.1 h
          have := quov_len n (d :: r) q (by simp only [List.length_cons]; omega) hq
          simp only [List.length_cons]
          omega
        · cases h
theorem dig_zero : (digW 0).length = 1 := by decide +kernel
theorem tok_fit (c : UInt8) (r : List UInt8) (t : TokB) (h : nextC c r = .tok t) : TokK t := by
  have hp : 1 ≤ t.len := by
    rcases next_pos c r with ⟨k, h1, _⟩ | ⟨u, h1, h2⟩ | ⟨o, h1⟩
    · rw [h1] at h; cases h
    · rw [h1] at h; cases h; exact h2
    · rw [h1] at h; cases h
  have base : ∀ (kind : Nat) (text : List UInt8) (n k : Nat) (s : List UInt8), text.length ≤ k → (digW n).length ≤ k → tokB kind text n k s = .tok t → TokK t := fun kind text n k s h1 h2 h3 => by
    unfold tokB at h3
    cases h3
    exact ⟨hp, h1, h2⟩
  have zero : ∀ (kind : Nat) (text : List UInt8) (k : Nat) (s : List UInt8), text.length ≤ k → tokB kind text 0 k s = .tok t → TokK t := fun kind text k s h1 h3 => by
    refine base kind text 0 k s h1 ?_ h3
    unfold tokB at h3
    cases h3
    rw [dig_zero]
    exact hp
  have name : ∀ (k : Nat) (s : List UInt8), nameB k s = .tok t → TokK t := fun k s h1 => by
    unfold nameB at h1
    split at h1
    · exact zero _ _ _ _ (by rw [List.length_take]; omega) h1
    · cases h1
  unfold nextC at h
  by_cases h1 : blankB c = true
  · rw [if_pos h1] at h; cases h
  rw [if_neg h1] at h
  by_cases h2 : (c == 37) = true
  · rw [if_pos h2] at h; cases h
  rw [if_neg h2] at h
  by_cases h3 : smallB c = true
  · rw [if_pos h3] at h; exact name _ _ h
  rw [if_neg h3] at h
  by_cases h4 : greatB c = true
  · rw [if_pos h4] at h; exact zero _ _ _ _ (by rw [List.length_take]; omega) h
  rw [if_neg h4] at h
  by_cases h5 : digitB c = true
  · rw [if_pos h5] at h
    split at h
    · rename_i hn
      exact base _ _ _ _ _ (by simp) (digF_fit 25 _ _ (by omega) (num_lt h5)) h
    · cases h
  rw [if_neg h5] at h
  by_cases h6 : (c == 39) = true
  · rw [if_pos h6] at h
    cases hq : quoB r with
    | none => rw [hq] at h; cases h
    | some p =>
      rw [hq] at h
      simp only at h
      split at h
      · have := quov_len _ r p (Nat.le_refl _) hq
        exact zero _ _ _ _ (by omega) h
      · cases h
  rw [if_neg h6] at h
  by_cases h7 : (c == 46 && endB r) = true
  · rw [if_pos h7] at h; exact zero _ _ _ _ (by simp) h
  rw [if_neg h7] at h
  by_cases h8 : symB c = true
  · rw [if_pos h8] at h; exact name _ _ h
  rw [if_neg h8] at h
  by_cases h9 : (c == 59 || c == 33) = true
  · rw [if_pos h9] at h; exact name _ _ h
  rw [if_neg h9] at h
  by_cases h10 : ((c == 91 && r.head? == some 93) || (c == 123 && r.head? == some 125)) = true
  · rw [if_pos h10] at h; exact name _ _ h
  rw [if_neg h10] at h
  by_cases h11 : [40, 41, 91, 93, 123, 125, 44, 124].contains c = true
  · rw [if_pos h11] at h; exact zero _ _ _ _ (by simp) h
  rw [if_neg h11] at h
  cases h
/-- The letters of tokens. -/
def letT : List TokP → Nat
  | [] => 0
  | q :: r => q.1.len + letT r
theorem lex_fit : ∀ (n p : Nat) (s : List UInt8) (x : List TokP), lexL n p s = some x → (∀ q ∈ x, TokK q.1) ∧ letT x ≤ s.length
  | n, p, [], x, h => by rw [lex_nil] at h; cases h; exact ⟨fun q hq => (by cases hq), Nat.le_refl _⟩
  | 0, p, c :: r, x, h => by cases h
  | n + 1, p, c :: r, x, h => by
    rw [lexL] at h
    have hnl := next_len c r
    cases hn : nextC c r with
    | skip k =>
      rw [hn] at h hnl
      have := lex_fit n (p + k) _ x h
      rw [List.length_drop, List.length_cons] at this
      rw [List.length_cons]
      exact ⟨this.1, by omega⟩
    | tok u =>
      rw [hn] at h hnl
      have hk : u.len ≤ r.length + 1 := hnl
      obtain ⟨l, hl, he⟩ := Option.map_eq_some_iff.1 h
      cases he
      have ho := tok_fit c r u hn
      have := lex_fit n (p + u.len) _ l hl
      rw [List.length_drop, List.length_cons] at this
      rw [List.length_cons, letT]
      refine ⟨fun q hq => ?_, by simp only; omega⟩
      rcases List.mem_cons.1 hq with rfl | hq
      · exact ho
      · exact this.1 q hq
    | bad o => rw [hn] at h; cases h
end Go.Proofs.YtobdhcaoeholhaaGreatDoor
