import Derived.Test.YtljgkfdnmikpfaaGreatDoorHgfan
import Derived.Test.YtljgkfdnmikpfaaGreatDoorHgfak
import Derived.Test.YtljgkfdnmikpfaaGreatDoorHgfac
import Derived.Lib.Strings
set_option linter.unusedVariables false
set_option linter.unusedSimpArgs false
/- The project's writer: Term, Plain. -/
namespace Go.Proofs.YtljgkfdnmikpfaaGreatDoor
open Go.Shelf Go.RowKit
set_option linter.unusedVariables false
set_option maxRecDepth 100000

theorem whide_one {w : World} {b : Nat} (hb : w.heap.size ≤ b) {w' : World} (h : Below w.heap.size w w') : Stays w (hide (fun k => k == b) w') := by
  have := Stays.hide (D := fun _ => false) (D' := fun k => k == b) h.size (fun k hk _ => ⟨by simp; omega, h.block k hk⟩)
  rw [hide_none] at this
  exact this
/-- A new writer. -/
theorem wr_new {w w' : World} (hc : Con w) (hb : Below w.heap.size w w') {b : Nat} (hw : w.heap.size ≤ b) (hlt : b < w'.heap.size) {vo vv : Value} (hx : Box w' b [vo, vv, .slice none 0 0]) {xs : List O} {vs : List Int}
    (ho : Ops (hide (fun k => k == b) w') vo xs) (hn : Nums (hide (fun k => k == b) w') vv vs) : Wr (fun k => k == b) w' b xs vs [] where
  mb := by simp
  old := fun k hk => by simp; omega
  con := hc.ext hb
  gl := ⟨by have := hc.lt.1; simp; omega, by have := hc.lt.2; simp; omega⟩
  co := ⟨vo, hx.cells 0 _ rfl, ho⟩
  cv := ⟨vv, hx.cells 1 _ rfl, hn⟩
  c2 := ⟨.slice none 0 0, hx.cells 2 _ rfl, RowB.nil _ _, fun k hk => by cases hk⟩
  fz := hx.fz
theorem nums_off {w : World} {v : Value} {l : List Int} (h : Nums w v l) {B : Nat} {cs : Array Value} {ty : TypeId} {fr : Nat × Nat} (ho : w.heap[B]? = some (.cells cs ty fr)) (hc : ∀ u ∈ cs.toList, ∀ n, u ≠ Value.int .i64 n) : Nums (hide (fun k => k == B) w) v l := by
  obtain ⟨a, c, h1, h2, h3, h4⟩ := h
  refine ⟨a, c, h1, h2, h3, ?_⟩
  rcases h4 with h4 | ⟨b, off, e1, e2, e3⟩
  · exact Or.inl h4
  · cases l with
    | nil => exact Or.inl rfl
    | cons x r =>
      have hx := e3 0 x rfl 0 _ rfl
      have hne : b ≠ B := by
        rintro rfl
        simp only [World.cell?, ho] at hx
        have hm : Value.int .i64 x ∈ cs.toList := by
          have hq : cs[off + (0 * 1 + 0)]? = some (.int .i64 x) := by simpa using hx
          rw [← Array.getElem?_toList] at hq
          exact List.mem_of_getElem? hq
        exact hc _ hm x rfl
      exact Or.inr ⟨b, off, e1, by rw [hide_size]; exact e2, fun i y hy j u hu => by
        rw [hide_cell _ _ _ (by simpa using hne)]
        exact e3 i y hy j u hu⟩
/-- What a writing answers: a text, or how it is refused. -/
def textX (g : Bool) (t : List UInt8) : Value := .tuple (if g then #[.string ⟨(if 4096 < t.length then [] else t).toArray⟩, .int .i64 (if 4096 < t.length then 3 else 0)] else #[.string ⟨#[]⟩, .int .i64 1])
theorem textX_at {M : Nat → Bool} {w : World} {wb : Nat} {xs : List O} {vs : List Int} {out : List UInt8} (h : Wr M w wb xs vs out) (hz : out.length ≤ 1000000000) :
    Calls Tryz.prog 56 #[.pointer (some ⟨wb, 0, none⟩)] w fun e w' => e = .returned (textX true out) ∧ w = w' := text_at h hz
set_option maxHeartbeats 4000000 in
theorem wplain_at {w : World} (hc : Con w) {x : Tm} {v : Value} (hv : TmV w x v) :
    Calls Tryz.prog 27 #[v] w fun e w' => e = .returned (textX (goodT x) (PLAIN (varsT x []) x)) ∧ Below w.heap.size w w' := by
  obtain ⟨k, n, s, a, m, c, rfl⟩ := hv.full
  obtain ⟨w1, hw1, hb1, hz1, hx1⟩ := box_new w #[.int .i64 k, .int .i64 n, .string s, .slice a m c] 27
  have hv1 := TmV.ext hb1 _ _ hv
  obtain ⟨b0, b1, b2, b3, bf⟩ := hx1.four
  have HG := Good_at x w1 _ hv1
  cases hg : goodT x with
  | false =>
    rw [hg] at HG
    have HG := Lib.hid HG
    have HB1 := Lib.hid hb1
    clear hv hv1 hb1 hx1 hz1 hg hc
    go_enter Tryz.func27, Tryz.ntmps27
    go_wp2_with fail
    (try rw [hw1])
    clear hw1
    (go_wp2_with fail; go_fit (HG.out); rintro e w2 ⟨rfl, hb2⟩)
    have HB2 := Lib.hid (Ext.trans' HB1.out hb2)
    clear hb2
    go_wp2
    go_ret2
    exact ⟨rfl, HB2.out⟩
  | true =>
    rw [hg] at HG
    have HG := Lib.hid HG
    have HV := Lib.hid (fun wq (hb : Below w1.heap.size w1 wq) => Vars_at x wq _ (TmV.ext hb _ _ hv1))
    have HGG := Lib.hid hg
    have HB1 := Lib.hid hb1
    have HC := Lib.hid hc
    have HX1 := Lib.hid hx1
    have HV1 := Lib.hid hv1
    clear hv hv1 hb1 hx1 hz1 hg hc
    go_enter Tryz.func27, Tryz.ntmps27
    go_wp2_with fail
    (try rw [hw1])
    clear hw1
    (go_wp2_with fail; go_fit (HG.out); rintro e w2 ⟨rfl, hb2⟩)
    have HV2 := Lib.hid (HV.out w2 hb2)
    have HB2 := Lib.hid hb2
    obtain ⟨b0, b1, b2, b3, bf⟩ := (HX1.out.ext hb2).four
    clear hb2
    (go_wp2_with fail; go_fit (HV2.out); rintro e w3 ⟨r, rfl, hr, hb3⟩)
    rw [HGG.out, if_pos rfl] at hr
    obtain ⟨ar, cr, rfl, _⟩ := hr.len
    obtain ⟨nv, hnv⟩ : ∃ nv, (varsT x []).length = nv := ⟨_, rfl⟩
    rw [hnv] at hr
    simp only [hnv]
    obtain ⟨w4, hw4, hb4, hz4, hx4⟩ := box_new w3 #[.slice none 0 0, .slice ar nv cr, .slice none 0 0] 99
    have hb13 := Ext.trans' HB2.out hb3
    have hb14 := Ext.trans' hb13 hb4
    have hb04 := Ext.trans' HB1.out hb14
    have hsz : w.heap.size ≤ w3.heap.size := (Ext.trans' HB1.out hb13).size
    have hst := whide_one (Nat.le_refl w3.heap.size) hb4
    have hW := wr_new HC.out hb04 hsz hx4.lt hx4 (xs := []) (vs := varsT x []) ⟨none, 0, rfl, Nat.le_refl _, Nat.zero_le _, Or.inl rfl⟩ (Elems.stay hr hst)
    have hv4 := TmV.stay hst _ _ (TmV.ext hb13 _ _ HV1.out)
    have HPL := Lib.hid (plain_all (wb := w3.heap.size) (xs := []) (vs := varsT x []) (sizeN x + 1) x (by omega) HGG.out _ w4 [] _ hW hv4 (by have := plain_short2 (vs := varsT x []) HGG.out; simp; omega))
    have HB4 := Lib.hid hb04
    clear b0 b1 b2 b3 bf
    obtain ⟨c0, c1, c2, c3, cf⟩ := (HX1.out.ext hb13).four
    have hne : w.heap.size < w3.heap.size := (HX1.out.ext hb13).lt
    have HSZ := Lib.hid hsz
    have HW4 := Lib.hid hw4
    clear hw4 hb3 hb4 hb13 hb14 hb04 hr hnv hst hW hv4 hx4 hz4 hsz
    go_wp2_with fail
    (try rw [HW4.out])
    (go_wp2_with fail; go_fit (HPL.out); rintro e w5 ⟨rfl, M5, g3, g4⟩)
    have hTX := textX_at g3 (by have := plain_short2 (vs := varsT x []) HGG.out; simp; omega)
    rw [List.nil_append] at hTX
    obtain ⟨ts, te, hxx⟩ : ∃ (ts : ByteArray) (te : Int), textX true (PLAIN (varsT x []) x) = .tuple #[.string ts, .int .i64 te] := ⟨_, _, rfl⟩
    rw [hxx] at hTX
    have HXX := Lib.hid hxx
    have HTX := Lib.hid hTX
    clear hTX hxx
    have HB5 := Lib.hid (Below.trans HB4.out (g4.bel HB4.out.size (fun k hk => by have := HSZ.out; simp; omega)))
    clear g3 g4 c0 c1 c2 c3 cf hne
    (go_wp2_with fail; go_fit (HTX.out); rintro e w6 ⟨rfl, rfl⟩)
    go_wp2
    go_ret2
    exact ⟨by rw [HXX.out]; rfl, HB5.out⟩
/-- What Term answers. -/
abbrev termTx (xs : List O) (x : Tm) : Value := textX (goodB xs && goodT x) (writeT xs x)
set_option maxHeartbeats 8000000 in
theorem wterm_at {w : World} (hc : Con w) {xs : List O} {vt : Value} (ho : Ops w vt xs) {x : Tm} {v : Value} (hv : TmV w x v) :
    Calls Tryz.prog 25 #[.agg #[vt], v] w fun e w' => e = .returned (termTx xs x) ∧ Below w.heap.size w w' := by
  obtain ⟨k, n, s, a, m, c, rfl⟩ := hv.full
  obtain ⟨ao, co, rfl, hl1, hl2⟩ := ho.form
  obtain ⟨mo, hmo⟩ : ∃ m, xs.length = m := ⟨_, rfl⟩
  rw [hmo] at ho hl1
  rw [hmo]
  obtain ⟨w0, hw0, hb0, hz0, hx0⟩ := box_new w #[.slice ao mo co] 36
  obtain ⟨w1, hw1, hb1, hz1, hx1⟩ := box_new w0 #[.int .i64 k, .int .i64 n, .string s, .slice a m c] 27
  have hb01 := Ext.trans' hb0 hb1
  have hv1 := TmV.ext hb01 _ _ hv
  have ho1 := ho.ext hb01
  obtain ⟨b0, b1, b2, b3, bf⟩ := hx1.four
  have d0 : w1.cell? ⟨w.heap.size, 0, none⟩ = some (.slice ao mo co) := (hx0.ext hb1).cells 0 _ rfl
  have HO := good_walk ho1
  have HG := Good_at x w1 _ hv1
  unfold termTx
  cases hgo : goodB xs with
  | false =>
    rw [hgo] at HO
    have HO := Lib.hid HO
    have HB1 := Lib.hid hb01
    clear hv hv1 hb0 hb1 hb01 hx0 hx1 hz0 hz1 hgo hc ho ho1 hmo HG
    go_enter Tryz.func25, Tryz.ntmps25
    go_wp2_with fail
    (try rw [hw0])
    (try rw [hw1])
    clear hw0 hw1
    (go_wp2_with fail; go_fit (HO.out); rintro e w2 ⟨rfl, hb2⟩)
    have HB2 := Lib.hid (Ext.trans' HB1.out hb2)
    clear hb2
    go_wp2
    go_ret2
    exact ⟨rfl, HB2.out⟩
  | true =>
    rw [hgo] at HO
    have HO := Lib.hid HO
    cases hg : goodT x with
    | false =>
      have HG := Lib.hid (fun wq (hb : Below w1.heap.size w1 wq) => Good_at x wq _ (TmV.ext hb _ _ hv1))
      have HGG := Lib.hid hg
      have HB1 := Lib.hid hb01
      have HX1 := Lib.hid hx1
      clear hv hv1 hb0 hb1 hb01 hx0 hx1 hz0 hz1 hgo hg hc ho ho1 hmo
      go_enter Tryz.func25, Tryz.ntmps25
      go_wp2_with fail
      (try rw [hw0])
      (try rw [hw1])
      clear hw0 hw1
      (go_wp2_with fail; go_fit (HO.out); rintro e w2 ⟨rfl, hb2⟩)
      have HG2 := HG.out w2 hb2
      rw [HGG.out] at HG2
      have HG2 := Lib.hid HG2
      obtain ⟨b0, b1, b2, b3, bf⟩ := (HX1.out.ext hb2).four
      have HB2 := Lib.hid (Ext.trans' HB1.out hb2)
      clear hb2
      (go_wp2_with fail; go_fit (HG2.out); rintro e w3 ⟨rfl, hb3⟩)
      have HB3 := Lib.hid (Ext.trans' HB2.out hb3)
      clear hb3
      go_wp2
      go_ret2
      exact ⟨rfl, HB3.out⟩
    | true =>
      have HG := Lib.hid (fun wq (hb : Below w1.heap.size w1 wq) => Good_at x wq _ (TmV.ext hb _ _ hv1))
      have HVA := Lib.hid (fun wq (hb : Below w1.heap.size w1 wq) => Vars_at x wq _ (TmV.ext hb _ _ hv1))
      have HGG := Lib.hid hg
      have HB1 := Lib.hid hb01
      have HX1 := Lib.hid hx1
      have HX0 := Lib.hid (hx0.ext hb1)
      have HV1 := Lib.hid hv1
      have HO1 := Lib.hid ho1
      have HC := Lib.hid hc
      clear hv hv1 hb0 hb1 hb01 hx0 hx1 hz0 hz1 hgo hg hc ho ho1 hmo
      go_enter Tryz.func25, Tryz.ntmps25
      go_wp2_with fail
      (try rw [hw0])
      (try rw [hw1])
      clear hw0 hw1
      (go_wp2_with fail; go_fit (HO.out); rintro e w2 ⟨rfl, hb2⟩)
      have HG2 := HG.out w2 hb2
      rw [HGG.out] at HG2
      have HG2 := Lib.hid HG2
      obtain ⟨b0, b1, b2, b3, bf⟩ := (HX1.out.ext hb2).four
      have HB2 := Lib.hid hb2
      clear hb2
      (go_wp2_with fail; go_fit (HG2.out); rintro e w3 ⟨rfl, hb3⟩)
      have HB3 := Lib.hid (Ext.trans' HB2.out hb3)
      clear b0 b1 b2 b3 bf d0 hb3
      obtain ⟨b0, b1, b2, b3, bf⟩ := (HX1.out.ext HB3.out).four
      have d0 : w3.cell? ⟨w.heap.size, 0, none⟩ = some (.slice ao mo co) := (HX0.out.ext HB3.out).cells 0 _ rfl
      have HVB := Lib.hid (fun wq (hb : Below w3.heap.size w3 wq) => HVA.out wq (Ext.trans' HB3.out hb))
      have HS3 := Lib.hid (Ext.trans' HB1.out HB3.out).size
      go_wp2_with fail
      refine wp_region_held_drew (S := fun w' => (w'.cell? ⟨w.heap.size, 0, none⟩ = some (.slice ao mo co) ∧ w'.cell? ⟨w0.heap.size, 0, none⟩ = some (.int .i64 k) ∧ w'.cell? ⟨w0.heap.size, 1, none⟩ = some (.int .i64 n) ∧ w'.cell? ⟨w0.heap.size, 2, none⟩ = some (.string s) ∧ w'.cell? ⟨w0.heap.size, 3, none⟩ = some (.slice a m c)) ∧ Below w3.heap.size w3 w') (by kernel_rfl) ⟨⟨d0, b0, b1, b2, b3⟩, (Below.refl _ _).drew⟩ (fun hHeld => ?_)
      have hm0 : w.heap.size ≠ w3.heap.size := by have := (HX0.out.ext HB3.out).lt; omega
      have hm1 : w0.heap.size ≠ w3.heap.size := by have := (HX1.out.ext HB3.out).lt; omega
      first | (refine held_t (i := 0) hHeld ?_; apply Exists.intro; refine ⟨fun wq hq => ?_, ?_⟩; (focus ((try dsimp only at hq); go_simp; (first | done | with_reducible rfl | fail)))) | refine held_s (i := 0) hHeld ?_ | fail
      first | (refine held_t (i := 1) hHeld ?_; apply Exists.intro; refine ⟨fun wq hq => ?_, ?_⟩; (focus ((try dsimp only at hq); go_simp; (first | done | with_reducible rfl | fail)))) | refine held_s (i := 1) hHeld ?_ | fail
      try simp only [Act.put, List.setIfInBounds_toArray, List.set_cons_zero, List.set_cons_succ]
      refine wpAnyH_ready (rs := [2, 4]) (by kernel_rfl) (by simp) ?_
      refine AllReadyH.cons (by simp only [List.getElem?_toArray, List.getElem?_cons_zero, List.getElem?_cons_succ]; rfl) (fun K hK => ?_) (AllReadyH.cons (by simp only [List.getElem?_toArray, List.getElem?_cons_zero, List.getElem?_cons_succ]; rfl) (fun K hK => ?_) AllReadyH.nil)
      · go_simp
        (go_at_call 21; refine (HVB.out _ hHeld.2).mono ?_; rintro e w4 ⟨r, rfl, hr, hb4⟩)
        refine hK.out _ _ (⟨⟨cell_later hb4 hHeld.1.1, cell_later hb4 hHeld.1.2.1, cell_later hb4 hHeld.1.2.2.1, cell_later hb4 hHeld.1.2.2.2.1, cell_later hb4 hHeld.1.2.2.2.2⟩, Ext.trans' hHeld.2 hb4⟩) (fun hHeld => ?_)
        clear hK K
        try simp only [Act.put, List.setIfInBounds_toArray, List.set_cons_zero, List.set_cons_succ]
        rw [HGG.out, if_pos rfl] at hr
        obtain ⟨ar, cr, rfl, _⟩ := hr.len
        obtain ⟨nv, hNV⟩ : ∃ nv, (varsT x []).length = nv := ⟨_, rfl⟩
        rw [hNV] at hr
        simp only [hNV]
        have hS4 := hHeld
        first | (refine held_t (i := 3) hHeld ?_; apply Exists.intro; refine ⟨fun wq hq => ?_, ?_⟩; (focus ((try dsimp only at hq); go_simp; (first | done | with_reducible rfl | fail)))) | refine held_s (i := 3) hHeld ?_ | fail
        try simp only [Act.put, List.setIfInBounds_toArray, List.set_cons_zero, List.set_cons_succ]
        refine held_c 4 fun K hK => ?_
        go_simp
        skip
        refine hK.out _ _ (⟨⟨cell_later (bel1' _ _) hHeld.1.1, cell_later (bel1' _ _) hHeld.1.2.1, cell_later (bel1' _ _) hHeld.1.2.2.1, cell_later (bel1' _ _) hHeld.1.2.2.2.1, cell_later (bel1' _ _) hHeld.1.2.2.2.2⟩, Ext.trans' hHeld.2 (bel1' _ _)⟩) (fun hHeld => ?_)
        clear hK K
        try simp only [Act.put, List.setIfInBounds_toArray, List.set_cons_zero, List.set_cons_succ]
        refine held_c 5 fun K hK => ?_
        go_simp
        skip
        refine hK.out _ _ (⟨⟨cell_later (bel1' _ _) hS4.1.1, cell_later (bel1' _ _) hS4.1.2.1, cell_later (bel1' _ _) hS4.1.2.2.1, cell_later (bel1' _ _) hS4.1.2.2.2.1, cell_later (bel1' _ _) hS4.1.2.2.2.2⟩, Ext.trans' hS4.2 (bel1' _ _)⟩) (fun hHeld => ?_)
        clear hK K
        try simp only [Act.put, List.setIfInBounds_toArray, List.set_cons_zero, List.set_cons_succ]
        refine wpAnyH_done (by kernel_rfl) ?_ _
        obtain ⟨w9, hw9, hb9, hz9, hx9⟩ := box_new w4 #[.slice ao mo co, .slice ar nv cr, .slice none 0 0] 99
        have hst := whide_one (Nat.le_refl w4.heap.size) hb9
        have HBX := Lib.hid hx9
        have hb34 := hS4.2
        have hb19 := Ext.trans' (Ext.trans' HB3.out hb34) hb9
        have HB9 := Lib.hid (Ext.trans' HB1.out hb19)
        have HSZ := Lib.hid (show w.heap.size ≤ w4.heap.size from Nat.le_trans HS3.out hb34.size)
        have HOH := Lib.hid (Elems.stay (HO1.out.ext (Ext.trans' HB3.out hb34)) hst)
        have HNH := Lib.hid (Elems.stay hr hst)
        have HVH := Lib.hid (TmV.stay hst _ _ (TmV.ext (Ext.trans' HB3.out hb34) _ _ HV1.out))
        have HX9 := Lib.hid (HX1.out.ext hb19)
        clear hr hb4 hS4 hHeld hst hb34 hb19 hb9 hx9 hz9 b0 b1 b2 b3 bf d0
        (try rw [hw9])
        obtain ⟨b0, b1, b2, b3, bf⟩ := HX9.out.four
        generalize w4.heap.size = BB at *
        clear hw9
        have hnv : (varsT x []).length = nv := hNV
        have hwl : (placeT xs (varsT x []) 1200 x).length ≤ 1000000 := write_len HGG.out
        have HWL := Lib.hid hwl
        have hW := wr_new HC.out HB9.out HSZ.out HBX.out.lt HBX.out (xs := xs) (vs := varsT x []) HOH.out HNH.out
        have HPL := Lib.hid (place_at (wb := BB) (xs := xs) (vs := varsT x []) (bare_all (sizeN x + 1)) (by omega) HGG.out hW HVH.out 1200 (by simp only [List.length_nil]; omega))
        have HNE := Lib.hid HSZ.out
        clear hW hnv hNV hwl
        go_wp2_with fail
        (go_wp2_with fail; go_fit (HPL.out); rintro e w11 ⟨rfl, M5, g3, g4⟩)
        have hTX := textX_at g3 (by have := HWL.out; simp only [List.nil_append]; omega)
        rw [List.nil_append] at hTX
        obtain ⟨ts, te, hxx⟩ : ∃ (ts : ByteArray) (te : Int), textX true (writeT xs x) = .tuple #[.string ts, .int .i64 te] := ⟨_, _, rfl⟩
        rw [show placeT xs (varsT x []) 1200 x = writeT xs x from rfl, hxx] at hTX
        have HXX := Lib.hid hxx
        have HTX := Lib.hid hTX
        have HB11 := Lib.hid (Below.trans HB9.out (g4.bel HB9.out.size (fun k hk => by have := HNE.out; simp; omega)))
        clear g3 g4 hTX hxx b0 b1 b2 b3
        (go_wp2_with fail; go_fit (HTX.out); rintro e w12 ⟨rfl, rfl⟩)
        go_wp2
        go_ret2
        exact ⟨by rw [show textX (true && true) (writeT xs x) = textX true (writeT xs x) from rfl, HXX.out]; rfl, HB11.out⟩
      · go_simp
        skip
        refine hK.out _ _ (⟨⟨cell_later (bel1' _ _) hHeld.1.1, cell_later (bel1' _ _) hHeld.1.2.1, cell_later (bel1' _ _) hHeld.1.2.2.1, cell_later (bel1' _ _) hHeld.1.2.2.2.1, cell_later (bel1' _ _) hHeld.1.2.2.2.2⟩, Ext.trans' hHeld.2 (bel1' _ _)⟩) (fun hHeld => ?_)
        clear hK K
        try simp only [Act.put, List.setIfInBounds_toArray, List.set_cons_zero, List.set_cons_succ]
        refine held_c 2 fun K hK => ?_
        go_simp
        (go_at_call 21; refine (HVB.out _ hHeld.2).mono ?_; rintro e w7 ⟨r, rfl, hr, hb7⟩; rw [HGG.out, if_pos rfl] at hr; obtain ⟨ar, cr, rfl, _⟩ := hr.len; obtain ⟨nv, hNV⟩ : ∃ nv, (varsT x []).length = nv := ⟨_, rfl⟩; rw [hNV] at hr; simp only [hNV]; have hob : w7.heap[w3.heap.size]? = some (.cells #[.slice none 0 0, .slice none 0 0, .slice none 0 0] 99) := (hb7.block w3.heap.size (by simp)).trans (show (World.alloc w3 (.cells #[.slice none 0 0, .slice none 0 0, .slice none 0 0] 99)).heap[w3.heap.size]? = _ from heap_alloc_new _ _); have hbx : Box w7 w3.heap.size [.slice none 0 0, .slice none 0 0, .slice none 0 0] := wbox_ext_new w3.drew _ _ hb7; obtain ⟨e0, e1, e2, ef⟩ := hbx.three; have hb37 : Below w3.heap.size w3 w7 := Ext.trans' hHeld.2 hb7)
        refine hK.out _ _ (⟨⟨cell_later hb7 hHeld.1.1, cell_later hb7 hHeld.1.2.1, cell_later hb7 hHeld.1.2.2.1, cell_later hb7 hHeld.1.2.2.2.1, cell_later hb7 hHeld.1.2.2.2.2⟩, Ext.trans' hHeld.2 hb7⟩) (fun hHeld => ?_)
        clear hK K
        try simp only [Act.put, List.setIfInBounds_toArray, List.set_cons_zero, List.set_cons_succ]
        first | (refine held_t (i := 3) hHeld ?_; apply Exists.intro; refine ⟨fun wq hq => ?_, ?_⟩; (focus ((try dsimp only at hq); go_simp; (first | done | with_reducible rfl | fail)))) | refine held_s (i := 3) hHeld ?_ | fail
        try simp only [Act.put, List.setIfInBounds_toArray, List.set_cons_zero, List.set_cons_succ]
        refine held_c 5 fun K hK => ?_
        go_simp
        skip
        refine hK.out _ _ (⟨⟨far3 hHeld.1.1 hm0 _ _ _, far3 hHeld.1.2.1 hm1 _ _ _, far3 hHeld.1.2.2.1 hm1 _ _ _, far3 hHeld.1.2.2.2.1 hm1 _ _ _, far3 hHeld.1.2.2.2.2 hm1 _ _ _⟩, Below.set3 hHeld.2 (Nat.le_refl _) _ _ _⟩) (fun hHeld => ?_)
        clear hK K
        try simp only [Act.put, List.setIfInBounds_toArray, List.set_cons_zero, List.set_cons_succ]
        refine wpAnyH_done (by kernel_rfl) ?_ _
        have HBX := Lib.hid (show Box (((w7.setCell ⟨w3.heap.size, 0, none⟩ (.slice ao mo co)).setCell ⟨w3.heap.size, 1, none⟩ (.slice ar nv cr)).setCell ⟨w3.heap.size, 2, none⟩ (.slice none 0 0)) w3.heap.size [.slice ao mo co, .slice ar nv cr, .slice none 0 0] from wbox_all3 hbx (.slice ao mo co) (.slice ar nv cr) (.slice none 0 0))
        have hB3U : Below w3.heap.size w3 (((w7.setCell ⟨w3.heap.size, 0, none⟩ (.slice ao mo co)).setCell ⟨w3.heap.size, 1, none⟩ (.slice ar nv cr)).setCell ⟨w3.heap.size, 2, none⟩ (.slice none 0 0)) := Below.set3 hb37 (Nat.le_refl _) _ _ _
        have hst : Stays w3 (hide (fun k => k == w3.heap.size) (((w7.setCell ⟨w3.heap.size, 0, none⟩ (.slice ao mo co)).setCell ⟨w3.heap.size, 1, none⟩ (.slice ar nv cr)).setCell ⟨w3.heap.size, 2, none⟩ (.slice none 0 0))) := whide_one (Nat.le_refl w3.heap.size) hB3U
        have HB9 := Lib.hid (Ext.trans' HB1.out (Ext.trans' HB3.out hB3U))
        have HSZ := Lib.hid HS3.out
        have HOH := Lib.hid (Elems.stay (HO1.out.ext HB3.out) hst)
        have HNH := Lib.hid (show Nums (hide (fun k => k == w3.heap.size) (((w7.setCell ⟨w3.heap.size, 0, none⟩ (.slice ao mo co)).setCell ⟨w3.heap.size, 1, none⟩ (.slice ar nv cr)).setCell ⟨w3.heap.size, 2, none⟩ (.slice none 0 0))) (.slice ar nv cr) (varsT x []) from Elems.stay (nums_off hr hob (fun u hu n => by simp at hu; subst hu; simp)) ((Stays.set ⟨w3.heap.size, 0, none⟩ _ (by simp)).trans ((Stays.set ⟨w3.heap.size, 1, none⟩ _ (by simp)).trans (Stays.set ⟨w3.heap.size, 2, none⟩ _ (by simp)))))
        have HVH := Lib.hid (TmV.stay hst _ _ (TmV.ext HB3.out _ _ HV1.out))
        have HX9 := Lib.hid ((HX1.out.ext HB3.out).ext hB3U)
        clear hHeld hb7 hbx e0 e1 e2 ef hst hB3U hr hob hb37 b0 b1 b2 b3 bf d0
        generalize (((w7.setCell ⟨w3.heap.size, 0, none⟩ (.slice ao mo co)).setCell ⟨w3.heap.size, 1, none⟩ (.slice ar nv cr)).setCell ⟨w3.heap.size, 2, none⟩ (.slice none 0 0)) = w9 at *
        obtain ⟨b0, b1, b2, b3, bf⟩ := HX9.out.four
        generalize hBB : w3.heap.size = BB at HBX HSZ HOH HNH HVH ⊢
        have hnv : (varsT x []).length = nv := hNV
        have hwl : (placeT xs (varsT x []) 1200 x).length ≤ 1000000 := write_len HGG.out
        have HWL := Lib.hid hwl
        have hW := wr_new HC.out HB9.out HSZ.out HBX.out.lt HBX.out (xs := xs) (vs := varsT x []) HOH.out HNH.out
        have HPL := Lib.hid (place_at (wb := BB) (xs := xs) (vs := varsT x []) (bare_all (sizeN x + 1)) (by omega) HGG.out hW HVH.out 1200 (by simp only [List.length_nil]; omega))
        have HNE := Lib.hid HSZ.out
        clear hW hnv hNV hwl
        go_wp2_with fail
        (go_wp2_with fail; go_fit (HPL.out); rintro e w11 ⟨rfl, M5, g3, g4⟩)
        have hTX := textX_at g3 (by have := HWL.out; simp only [List.nil_append]; omega)
        rw [List.nil_append] at hTX
        obtain ⟨ts, te, hxx⟩ : ∃ (ts : ByteArray) (te : Int), textX true (writeT xs x) = .tuple #[.string ts, .int .i64 te] := ⟨_, _, rfl⟩
        rw [show placeT xs (varsT x []) 1200 x = writeT xs x from rfl, hxx] at hTX
        have HXX := Lib.hid hxx
        have HTX := Lib.hid hTX
        have HB11 := Lib.hid (Below.trans HB9.out (g4.bel HB9.out.size (fun k hk => by have := HNE.out; simp; omega)))
        clear g3 g4 hTX hxx b0 b1 b2 b3
        (go_wp2_with fail; go_fit (HTX.out); rintro e w12 ⟨rfl, rfl⟩)
        go_wp2
        go_ret2
        exact ⟨by rw [show textX (true && true) (writeT xs x) = textX true (writeT xs x) from rfl, HXX.out]; rfl, HB11.out⟩
end Go.Proofs.YtljgkfdnmikpfaaGreatDoor
/- The law's own copy of a term. -/
namespace Go.Proofs.YtljgkfdnmikpfaaGreatDoor
open Go.Shelf Go.RowKit
set_option linter.unusedVariables false

/-- A row of the call's own in the making: it is not looked at. -/
def RowY (D M : Nat → Bool) (w : World) (base : Nat) (v : Value) (ps : List TmP) : Prop :=
  RowP w base 66 v ps ∧ (∀ g, v.ownBlock = some g → D g = true ∧ M g = false) ∧ ∀ p ∈ ps, TmV (hide D w) p.1 (pVal p)
theorem RowY.none (D M : Nat → Bool) (w : World) (base : Nat) : RowY D M w base (.slice none 0 0) [] := ⟨World.ownsRow_nil _ _ _ _, fun g hg => (by cases hg), fun p hp => (by cases hp)⟩
theorem RowY.turn {D M D' M' : Nat → Bool} {w w' : World} {base : Nat} {v : Value} {ps : List TmP} (h : RowY D M w base v ps) (ht : Turn D M D' M' w w') (md : ∀ k, M k = true → D k = true) : RowY D' M' w' base v ps := by
  obtain ⟨h1, h2, h3⟩ := h
  refine ⟨row_at h1 (fun g hg => ht.kept g (row_in h1 hg).2 (h2 g hg).2), fun g hg => ?_, fun p hp => TmV.stay (ht.stays md) _ _ (h3 p hp)⟩
  have hlt := (row_in h1 hg).2
  rw [ht.dd g hlt, ht.mm g hlt]
  exact h2 g hg
/-- One more. -/
theorem RowY.more {D M : Nat → Bool} {W w' : World} {base : Nat} {v v' : Value} {ps : List TmP} {p : TmP} (h : RowY D M W base v ps) (hp : TmV (hide D W) p.1 (pVal p)) (ho : Okd D M W) (hg : W.grownBy w' v.ownBlock) (hv : v'.ownBlock = v.ownBlock ∨ v'.ownBlock = some W.heap.size)
    (hr : w'.ownsRow base 66 4 v' (ps.length + 1) (ps.flatMap pCells ++ pCells p)) : RowY (withB D v') M w' base v' (ps ++ [p]) := by
  obtain ⟨h1, h2, h3⟩ := h
  have hs := grown_stays hg (fun g e => (h2 g e).1) hv
  refine ⟨?_, fun g hg' => ⟨withB_own hg', ?_⟩, fun q hq => ?_⟩
  · unfold RowP
    rw [List.length_append, List.flatMap_append, List.length_singleton]
    simpa using hr
  · rcases hv with hv | hv
    · exact (h2 g (hv.symm.trans hg')).2
    · rw [hv] at hg'
      injection hg' with e
      subst e
      cases hm : M W.heap.size with
      | false => rfl
      | true => have := ho.1 _ hm; rw [ho.2 _ (Nat.le_refl _)] at this; cases this
  · rcases List.mem_append.1 hq with hq | hq
    · exact TmV.stay hs _ _ (h3 q hq)
    · simp at hq
      subst hq
      exact TmV.stay hs _ _ hp
/-- The row is looked at again. -/
theorem RowY.fin {D M D1 M' : Nat → Bool} {w w' : World} {v : Value} {ps : List TmP} {base : Nat} (hbase : w.heap.size ≤ base) (h : RowY D1 M' w' base v ps) (ht : Turn D M D1 M' w w') (ho : Okd D1 M' w') (hl : ps.length * 56 ≤ BIG) : Tms (hide (Fin D M' w.heap.size) w') v (ps.map (·.1)) := by
  obtain ⟨h1, h2, h3⟩ := h
  have hh : RowP (hide (Fin D M' w.heap.size) w') base 66 v ps := by
    refine row_at h1 (fun g hg => hide_get _ _ _ ?_)
    rw [fin_new (Nat.le_trans hbase (row_in h1 hg).1)]
    exact (h2 g hg).2
  exact hh.terms (fun p hp => TmV.fin (h3 p hp) ht ho) hl

theorem infoTermR : (Tryz.prog.info? 66).map (fun i => (i.zero, i.size, i.bytes)) = some (some (.agg #[.int .i64 0, .int .i64 0, .string ⟨#[]⟩, .slice none 0 0]), 4, 56) := by kernel_rfl
abbrev noM : Nat → Bool := fun _ => false
theorem fin_no {D : Nat → Bool} {w : World} (h : Old D w) : Fin D noM w.heap.size = D := by
  funext k
  by_cases hk : k < w.heap.size
  · exact fin_old hk
  · rw [fin_new (by omega)]
    exact (h k (by omega)).symm
theorem okd_no {D : Nat → Bool} {w : World} (h : Old D w) : Okd D noM w := And.intro (fun k hk => absurd hk (by simp)) h
theorem take_next {α : Type} {l : List α} {k : Nat} {x : α} (h : l[k]? = some x) : l.take (k + 1) = l.take k ++ [x] := by rw [List.take_add_one, h]; rfl
theorem RowY.put {D M : Nat → Bool} {w : World} {base : Nat} {v : Value} {ps : List TmP} (h : RowY D M w base v ps) (a : Addr) (u : Value) (hd : D a.block = true) (hne : ∀ g, v.ownBlock = some g → g ≠ a.block) : RowY D M (w.setCell a u) base v ps :=
  ⟨row_at h.1 (fun g hg => Below.heap_setCell w a u g (hne g hg)), h.2.1, fun p hp => TmV.stay (Stays.set a u hd) _ _ (h.2.2 p hp)⟩
theorem far_one {w : World} {b j c k : Nat} {v u : Value} (h : w.cell? ⟨b, j, none⟩ = some v) (hne : b ≠ c) : (w.setCell ⟨c, k, none⟩ u).cell? ⟨b, j, none⟩ = some v := by rw [far_cell hne]; exact h
end Go.Proofs.YtljgkfdnmikpfaaGreatDoor
/- Terms: the document's Size, Depth. -/
namespace Go.Proofs.YtljgkfdnmikpfaaGreatDoor
open Go.RowKit
set_option linter.unusedVariables false

theorem sizes_drop : ∀ {ts : List Tm} {i : Nat} {y : Tm}, ts[i]? = some y → sizesN (ts.take (i + 1)) = sizesN (ts.take i) + sizeN y
  | x :: r, 0, y, h => by
    simp at h; subst h
    simp [sizesN]
  | x :: r, i + 1, y, h => by
    have := sizes_drop (ts := r) (i := i) (y := y) (by simpa using h)
    simp only [List.take_succ_cons, sizesN, this]
    omega
  | [], i, y, h => by simp at h
theorem depths_drop : ∀ {ts : List Tm} {i : Nat} {y : Tm}, ts[i]? = some y → depthsN (ts.take (i + 1)) = max (depthsN (ts.take i)) (depthN y)
  | x :: r, 0, y, h => by
    simp at h; subst h
    simp [depthsN]
  | x :: r, i + 1, y, h => by
    have := depths_drop (ts := r) (i := i) (y := y) (by simpa using h)
    simp only [List.take_succ_cons, depthsN, this]
    omega
  | [], i, y, h => by simp at h
theorem sizes_take (ts : List Tm) (i : Nat) : sizesN (ts.take i) ≤ sizesN ts := by
  induction ts generalizing i with
  | nil => simp
  | cons x r ih =>
    cases i with
    | zero => simp [sizesN]
    | succ i =>
      simp only [List.take_succ_cons, sizesN]
      have := ih i
      omega
set_option maxHeartbeats 2000000 in
set_option maxRecDepth 100000 in
theorem rsize_at : ∀ (N : Nat) (x : Tm), sizeN x ≤ N → ∀ (q : Nat), q ≤ 1000000 → ∀ (w : World) (v : Value), TmV w x v →
    Calls Tryz.prog 96 #[v, .int .i64 q] w fun e w' => e = .returned (.int .i64 (min (sizeN x) (q + 1) : Nat)) ∧ Below w.heap.size w w'
  | 0, x, h, q, hq, w, v, hv => by have := size_pos x; omega
  | N + 1, .mk k n s ts, h, q, hq, w, v, hv => by
    obtain ⟨u, rfl, hs, hk, hn, hu⟩ := tmV_iff.1 hv
    obtain ⟨a, c, rfl, h1, h2, h3⟩ := hu.len
    unfold BIG at h3
    obtain ⟨m, hm⟩ : ∃ m, ts.length = m := ⟨_, rfl⟩
    have IH := Lib.hid (fun (y : Tm) (hy : y ∈ ts) => rsize_at N y (mem_size h hy))
    have HU := Lib.hid hu
    have HM := Lib.hid hm
    rw [hm] at h1 h3 hu HU ⊢
    obtain ⟨r, hr⟩ : ∃ r, min (sizeN (.mk k n s ts)) (q + 1) = r := ⟨_, rfl⟩
    rw [hr]
    have HR := Lib.hid (show min (sizesN ts + 1) (q + 1) = r by rw [← hr, sizeN])
    clear hv hu hm hr h
    go_enter Tryz.func96, Tryz.ntmps96
    go_wp2_with fail
    go_loopw [5, 6] (fun z v wr => ∃ i t : Nat, i ≤ m ∧ v = .int .i64 i ∧ z = .int .i64 t ∧ Hid (t = min (sizesN (ts.take i) + 1) (q + 1)) ∧ t ≤ q + 1 ∧ Hid (Below (w.alloc (.cells #[.int .i64 k, .int .i64 n, .string s, .slice a m c] 66)).heap.size (w.alloc (.cells #[.int .i64 k, .int .i64 n, .string s, .slice a m c] 66)) wr)) (fun _ v _ => m - (intOf v).toNat)
    case atStart => exact ⟨0, 1, Nat.zero_le _, rfl, rfl, Lib.hid (by simp [sizesN]), by omega, Lib.hid (Below.refl _ _)⟩
    case round =>
      obtain ⟨i, t, hi, rfl, rfl, HT, ht, HB⟩ := hrel
      obtain ⟨e0, e1, e2, e3⟩ := box_cells w 66 _ _ _ _ HB.out
      have HBW := Lib.hid (Ext.trans' (bel1' w _) HB.out)
      by_cases hil : i < m
      · obtain ⟨y, hy⟩ : ∃ y, ts[i]? = some y := ⟨_, List.getElem?_eq_getElem (by rw [HM.out]; exact hil)⟩
        have hst := sizes_take ts (i + 1)
        have hds := sizes_drop hy
        by_cases htq : t ≤ q
        · obtain ⟨b, off, k', n', s', u', rfl, hbb, _, _, _, c0, c1, c2, c3, _, hty⟩ := (HU.out.ext HBW.out).get hy
          obtain ⟨d, hd⟩ : ∃ d, q - t = d := ⟨_, rfl⟩
          have hqt : (q : Int) - t = d := by omega
          have ih := IH.out y (List.mem_of_getElem? hy) d (by omega) wr _ hty
          obtain ⟨z, hz⟩ : ∃ z, min (sizeN y) (d + 1) = z := ⟨_, rfl⟩
          rw [hz] at ih
          have HN : Hid (t + z = min (sizesN (ts.take (i + 1)) + 1) (q + 1)) := Lib.hid (by
            have := HT.out
            rw [hds]
            omega)
          have hzd : z ≤ d + 1 := by omega
          have hzq : t + z ≤ q + 1 := by omega
          clear hst hds hz hy hty hd HT
          (go_wp2_with fail; go_fit (ih); rintro e w2 ⟨rfl, b2⟩)
          have B2 := Lib.hid (Ext.trans' HB.out b2)
          clear b2
          go_wp2
          go_roundw
          case rel => exact ⟨i + 1, t + z, by omega, by go_num, by go_num, HN, hzq, B2⟩
          case measure => simp [intOf]; omega
        · have hrt : t = r := by
            have a1 := HT.out
            have a2 := HR.out
            have a3 := sizes_take ts i
            omega
          subst hrt
          clear hst hds hy
          go_wp2
          go_ret
          exact ⟨rfl, HBW.out⟩
      · have hrt : t = r := by
          have a1 := HT.out
          have a2 := HR.out
          rw [List.take_of_length_le (by rw [HM.out]; omega)] at a1
          omega
        subst hrt
        go_wp2
        go_ret
        exact ⟨rfl, HBW.out⟩
set_option maxHeartbeats 2000000 in
set_option maxRecDepth 100000 in
theorem rdepth_at : ∀ (q : Nat) (x : Tm), q ≤ 1000000 → ∀ (w : World) (v : Value), TmV w x v →
    Calls Tryz.prog 97 #[v, .int .i64 q] w fun e w' => e = .returned (.int .i64 (min (depthN x) (q + 1) : Nat)) ∧ Below w.heap.size w w'
  | 0, .mk k n s ts, hq, w, v, hv => by
    obtain ⟨u, rfl, hs, hk, hn, hu⟩ := tmV_iff.1 hv
    rw [show min (depthN (.mk k n s ts)) (0 + 1) = 1 by have := depth_pos (.mk k n s ts); omega]
    go_enter Tryz.func97, Tryz.ntmps97
    go_wp2
    go_ret
    exact ⟨rfl, bel1' _ _⟩
  | q + 1, .mk k n s ts, hq, w, v, hv => by
    obtain ⟨u, rfl, hs, hk, hn, hu⟩ := tmV_iff.1 hv
    obtain ⟨a, c, rfl, h1, h2, h3⟩ := hu.len
    unfold BIG at h3
    obtain ⟨m, hm⟩ : ∃ m, ts.length = m := ⟨_, rfl⟩
    have IH := Lib.hid (fun (y : Tm) => rdepth_at q y (by omega))
    have HU := Lib.hid hu
    have HM := Lib.hid hm
    rw [hm] at h1 h3 hu HU ⊢
    obtain ⟨r, hr⟩ : ∃ r, min (depthN (.mk k n s ts)) (q + 1 + 1) = r := ⟨_, rfl⟩
    rw [hr]
    have HR := Lib.hid (show min (depthsN ts + 1) (q + 2) = r by rw [← hr, depthN])
    clear hv hu hm hr
    obtain ⟨Q, hQ⟩ : ∃ Q : Int, ((q + 1 : Nat) : Int) = Q := ⟨_, rfl⟩
    rw [hQ]
    have hq1 : Q - 1 = q := by omega
    have hQ0 : ¬ Q ≤ 0 := by omega
    have hQb : Q ≤ 1000000 := by omega
    clear hQ
    go_enter Tryz.func97, Tryz.ntmps97
    go_wp2_with fail
    go_loopw [5, 6] (fun z v wr => ∃ i t : Nat, i ≤ m ∧ v = .int .i64 i ∧ z = .int .i64 t ∧ Hid (t = min (depthsN (ts.take i)) (q + 1)) ∧ t ≤ q + 1 ∧ Hid (Below (w.alloc (.cells #[.int .i64 k, .int .i64 n, .string s, .slice a m c] 66)).heap.size (w.alloc (.cells #[.int .i64 k, .int .i64 n, .string s, .slice a m c] 66)) wr)) (fun _ v _ => m - (intOf v).toNat)
    case atStart => exact ⟨0, 0, Nat.zero_le _, rfl, rfl, Lib.hid (by simp [depthsN]), by omega, Lib.hid (Below.refl _ _)⟩
    case round =>
      obtain ⟨i, t, hi, rfl, rfl, HT, ht, HB⟩ := hrel
      obtain ⟨e0, e1, e2, e3⟩ := box_cells w 66 _ _ _ _ HB.out
      have HBW := Lib.hid (Ext.trans' (bel1' w _) HB.out)
      by_cases hil : i < m
      · obtain ⟨y, hy⟩ : ∃ y, ts[i]? = some y := ⟨_, List.getElem?_eq_getElem (by rw [HM.out]; exact hil)⟩
        have hds := depths_drop hy
        obtain ⟨b, off, k', n', s', u', rfl, hbb, _, _, _, c0, c1, c2, c3, _, hty⟩ := (HU.out.ext HBW.out).get hy
        have ih := IH.out y wr _ hty
        obtain ⟨z, hz⟩ : ∃ z, min (depthN y) (q + 1) = z := ⟨_, rfl⟩
        rw [hz] at ih
        have HN : Hid (max t z = min (depthsN (ts.take (i + 1))) (q + 1)) := Lib.hid (by
          have := HT.out
          rw [hds]
          omega)
        have hzd : z ≤ q + 1 := by omega
        clear hds hz hy hty HT
        by_cases htz : t < z
        · have HM2 := Lib.hid (show max t z = z by omega)
          (go_wp2_with fail; go_fit (ih); rintro e w2 ⟨rfl, b2⟩)
          have B2 := Lib.hid (Ext.trans' HB.out b2)
          clear b2
          go_wp2
          go_roundw
          case rel => exact ⟨i + 1, z, by omega, by go_num, rfl, Lib.hid (by rw [← HN.out, HM2.out]), hzd, B2⟩
          case measure => simp [intOf]; omega
        · have HM2 := Lib.hid (show max t z = t by omega)
          (go_wp2_with fail; go_fit (ih); rintro e w2 ⟨rfl, b2⟩)
          have B2 := Lib.hid (Ext.trans' HB.out b2)
          clear b2
          go_wp2
          go_roundw
          case rel => exact ⟨i + 1, t, by omega, by go_num, rfl, Lib.hid (by rw [← HN.out, HM2.out]), ht, B2⟩
          case measure => simp [intOf]; omega
      · have hrt : t + 1 = r := by
          have a1 := HT.out
          have a2 := HR.out
          rw [List.take_of_length_le (by rw [HM.out]; omega)] at a1
          omega
        subst hrt
        go_wp2
        go_ret
        exact ⟨ret_int (by omega), HBW.out⟩
end Go.Proofs.YtljgkfdnmikpfaaGreatDoor
/- Terms: which the document's own calls good. -/
namespace Go.Proofs.YtljgkfdnmikpfaaGreatDoor
open Go.RowKit
set_option linter.unusedVariables false

theorem formed_mk (k n : Int) (s : ByteArray) (ts : List Tm) : formedT (.mk k n s ts) = (plainT k n s.data.toList ts.length && formedL ts) := by rw [formedT]
theorem formed_no {k n : Int} {s : ByteArray} {ts : List Tm} (h : plainT k n s.data.toList ts.length = false) : formedT (.mk k n s ts) = false := by rw [formed_mk, h]; rfl
theorem formed_leaf {k n : Int} {s : ByteArray} (h : plainT k n s.data.toList 0 = true) : formedT (.mk k n s []) = true := by rw [formed_mk]; show (plainT k n s.data.toList 0 && formedL []) = true; rw [h, formedL]; rfl
theorem isEmpty_size (s : ByteArray) : s.data.toList.isEmpty = decide (s.size = 0) := by
  have h : s.data.toList.length = s.size := rfl
  cases hq : s.data.toList with
  | nil => rw [hq] at h; simp at h; simp [← h]
  | cons a r =>
    rw [hq, List.length_cons] at h
    rw [decide_eq_false (by omega)]
    rfl
theorem toList_empty {s : ByteArray} (h : s.size = 0) : s.toList.isEmpty = true := by rw [Lib.toList_data, isEmpty_size]; simpa using h
theorem toList_some {s : ByteArray} (h : ¬ s.size = 0) : s.toList.isEmpty = false := by rw [Lib.toList_data, isEmpty_size]; simpa using h
theorem letter_eq : ∀ c : UInt8, letterB c = (((c.toNat : Int) == 9) || ((c.toNat : Int) == 10) || (!decide ((c.toNat : Int) < 32) && !decide (126 < (c.toNat : Int)))) := by
  intro c
  have h : ((List.range 256).all fun n => letterB (UInt8.ofNat n) == ((((UInt8.ofNat n).toNat : Int) == 9) || (((UInt8.ofNat n).toNat : Int) == 10) || (!decide (((UInt8.ofNat n).toNat : Int) < 32) && !decide (126 < ((UInt8.ofNat n).toNat : Int))))) = true := by decide +kernel
  have h1 := List.all_eq_true.1 h c.toNat (List.mem_range.2 c.toNat_lt)
  have e : UInt8.ofNat c.toNat = c := by simp
  rw [e] at h1
  exact eq_of_beq h1
set_option maxHeartbeats 4000000 in
set_option maxRecDepth 100000 in
/-- A name with its Args: the letters, then the Args. -/
theorem rformed_two {s : ByteArray} {ts : List Tm} {w : World} {a : Option Addr} {m c : Nat} (hs : s.size ≤ 140737488351232) (h1 : m ≤ c) (h2 : c ≤ maxLen) (h3 : m * 56 ≤ 140737488351232) (g2 : ¬ 64 < s.size) (g3 : ¬ 8 < m) (HM : Hid (ts.length = m)) (HU : Hid (Tms w (.slice a m c) ts))
    (HP : Hid (formedT (.mk 2 0 s ts) = (s.data.toList.all letterB && formedL ts)))
    (IH : Hid (∀ y ∈ ts, ∀ (w : World) (v : Value), TmV w y v → Calls Tryz.prog 98 #[v] w fun e w' => e = .returned (.bool (formedT y)) ∧ Below w.heap.size w w')) :
    Calls Tryz.prog 98 #[.agg #[.int .i64 2, .int .i64 0, .string s, .slice a m c]] w fun e w' => e = .returned (.bool (formedT (.mk 2 0 s ts))) ∧ Below w.heap.size w w' := by
  obtain ⟨r, hr⟩ : ∃ r, formedT (.mk 2 0 s ts) = r := ⟨_, rfl⟩
  rw [hr]
  have HR := Lib.hid (HP.out.symm.trans hr)
  clear hr HP
  go_enter Tryz.func98, Tryz.ntmps98
  go_wp2_with fail
  go_loopw [3] (fun z wr => ∃ i : Nat, i ≤ s.size ∧ z = .int .i64 i ∧ Hid (∀ j (hj : j < s.size), j < i → letterB s[j] = true) ∧ wr = w.alloc (.cells #[.int .i64 2, .int .i64 0, .string s, .slice a m c] 66)) (fun z _ => s.size - (intOf z).toNat)
  case atStart => exact ⟨0, Nat.zero_le _, rfl, Lib.hid (fun j _ h => by omega), rfl⟩
  case round =>
    obtain ⟨i, hi, rfl, HL, rfl⟩ := hrel
    by_cases hil : i < s.size
    · cases hq : letterB s[i]
      · have hlq := letter_eq s[i]
        rw [hq] at hlq
        have hall : s.data.toList.all letterB = false := by
          rw [List.all_eq_false]
          exact ⟨s.data.toList[i]'hil, List.getElem_mem _, by show ¬ letterB s[i] = true; rw [hq]; simp⟩
        have hrf : r = false := by rw [← HR.out, hall]; rfl
        subst hrf
        obtain ⟨z, hz⟩ : ∃ z : Int, (s[i].toNat : Int) = z := ⟨_, rfl⟩
        rw [hz] at hlq
        have e9 : (z == 9) = false := by
          cases h : (z == 9)
          · rfl
          · rw [h] at hlq; cases hlq
        have e10 : (z == 10) = false := by
          cases h : (z == 10)
          · rfl
          · rw [h, Bool.or_true] at hlq; cases hlq
        rw [e9, e10, Bool.false_or, Bool.false_or] at hlq
        have n9 : (z != 9) = true := by unfold bne; rw [e9]; rfl
        have n10 : (z != 10) = true := by unfold bne; rw [e10]; rfl
        clear e9 e10
        clear hall hq HR HL
        by_cases h32 : z < 32
        · clear hlq
          go_wp2
          go_ret
          exact ⟨rfl, bel1' _ _⟩
        · have h126 : 126 < z := by
            simp [h32] at hlq
            omega
          clear hlq
          go_wp2
          go_ret
          exact ⟨rfl, bel1' _ _⟩
      · have hlq := letter_eq s[i]
        rw [hq] at hlq
        have HN : Hid (∀ j (hj : j < s.size), j < i + 1 → letterB s[j] = true) := Lib.hid (fun j hj h => by
          by_cases e : j = i
          · subst e; exact hq
          · exact HL.out j hj (by omega))
        obtain ⟨z, hz⟩ : ∃ z : Int, (s[i].toNat : Int) = z := ⟨_, rfl⟩
        rw [hz] at hlq
        clear hq HL
        by_cases e9 : z = 9
        · subst e9
          clear hlq
          go_wp2
          go_roundw
          case rel => exact ⟨i + 1, by omega, by go_num, HN, trivial⟩
          case measure => simp [intOf]; omega
        have e9' : (z == 9) = false := beq_false_of_ne e9
        by_cases e10 : z = 10
        · subst e10
          clear hlq
          go_wp2
          go_roundw
          case rel => exact ⟨i + 1, by omega, by go_num, HN, trivial⟩
          case measure => simp [intOf]; omega
        have e10' : (z == 10) = false := beq_false_of_ne e10
        rw [e9', e10'] at hlq
        have h32 : ¬ z < 32 := fun hh => by simp [hh] at hlq
        have h126 : ¬ 126 < z := fun hh => by simp [hh] at hlq
        have n9 : (z != 9) = true := by unfold bne; rw [e9']; rfl
        have n10 : (z != 10) = true := by unfold bne; rw [e10']; rfl
        clear hlq e9 e10 e9' e10'
        go_wp2
        go_roundw
        case rel => exact ⟨i + 1, by omega, by go_num, HN, trivial⟩
        case measure => simp [intOf]; omega
    · have hall : s.data.toList.all letterB = true := by
        rw [List.all_eq_true]
        intro x hx
        obtain ⟨j, hj, rfl⟩ := List.getElem_of_mem hx
        exact HL.out j hj (by have : j < s.size := hj; omega)
      have HR2 := Lib.hid (show formedL ts = r by rw [← HR.out, hall]; rfl)
      clear hall HR HL
      go_wp2_with fail
      go_loopw [5] (fun v wr => ∃ i : Nat, i ≤ m ∧ v = .int .i64 i ∧ Hid (formedL (ts.drop i) = r) ∧ Hid (Below (w.alloc (.cells #[.int .i64 2, .int .i64 0, .string s, .slice a m c] 66)).heap.size (w.alloc (.cells #[.int .i64 2, .int .i64 0, .string s, .slice a m c] 66)) wr)) (fun v _ => m - (intOf v).toNat)
      case atStart => exact ⟨0, Nat.zero_le _, rfl, Lib.hid (by rw [List.drop_zero]; exact HR2.out), Lib.hid (Below.refl _ _)⟩
      case round =>
        obtain ⟨i, hi, rfl, HD, HB⟩ := hrel
        obtain ⟨e0, e1, e2, e3⟩ := box_cells w 66 _ _ _ _ HB.out
        by_cases hil : i < m
        · obtain ⟨y, hy⟩ : ∃ y, ts[i]? = some y := ⟨_, List.getElem?_eq_getElem (by rw [HM.out]; exact hil)⟩
          have hdr : ts.drop i = y :: ts.drop (i + 1) := by
            obtain ⟨hlt', rfl⟩ := List.getElem?_eq_some_iff.1 hy
            exact List.drop_eq_getElem_cons hlt'
          have hd := HD.out
          rw [hdr, formedL] at hd
          have HBW := Lib.hid (Ext.trans' (bel1' w _) HB.out)
          obtain ⟨b, off, k', n', s', u', rfl, hbb, _, _, _, c0, c1, c2, c3, _, ht⟩ := (HU.out.ext HBW.out).get hy
          have ih := IH.out y (List.mem_of_getElem? hy) wr _ ht
          clear hdr HD ht
          cases hq : formedT y
          · rw [hq, Bool.false_and] at hd
            rw [hq] at ih
            subst hd
            clear hq hy HR2
            (go_wp2_with fail; go_fit (ih); rintro e w2 ⟨rfl, b2⟩)
            have B2 := Lib.hid (Ext.trans' HBW.out b2)
            clear b2
            go_wp2
            go_ret
            exact ⟨rfl, B2.out⟩
          · rw [hq, Bool.true_and] at hd
            rw [hq] at ih
            have HD := Lib.hid hd
            clear hq hd hy
            (go_wp2_with fail; go_fit (ih); rintro e w2 ⟨rfl, b2⟩)
            have B2 := Lib.hid (Ext.trans' HB.out b2)
            clear b2
            go_wp2
            go_roundw
            case rel => exact ⟨i + 1, by omega, by go_num, HD, B2⟩
            case measure => simp [intOf]; omega
        · have hd := HD.out
          rw [List.drop_eq_nil_of_le (by rw [HM.out]; omega), formedL] at hd
          subst hd
          clear HR2 HD
          go_wp2
          go_ret
          exact ⟨rfl, Ext.trans' (bel1' w _) HB.out⟩
end Go.Proofs.YtljgkfdnmikpfaaGreatDoor
/- Terms: which the document's own calls good: all of it. -/
namespace Go.Proofs.YtljgkfdnmikpfaaGreatDoor
open Go.RowKit
set_option linter.unusedVariables false

set_option maxHeartbeats 4000000 in
set_option maxRecDepth 100000 in
theorem rformed_at : ∀ (N : Nat) (x : Tm), sizeN x ≤ N → ∀ (w : World) (v : Value), TmV w x v →
    Calls Tryz.prog 98 #[v] w fun e w' => e = .returned (.bool (formedT x)) ∧ Below w.heap.size w w'
  | 0, x, h, w, v, hv => by have := size_pos x; omega
  | N + 1, .mk k n s ts, h, w, v, hv => by
    obtain ⟨u, rfl, hs, hk, hn, hu⟩ := tmV_iff.1 hv
    obtain ⟨a, c, rfl, h1, h2, h3⟩ := hu.len
    unfold BIG at h3 hs
    obtain ⟨m, hm⟩ : ∃ m, ts.length = m := ⟨_, rfl⟩
    by_cases k0 : k = 0
    · subst k0
      have hp : plainT 0 n s.data.toList ts.length = (decide (0 ≤ n) && decide (n < 2147483648) && decide (s.size = 0) && decide (m = 0)) := by
        unfold plainT; rw [if_pos rfl, isEmpty_size, hm]
      by_cases g1 : 0 ≤ n
      · by_cases g2 : n < 2147483648
        · by_cases g3 : s.size = 0
          · have g3' := toList_empty g3
            by_cases g4 : m = 0
            · obtain rfl : ts = [] := List.length_eq_zero_iff.1 (by rw [hm, g4])
              rw [formed_leaf (by rw [List.length_nil] at hp; rw [hp]; simp [g1, g2, g3, g4])]
              rw [g4] at hm
              clear hp hv hu hm g3
              go_enter Tryz.func98, Tryz.ntmps98
              go_wp2
              go_ret
              exact ⟨rfl, bel1' _ _⟩
            · rw [formed_no (by rw [hp]; simp [g4])]
              have g4' : ((m : Int) == 0) = false := by apply beq_false_of_ne; omega
              rw [hm] at h1 h3 ⊢
              clear hp hv hu hm g3 h
              go_enter Tryz.func98, Tryz.ntmps98
              go_wp2
              go_ret
              exact ⟨rfl, bel1' _ _⟩
          · rw [formed_no (by rw [hp]; simp [g3])]
            have g3' := toList_some g3
            clear hp hv hu h
            go_enter Tryz.func98, Tryz.ntmps98
            go_wp2
            go_ret
            exact ⟨rfl, bel1' _ _⟩
        · rw [formed_no (by rw [hp]; simp [g2])]
          clear hp hv hu h
          go_enter Tryz.func98, Tryz.ntmps98
          go_wp2
          go_ret
          exact ⟨rfl, bel1' _ _⟩
      · rw [formed_no (by rw [hp]; simp [g1])]
        clear hp hv hu h
        go_enter Tryz.func98, Tryz.ntmps98
        go_wp2
        go_ret
        exact ⟨rfl, bel1' _ _⟩
    by_cases k1 : k = 1
    · subst k1
      have hp : plainT 1 n s.data.toList ts.length = (decide (s.size = 0) && decide (m = 0)) := by
        unfold plainT; rw [if_neg (by decide), if_pos rfl, isEmpty_size, hm]
      by_cases g3 : s.size = 0
      · have g3' := toList_empty g3
        by_cases g4 : m = 0
        · obtain rfl : ts = [] := List.length_eq_zero_iff.1 (by rw [hm, g4])
          rw [formed_leaf (by rw [List.length_nil] at hp; rw [hp]; simp [g3, g4])]
          clear hp hv hu hm g3
          go_enter Tryz.func98, Tryz.ntmps98
          go_wp2
          go_ret
          exact ⟨rfl, bel1' _ _⟩
        · rw [formed_no (by rw [hp]; simp [g4])]
          have g4' : ((m : Int) == 0) = false := by apply beq_false_of_ne; omega
          rw [hm] at h1 h3 ⊢
          clear hp hv hu hm g3 h
          go_enter Tryz.func98, Tryz.ntmps98
          go_wp2
          go_ret
          exact ⟨rfl, bel1' _ _⟩
      · rw [formed_no (by rw [hp]; simp [g3])]
        have g3' := toList_some g3
        clear hp hv hu h
        go_enter Tryz.func98, Tryz.ntmps98
        go_wp2
        go_ret
        exact ⟨rfl, bel1' _ _⟩
    have k0' : (k == 0) = false := beq_false_of_ne k0
    have k1' : (k == 1) = false := beq_false_of_ne k1
    by_cases k2 : k = 2
    · subst k2
      have hp : plainT 2 n s.data.toList ts.length = (decide (n = 0) && decide (s.size ≤ 64) && decide (m ≤ 8) && s.data.toList.all letterB) := by
        unfold plainT; rw [if_neg (by decide), if_neg (by decide), if_pos rfl, hm]; rfl
      by_cases g1 : n = 0
      · subst g1
        by_cases g2 : 64 < s.size
        · rw [formed_no (by rw [hp]; simp; omega)]
          clear hp hv hu h k0 k1 k0' k1'
          go_enter Tryz.func98, Tryz.ntmps98
          go_wp2
          go_ret
          exact ⟨rfl, bel1' _ _⟩
        · by_cases g3 : 8 < m
          · rw [formed_no (by rw [hp]; simp; omega)]
            rw [hm] at h1 h3 ⊢
            clear hp hv hu hm h k0 k1 k0' k1'
            go_enter Tryz.func98, Tryz.ntmps98
            go_wp2
            go_ret
            exact ⟨rfl, bel1' _ _⟩
          · have IH := Lib.hid (fun (y : Tm) (hy : y ∈ ts) => rformed_at N y (mem_size h hy))
            have HP := Lib.hid (show formedT (.mk 2 0 s ts) = (s.data.toList.all letterB && formedL ts) by
              rw [formed_mk, hp]
              have e1 : decide (s.size ≤ 64) = true := decide_eq_true (by omega)
              have e2 : decide (m ≤ 8) = true := decide_eq_true (by omega)
              rw [e1, e2]
              simp)
            rw [hm] at h1 h3 hu ⊢
            exact rformed_two hs h1 h2 h3 g2 g3 (Lib.hid hm) (Lib.hid hu) HP IH
      · rw [formed_no (by rw [hp]; simp [g1])]
        have g1' : (n == 0) = false := beq_false_of_ne g1
        clear hp hv hu h k0 k1 k0' k1'
        go_enter Tryz.func98, Tryz.ntmps98
        go_wp2
        go_ret
        exact ⟨rfl, bel1' _ _⟩
    · rw [formed_no (by unfold plainT; rw [if_neg k0, if_neg k1, if_neg k2])]
      have k2' : (k == 2) = false := beq_false_of_ne k2
      clear hv hu h k0 k1 k2
      go_enter Tryz.func98, Tryz.ntmps98
      go_wp2
      go_ret
      exact ⟨rfl, bel1' _ _⟩
theorem rgood_at (x : Tm) (w : World) (v : Value) (hv : TmV w x v) : Calls Tryz.prog 60 #[v] w fun e w' => e = .returned (.bool (goodT x)) ∧ Below w.heap.size w w' := by
  obtain ⟨k, n, s, ts, rfl⟩ : ∃ k n s ts, x = .mk k n s ts := by cases x; exact ⟨_, _, _, _, rfl⟩
  obtain ⟨u, rfl, _, _, _, _⟩ := tmV_iff.1 hv
  obtain ⟨x, hxe⟩ : ∃ x, Tm.mk k n s ts = x := ⟨_, rfl⟩
  rw [hxe] at hv ⊢
  clear hxe
  obtain ⟨v, hve⟩ : ∃ v, Value.agg #[.int .i64 k, .int .i64 n, .string s, u] = v := ⟨_, rfl⟩
  have S := fun w (h : TmV w x v) => rsize_at _ x (Nat.le_refl _) 2000 (by omega) w v h
  have D := fun w (h : TmV w x v) => rdepth_at 64 x (by omega) w v h
  have F := fun w (h : TmV w x v) => rformed_at _ x (Nat.le_refl _) w v h
  rw [← hve] at S D F
  subst hve
  have hg : goodT x = (decide (sizeN x ≤ 2000) && decide (depthN x ≤ 64) && formedT x) := rfl
  have HG := Lib.hid hg
  clear hg
  generalize formedT x = f at F HG
  obtain ⟨p, hp⟩ : ∃ p, min (sizeN x) (2000 + 1) = p := ⟨_, rfl⟩
  obtain ⟨q, hq⟩ : ∃ q, min (depthN x) (64 + 1) = q := ⟨_, rfl⟩
  rw [hp] at S
  rw [hq] at D
  have hP := Lib.hid (show (sizeN x ≤ 2000) ↔ p ≤ 2000 by omega)
  have hQ := Lib.hid (show (depthN x ≤ 64) ↔ q ≤ 64 by omega)
  clear hp hq
  by_cases h1 : p ≤ 2000
  · by_cases h2 : q ≤ 64
    · have hr : goodT x = f := by rw [HG.out, decide_eq_true (hP.out.2 h1), decide_eq_true (hQ.out.2 h2)]; rfl
      rw [hr]
      clear hr HG hP hQ
      go_enter Tryz.func60, Tryz.ntmps60
      have hv0 := TmV.ext (bel1' w (.cells #[.int .i64 k, .int .i64 n, .string s, u] 66)) _ _ hv
      (go_wp2_with fail; go_fit (S _ hv0); rintro e w1 ⟨rfl, b1⟩)
      obtain ⟨e0, e1, e2, e3⟩ := box_cells w 66 _ _ _ _ b1
      have hv1 := TmV.ext b1 _ _ hv0
      (go_wp2_with fail; go_fit (D _ hv1); rintro e w2 ⟨rfl, b2⟩)
      have e0 := cell_later b2 e0
      have e1 := cell_later b2 e1
      have e2 := cell_later b2 e2
      have e3 := cell_later b2 e3
      (go_wp2_with fail; go_fit (F _ (TmV.ext b2 _ _ hv1)); rintro e w3 ⟨rfl, b3⟩)
      have B3 := Lib.hid (Ext.trans' (bel1' w _) (Ext.trans' b1 (Ext.trans' b2 b3)))
      clear b1 b2 b3
      go_wp2
      go_ret
      exact ⟨rfl, B3.out⟩
    · have hr : goodT x = false := by rw [HG.out, decide_eq_false (fun h => h2 (hQ.out.1 h))]; simp
      rw [hr]
      clear hr HG hP hQ
      go_enter Tryz.func60, Tryz.ntmps60
      have hv0 := TmV.ext (bel1' w (.cells #[.int .i64 k, .int .i64 n, .string s, u] 66)) _ _ hv
      (go_wp2_with fail; go_fit (S _ hv0); rintro e w1 ⟨rfl, b1⟩)
      obtain ⟨e0, e1, e2, e3⟩ := box_cells w 66 _ _ _ _ b1
      have hv1 := TmV.ext b1 _ _ hv0
      (go_wp2_with fail; go_fit (D _ hv1); rintro e w2 ⟨rfl, b2⟩)
      have e0 := cell_later b2 e0
      have e1 := cell_later b2 e1
      have e2 := cell_later b2 e2
      have e3 := cell_later b2 e3
      have B3 := Lib.hid (Ext.trans' (bel1' w _) (Ext.trans' b1 b2))
      clear b1 b2
      go_wp2
      go_ret
      exact ⟨rfl, B3.out⟩
  · have hr : goodT x = false := by rw [HG.out, decide_eq_false (fun h => h1 (hP.out.1 h))]; rfl
    rw [hr]
    clear hr HG hP hQ
    go_enter Tryz.func60, Tryz.ntmps60
    have hv0 := TmV.ext (bel1' w (.cells #[.int .i64 k, .int .i64 n, .string s, u] 66)) _ _ hv
    (go_wp2_with fail; go_fit (S _ hv0); rintro e w1 ⟨rfl, b1⟩)
    obtain ⟨e0, e1, e2, e3⟩ := box_cells w 66 _ _ _ _ b1
    have B3 := Lib.hid (Ext.trans' (bel1' w _) b1)
    clear b1
    go_wp2
    go_ret
    exact ⟨rfl, B3.out⟩
end Go.Proofs.YtljgkfdnmikpfaaGreatDoor
