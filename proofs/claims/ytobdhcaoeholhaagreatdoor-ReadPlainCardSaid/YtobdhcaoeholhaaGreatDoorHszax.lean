import Derived.Test.YtobdhcaoeholhaaGreatDoorHszaw
set_option linter.unusedVariables false
set_option linter.unusedSimpArgs false
/- The document's reader: primary. (gen_rp13.py) -/
namespace Go.Proofs.YtobdhcaoeholhaaGreatDoor
open Go.Shelf Go.RowKit
set_option linter.unusedVariables false

/-- The reader whatever stands in its cells 1 to 4. -/
structure Sz (D M : Nat → Bool) (w : World) (rb : Nat) (xs : List O) (b : Bool) : Prop where
  mb : M rb = true
  md : ∀ k, M k = true → D k = true
  old : Old D w
  co : ∃ vo, w.cell? ⟨rb, 0, none⟩ = some vo ∧ Ops (hide D w) vo xs
  c5 : w.cell? ⟨rb, 5, none⟩ = some (.bool b)
  fz : ∀ j, w.frozen? ⟨rb, j, none⟩ = false
section
variable {D M : Nat → Bool} {w w' : World} {rb : Nat} {xs : List O} {L : List TokP} {o : Option RS} {b : Bool}
theorem Sd.sz (h : Sd D M w rb xs L o) : Sz D M w rb xs o.isNone := ⟨h.mb, h.md, h.old, h.co, h.c5, h.fz⟩
theorem Sz.lt (h : Sz D M w rb xs b) : rb < w.heap.size := World.block_lt_of_cell? _ _ h.c5
theorem Sz.out (h : Sz D M w rb xs b) {k : Nat} (hk : w.heap.size ≤ k) : M k = false := by
  cases hm : M k with
  | false => rfl
  | true => have := h.md k hm; rw [h.old k hk] at this; cases this
theorem Sz.set (h : Sz D M w rb xs b) (u : Value) : Sz D M (w.setCell ⟨rb, 2, none⟩ u) rb xs b := by
  obtain ⟨vo, o1, o2⟩ := h.co
  exact ⟨h.mb, h.md, h.old.mono (by simp [World.setCell]), ⟨vo, by rw [near_cell (by decide)]; exact o1, Elems.stay o2 (Stays.set _ _ (h.md rb h.mb))⟩, by rw [near_cell (by decide)]; exact h.c5, fun j => by rw [World.frozen?_setCell]; exact h.fz j⟩
theorem Sz.box (h : Sz D M w rb xs b) (hb : Below w.heap.size w w') {c : Nat} (h1 : w.heap.size ≤ c) (h2 : c < w'.heap.size) : Sz (plusB D c) M w' rb xs b := by
  obtain ⟨vo, o1, o2⟩ := h.co
  have hr : w'.heap[rb]? = w.heap[rb]? := hb.block rb h.lt
  exact ⟨h.mb, fun k hm => plusB_of (h.md k hm), fun k hk => (plusB_ne (by omega)).trans (h.old k (Nat.le_trans hb.size hk)), ⟨vo, by rw [World.cell?_of_block hr]; exact o1, Elems.stay o2 (Stays.below hb fun k hk hd => (plusB_ne (by omega)).trans hd)⟩, by rw [World.cell?_of_block hr]; exact h.c5, fun j => by rw [World.frozen?_of_block hr]; exact h.fz j⟩
theorem Sz.failed (h : Sz D M w rb xs b) : Sd D M (w.setCell ⟨rb, 5, none⟩ (.bool true)) rb xs L none := by
  obtain ⟨vo, o1, o2⟩ := h.co
  exact { mb := h.mb, md := h.md, old := h.old.mono (by simp [World.setCell]), co := ⟨vo, by rw [near_cell (by decide)]; exact o1, Elems.stay o2 (Stays.set _ _ (h.md rb h.mb))⟩, c5 := css h.c5, fz := fun j => by rw [World.frozen?_setCell]; exact h.fz j, good := fun s hs => by cases hs }
end
set_option maxHeartbeats 2000000 in
theorem dfail_sz {D M : Nat → Bool} {w : World} {rb : Nat} {xs : List O} {L : List TokP} {b : Bool} (h : Sz D M w rb xs b) :
    Calls Tryz.prog 119 #[.pointer (some ⟨rb, 0, none⟩)] w fun e w' => e = .returned (.tuple #[zVal, .int .i64 0]) ∧ Sd D M w' rb xs L none ∧ Turn D M D M w w' := by
  obtain ⟨w1, hw1, hb1, hz1, hx1⟩ := box_new w #[.int .i64 0, .int .i64 0, .string ⟨#[]⟩, .slice none 0 0] 66
  obtain ⟨r0, r1, r2, r3, rf⟩ := hx1.four
  have hlt := h.lt
  have hn : rb ≠ w.heap.size := by omega
  have h1 := h.box hb1 (Nat.le_refl _) hx1.lt
  have c5 := h1.c5
  have hf := h1.fz
  have hmB := Lib.hid (h.out (Nat.le_refl _))
  have H1 := Lib.hid (h1.failed (L := L))
  have HMD := Lib.hid h.md
  have HMB := Lib.hid h.mb
  have HOD := Lib.hid h.old
  have HT := Lib.hid ((Turn.below (D := D) (M := M) hb1).set ⟨rb, 5, none⟩ (.bool true) (Or.inr h.mb))
  clear h h1 hb1 hz1 hx1
  go_enter Tryz.func119, Tryz.ntmps119
  go_wp2_with fail
  (try rw [hw1])
  clear hw1
  go_wp2
  have hT := HT.out.set4 (b := w.heap.size) (Or.inl (Nat.le_refl _)) (.int .i64 0) (.int .i64 0) (.string ⟨#[]⟩) (.slice none 0 0)
  refine bodyPost_ret (v := .tuple #[zVal, .int .i64 0]) (by rw [results_cell2' rfl]; go_simp; (try rfl)) rfl ⟨rfl, ?_, hT⟩
  exact ((H1.out.put4 (plusB_self D _) hmB.out (.int .i64 0) (.int .i64 0) (.string ⟨#[]⟩) (.slice none 0 0)).unbox HMD.out (HOD.out.mono hT.size))
theorem dname_at {xs : List O} {L : List TokP} {n : Nat} (hL : WfL L) (hg : goodB xs = true) (ih : IHD xs L n) {D M : Nat → Bool} {w : World} {rb : Nat} {s : RS} (h : Sd D M w rb xs L (some s)) (hlt : s.rest.length < n) {q : TokP} (htk : tokOk q) {most : Int} (hmost : 0 ≤ most) (hk : q.1.kind = 1 ∨ q.1.kind = 2) (hop : q.1.opens = false) :
    Calls Tryz.prog 163 #[.pointer (some ⟨rb, 0, none⟩), tkVal q, .int .i64 most] w (RPost D M w rb xs L (namedR (preO xs) (betO xs) (TERMX xs) q most s)) := by
  cases hmi : isMinusR q (headR s) with
  | true => exact dname_minus hL hg ih h hlt htk hmi
  | false =>
    rcases hk with hk | hk
    · exact dname_one hL hg ih h hlt htk hk hop hmi
    · exact dname_quoted hL hg ih h hlt htk hmost hk hop
set_option maxHeartbeats 4000000 in
set_option maxRecDepth 100000 in
theorem dprim_int {xs : List O} {L : List TokP} {n : Nat} (hL : WfL L) (hg : goodB xs = true) (ih : IHD xs L n) {D M : Nat → Bool} {w : World} {rb : Nat} {s : RS} (h : Sd D M w rb xs L (some s)) (hlt : s.rest.length < n + 1) {most : Int} (hmost : 0 ≤ most) {x : TokP} (hx : headR s = x) (hk : x.1.kind = 4) :
    Calls Tryz.prog 115 #[.pointer (some ⟨rb, 0, none⟩), .int .i64 most] w (RPost D M w rb xs L (primR (preO xs) (betO xs) (TERMX xs) most s)) := by
  obtain ⟨X, hX⟩ : ∃ X, primR (preO xs) (betO xs) (TERMX xs) most s = X := ⟨_, rfl⟩
  rw [hX]
  obtain ⟨w1, hw1, hb1, hz1, hx1⟩ := box_new w #[.int .i64 0, .int .i64 0, .string ⟨#[]⟩, .slice none 0 0] 66
  have h1 := h.box hb1 (Nat.le_refl _) hx1.lt
  have HMd := Lib.hid h.md
  have HMRB := Lib.hid h.mb
  have HMB := Lib.hid (h.out (Nat.le_refl _))
  have HT1 := Lib.hid (Turn.into (D := D) (M := M) hb1 (Nat.le_refl _))
  have HX1 := Lib.hid hx1
  have HS1 := Lib.hid h1
  have HLL := Lib.hid hL
  have HGG := Lib.hid hg
  have HIH := Lib.hid ih
  have HMO := Lib.hid hmost
  have HP := Lib.hid (dpeek_at hL h1)
  rw [hx] at HP
  have htx := h.gd.nice.head
  rw [hx] at htx
  have HTX := Lib.hid htx
  have HNI := Lib.hid h.gd.nice
  have HHX := Lib.hid hx
  have hkz : x.1.kind ≠ 0 := by omega
  have hne : s.rest ≠ [] := head_ne (by rw [hx]; exact hkz)
  have HNE := Lib.hid hne
  have HLT := Lib.hid (show (dropR s).rest.length < n by have := dropS_lt hne; omega)
  have k4 : ((x.1.kind : Int) == 4) = true := by rw [hk]; rfl
  have HN := Lib.hid (show X = some ((iT (x.1.n : Int), 0), dropR s) by rw [← hX]; unfold primR; rw [hx, hk]; rfl)
  clear h h1 hX hx hx1 hb1 hz1 hL hg ih hlt htx hmost hk
  go_enter Tryz.func115, Tryz.ntmps115
  go_wp2_with fail
  (try rw [hw1])
  clear hw1
  (go_wp2_with fail; go_fit (HP.out); rintro e w2 ⟨rfl, hb2⟩)
  obtain ⟨w3, hw3, hb3, hz3, hx3⟩ := box_new w2 #[.int .i64 (x.1.kind : Int), .string ⟨x.1.text.toArray⟩, .int .i64 (x.1.n : Int), .bool x.1.opens, .int .i64 (x.2 : Int)] 138
  have hb13 := Ext.trans' hb2 hb3
  have hT2 : w1.heap.size ≤ w2.heap.size := hb2.size
  have HS3 := Lib.hid (HS1.out.box hb13 hT2 hx3.lt)
  have HT3 := Lib.hid (HT1.out.into2 hb13 hT2)
  have HXB3 := Lib.hid (HX1.out.ext hb13)
  have HXQ3 := Lib.hid hx3
  have HDB3 := Lib.hid (plusB_of (b := w2.heap.size) (plusB_self D w.heap.size))
  have hrb := HS3.out.lt
  have hM2 : M w2.heap.size = false := okd_out HS1.out.okd hT2
  have hnRB : rb ≠ w.heap.size := fun e => by have := HS3.out.mb; rw [e, HMB.out] at this; cases this
  have hnRQ : rb ≠ w2.heap.size := fun e => by have := HS3.out.mb; rw [e, hM2] at this; cases this
  have hnBQ : w.heap.size ≠ w2.heap.size := by have := HX1.out.lt; omega
  have HMQ := Lib.hid hM2
  obtain ⟨D3, hD3⟩ : ∃ D3, plusB (plusB D w.heap.size) w2.heap.size = D3 := ⟨_, rfl⟩
  rw [hD3] at HS3 HT3 HDB3
  obtain ⟨_, _, _, a, _, _, c2, _, _, _, fz, _, _, _, _, hr, hal⟩ := HS3.out.parts
  have hLl := HLL.out.1
  have hwa : IntKind.i64.wrap ((a : Int) + 1) = (a : Int) + 1 := by rw [IntKind.wrap_i64]; omega
  have ha2 : a < L.length := by
    rcases Nat.lt_or_ge a L.length with hh | hh
    · exact hh
    · exfalso
      have h0 := dhead_at hr
      rw [HHX.out, List.getElem?_eq_none hh] at h0
      rw [h0] at hkz
      exact hkz rfl
  have HS4 := Lib.hid (HS3.out.pass c2 (by omega))
  have HRA := Lib.hid (show L[a]? = some x from by
    have h0 := dhead_at hr
    rw [HHX.out, List.getElem?_eq_getElem ha2] at h0
    rw [List.getElem?_eq_getElem ha2]; exact congrArg some h0.symm)
  have HRD := Lib.hid (show (dropR s).rest = L.drop (a + 1) by show s.rest.tail = _; rw [hr, drop_tail])
  have HT4 := Lib.hid (HT3.out.set ⟨rb, 2, none⟩ (.int .i64 ((a : Int) + 1)) (Or.inr HMRB.out))
  have HXB4 := Lib.hid (HXB3.out.far (c := rb) (k := 2) (u := .int .i64 ((a : Int) + 1)) (Ne.symm hnRB))
  have HXQ4 := Lib.hid (HXQ3.out.far (c := rb) (k := 2) (u := .int .i64 ((a : Int) + 1)) (Ne.symm hnRQ))
  have HDB4 := HDB3
  have HMB4 := HMB
  clear hb2 hb3 hb13 hz3 hx3 HP hD3 hM2 HX1 HS1 hr hal hkz ha2 hne
  obtain ⟨b0, b1, b2, b3, bf⟩ := HXB4.out.four
  obtain ⟨q0, q1, q2, q3, q4, qf⟩ := HXQ4.out.five
  go_wp2_with fail
  (try rw [hw3])
  clear hw3
  go_wp2
  refine bodyPost_ret (v := .tuple #[.agg #[.int .i64 1, .int .i64 (x.1.n : Int), .string ⟨#[]⟩, .slice none 0 0], .int .i64 0]) (by rw [results_cell2' rfl]; go_simp) rfl ?_
  exact rgave HN.out HT4.out HS4.out HMd.out (Nat.le_refl _) HDB4.out HMB4.out (leaf_tm _ i64_1 (by unfold I64; have := HTX.out.1; omega) (by unfold BIG; decide))
set_option maxHeartbeats 4000000 in
set_option maxRecDepth 100000 in
theorem dprim_var {xs : List O} {L : List TokP} {n : Nat} (hL : WfL L) (hg : goodB xs = true) (ih : IHD xs L n) {D M : Nat → Bool} {w : World} {rb : Nat} {s : RS} (h : Sd D M w rb xs L (some s)) (hlt : s.rest.length < n + 1) {most : Int} (hmost : 0 ≤ most) {x : TokP} (hx : headR s = x) (hk : x.1.kind = 3) :
    Calls Tryz.prog 115 #[.pointer (some ⟨rb, 0, none⟩), .int .i64 most] w (RPost D M w rb xs L (primR (preO xs) (betO xs) (TERMX xs) most s)) := by
  obtain ⟨X, hX⟩ : ∃ X, primR (preO xs) (betO xs) (TERMX xs) most s = X := ⟨_, rfl⟩
  rw [hX]
  obtain ⟨w1, hw1, hb1, hz1, hx1⟩ := box_new w #[.int .i64 0, .int .i64 0, .string ⟨#[]⟩, .slice none 0 0] 66
  have h1 := h.box hb1 (Nat.le_refl _) hx1.lt
  have HMd := Lib.hid h.md
  have HMRB := Lib.hid h.mb
  have HMB := Lib.hid (h.out (Nat.le_refl _))
  have HT1 := Lib.hid (Turn.into (D := D) (M := M) hb1 (Nat.le_refl _))
  have HX1 := Lib.hid hx1
  have HS1 := Lib.hid h1
  have HLL := Lib.hid hL
  have HGG := Lib.hid hg
  have HIH := Lib.hid ih
  have HMO := Lib.hid hmost
  have HP := Lib.hid (dpeek_at hL h1)
  rw [hx] at HP
  have htx := h.gd.nice.head
  rw [hx] at htx
  have HTX := Lib.hid htx
  have HNI := Lib.hid h.gd.nice
  have HHX := Lib.hid hx
  have hkz : x.1.kind ≠ 0 := by omega
  have hne : s.rest ≠ [] := head_ne (by rw [hx]; exact hkz)
  have HNE := Lib.hid hne
  have HLT := Lib.hid (show (dropR s).rest.length < n by have := dropS_lt hne; omega)
  have k4 : ((x.1.kind : Int) == 4) = false := beq_false_of_ne (by omega)
  have k3 : ((x.1.kind : Int) == 3) = true := by rw [hk]; rfl
  have HN := Lib.hid (show X = some (((varR x.1.text (dropR s)).1, 0), (varR x.1.text (dropR s)).2) by rw [← hX]; unfold primR; rw [hx, hk]; rfl)
  clear h h1 hX hx hx1 hb1 hz1 hL hg ih hlt htx hmost hk
  go_enter Tryz.func115, Tryz.ntmps115
  go_wp2_with fail
  (try rw [hw1])
  clear hw1
  (go_wp2_with fail; go_fit (HP.out); rintro e w2 ⟨rfl, hb2⟩)
  obtain ⟨w3, hw3, hb3, hz3, hx3⟩ := box_new w2 #[.int .i64 (x.1.kind : Int), .string ⟨x.1.text.toArray⟩, .int .i64 (x.1.n : Int), .bool x.1.opens, .int .i64 (x.2 : Int)] 138
  have hb13 := Ext.trans' hb2 hb3
  have hT2 : w1.heap.size ≤ w2.heap.size := hb2.size
  have HS3 := Lib.hid (HS1.out.box hb13 hT2 hx3.lt)
  have HT3 := Lib.hid (HT1.out.into2 hb13 hT2)
  have HXB3 := Lib.hid (HX1.out.ext hb13)
  have HXQ3 := Lib.hid hx3
  have HDB3 := Lib.hid (plusB_of (b := w2.heap.size) (plusB_self D w.heap.size))
  have hrb := HS3.out.lt
  have hM2 : M w2.heap.size = false := okd_out HS1.out.okd hT2
  have hnRB : rb ≠ w.heap.size := fun e => by have := HS3.out.mb; rw [e, HMB.out] at this; cases this
  have hnRQ : rb ≠ w2.heap.size := fun e => by have := HS3.out.mb; rw [e, hM2] at this; cases this
  have hnBQ : w.heap.size ≠ w2.heap.size := by have := HX1.out.lt; omega
  have HMQ := Lib.hid hM2
  obtain ⟨D3, hD3⟩ : ∃ D3, plusB (plusB D w.heap.size) w2.heap.size = D3 := ⟨_, rfl⟩
  rw [hD3] at HS3 HT3 HDB3
  obtain ⟨_, _, _, a, _, _, c2, _, _, _, fz, _, _, _, _, hr, hal⟩ := HS3.out.parts
  have hLl := HLL.out.1
  have hwa : IntKind.i64.wrap ((a : Int) + 1) = (a : Int) + 1 := by rw [IntKind.wrap_i64]; omega
  have ha2 : a < L.length := by
    rcases Nat.lt_or_ge a L.length with hh | hh
    · exact hh
    · exfalso
      have h0 := dhead_at hr
      rw [HHX.out, List.getElem?_eq_none hh] at h0
      rw [h0] at hkz
      exact hkz rfl
  have HS4 := Lib.hid (HS3.out.pass c2 (by omega))
  have HRA := Lib.hid (show L[a]? = some x from by
    have h0 := dhead_at hr
    rw [HHX.out, List.getElem?_eq_getElem ha2] at h0
    rw [List.getElem?_eq_getElem ha2]; exact congrArg some h0.symm)
  have HRD := Lib.hid (show (dropR s).rest = L.drop (a + 1) by show s.rest.tail = _; rw [hr, drop_tail])
  have HT4 := Lib.hid (HT3.out.set ⟨rb, 2, none⟩ (.int .i64 ((a : Int) + 1)) (Or.inr HMRB.out))
  have HXB4 := Lib.hid (HXB3.out.far (c := rb) (k := 2) (u := .int .i64 ((a : Int) + 1)) (Ne.symm hnRB))
  have HXQ4 := Lib.hid (HXQ3.out.far (c := rb) (k := 2) (u := .int .i64 ((a : Int) + 1)) (Ne.symm hnRQ))
  have HDB4 := HDB3
  have HMB4 := HMB
  clear hb2 hb3 hb13 hz3 hx3 HP hD3 hM2 HX1 HS1 hr hal hkz ha2 hne
  obtain ⟨b0, b1, b2, b3, bf⟩ := HXB4.out.four
  obtain ⟨q0, q1, q2, q3, q4, qf⟩ := HXQ4.out.five
  go_wp2_with fail
  (try rw [hw3])
  clear hw3
  have HVA := Lib.hid (dvariable_at HS4.out x.1.text (Nice.var _ HS4.out.gd.nice HNE.out HNI.out))
  (go_wp2_with fail; go_fit (HVA.out); rintro e w5 ⟨nv, ev, hnv, D5, M5, rfl, hs5, ht5⟩)
  have HDB5 := Lib.hid ((ht5.dd _ HXB4.out.lt).trans HDB4.out)
  have HMB5 := Lib.hid ((ht5.mm _ HXB4.out.lt).trans HMB4.out)
  obtain ⟨b0, b1, b2, b3, bf⟩ := (HXB4.out.turn ht5 HMB4.out).four
  have HT5 := Lib.hid (HT4.out.trans ht5)
  have HS5 := Lib.hid hs5
  have hn := HN.out
  rw [ev] at hn
  have HN := Lib.hid hn
  have HNV := Lib.hid hnv
  clear hs5 ht5 hn ev hnv HVA
  go_wp2
  refine bodyPost_ret (v := .tuple #[.agg #[.int .i64 0, .int .i64 (nv : Int), .string ⟨#[]⟩, .slice none 0 0], .int .i64 0]) (by rw [results_cell2' rfl]; go_simp) rfl ?_
  exact rgave HN.out HT5.out HS5.out HMd.out (Nat.le_refl _) HDB5.out HMB5.out (vT_at _ nv (by have := HNV.out; omega))
set_option maxHeartbeats 4000000 in
set_option maxRecDepth 100000 in
theorem dprim_mark {xs : List O} {L : List TokP} {n : Nat} (hL : WfL L) (hg : goodB xs = true) (ih : IHD xs L n) {D M : Nat → Bool} {w : World} {rb : Nat} {s : RS} (h : Sd D M w rb xs L (some s)) (hlt : s.rest.length < n + 1) {most : Int} (hmost : 0 ≤ most) {x : TokP} (hx : headR s = x) (hk : x.1.kind = 5) :
    Calls Tryz.prog 115 #[.pointer (some ⟨rb, 0, none⟩), .int .i64 most] w (RPost D M w rb xs L (primR (preO xs) (betO xs) (TERMX xs) most s)) := by
  obtain ⟨X, hX⟩ : ∃ X, primR (preO xs) (betO xs) (TERMX xs) most s = X := ⟨_, rfl⟩
  rw [hX]
  obtain ⟨w1, hw1, hb1, hz1, hx1⟩ := box_new w #[.int .i64 0, .int .i64 0, .string ⟨#[]⟩, .slice none 0 0] 66
  have h1 := h.box hb1 (Nat.le_refl _) hx1.lt
  have HMd := Lib.hid h.md
  have HMRB := Lib.hid h.mb
  have HMB := Lib.hid (h.out (Nat.le_refl _))
  have HT1 := Lib.hid (Turn.into (D := D) (M := M) hb1 (Nat.le_refl _))
  have HX1 := Lib.hid hx1
  have HS1 := Lib.hid h1
  have HLL := Lib.hid hL
  have HGG := Lib.hid hg
  have HIH := Lib.hid ih
  have HMO := Lib.hid hmost
  have HP := Lib.hid (dpeek_at hL h1)
  rw [hx] at HP
  have htx := h.gd.nice.head
  rw [hx] at htx
  have HTX := Lib.hid htx
  have HNI := Lib.hid h.gd.nice
  have HHX := Lib.hid hx
  have hkz : x.1.kind ≠ 0 := by omega
  have hne : s.rest ≠ [] := head_ne (by rw [hx]; exact hkz)
  have HNE := Lib.hid hne
  have HLT := Lib.hid (show (dropR s).rest.length < n by have := dropS_lt hne; omega)
  have k4 : ((x.1.kind : Int) == 4) = false := beq_false_of_ne (by omega)
  have k3 : ((x.1.kind : Int) == 3) = false := beq_false_of_ne (by omega)
  have k5 : ((x.1.kind : Int) == 5) = true := by rw [hk]; rfl
  have HN := Lib.hid (show zeroR (bracketR (TERMX xs) x.1.text (dropR s)) = X by rw [← hX]; unfold primR; rw [hx, hk]; rfl)
  clear h h1 hX hx hx1 hb1 hz1 hL hg ih hlt htx hmost hk
  go_enter Tryz.func115, Tryz.ntmps115
  go_wp2_with fail
  (try rw [hw1])
  clear hw1
  (go_wp2_with fail; go_fit (HP.out); rintro e w2 ⟨rfl, hb2⟩)
  obtain ⟨w3, hw3, hb3, hz3, hx3⟩ := box_new w2 #[.int .i64 (x.1.kind : Int), .string ⟨x.1.text.toArray⟩, .int .i64 (x.1.n : Int), .bool x.1.opens, .int .i64 (x.2 : Int)] 138
  have hb13 := Ext.trans' hb2 hb3
  have hT2 : w1.heap.size ≤ w2.heap.size := hb2.size
  have HS3 := Lib.hid (HS1.out.box hb13 hT2 hx3.lt)
  have HT3 := Lib.hid (HT1.out.into2 hb13 hT2)
  have HXB3 := Lib.hid (HX1.out.ext hb13)
  have HXQ3 := Lib.hid hx3
  have HDB3 := Lib.hid (plusB_of (b := w2.heap.size) (plusB_self D w.heap.size))
  have hrb := HS3.out.lt
  have hM2 : M w2.heap.size = false := okd_out HS1.out.okd hT2
  have hnRB : rb ≠ w.heap.size := fun e => by have := HS3.out.mb; rw [e, HMB.out] at this; cases this
  have hnRQ : rb ≠ w2.heap.size := fun e => by have := HS3.out.mb; rw [e, hM2] at this; cases this
  have hnBQ : w.heap.size ≠ w2.heap.size := by have := HX1.out.lt; omega
  have HMQ := Lib.hid hM2
  obtain ⟨D3, hD3⟩ : ∃ D3, plusB (plusB D w.heap.size) w2.heap.size = D3 := ⟨_, rfl⟩
  rw [hD3] at HS3 HT3 HDB3
  obtain ⟨_, _, _, a, _, _, c2, _, _, _, fz, _, _, _, _, hr, hal⟩ := HS3.out.parts
  have hLl := HLL.out.1
  have hwa : IntKind.i64.wrap ((a : Int) + 1) = (a : Int) + 1 := by rw [IntKind.wrap_i64]; omega
  have ha2 : a < L.length := by
    rcases Nat.lt_or_ge a L.length with hh | hh
    · exact hh
    · exfalso
      have h0 := dhead_at hr
      rw [HHX.out, List.getElem?_eq_none hh] at h0
      rw [h0] at hkz
      exact hkz rfl
  have HS4 := Lib.hid (HS3.out.pass c2 (by omega))
  have HRA := Lib.hid (show L[a]? = some x from by
    have h0 := dhead_at hr
    rw [HHX.out, List.getElem?_eq_getElem ha2] at h0
    rw [List.getElem?_eq_getElem ha2]; exact congrArg some h0.symm)
  have HRD := Lib.hid (show (dropR s).rest = L.drop (a + 1) by show s.rest.tail = _; rw [hr, drop_tail])
  have HT4 := Lib.hid (HT3.out.set ⟨rb, 2, none⟩ (.int .i64 ((a : Int) + 1)) (Or.inr HMRB.out))
  have HXB4 := Lib.hid (HXB3.out.far (c := rb) (k := 2) (u := .int .i64 ((a : Int) + 1)) (Ne.symm hnRB))
  have HXQ4 := Lib.hid (HXQ3.out.far (c := rb) (k := 2) (u := .int .i64 ((a : Int) + 1)) (Ne.symm hnRQ))
  have HDB4 := HDB3
  have HMB4 := HMB
  clear hb2 hb3 hb13 hz3 hx3 HP hD3 hM2 HX1 HS1 hr hal hkz ha2 hne
  obtain ⟨b0, b1, b2, b3, bf⟩ := HXB4.out.four
  obtain ⟨q0, q1, q2, q3, q4, qf⟩ := HXQ4.out.five
  go_wp2_with fail
  (try rw [hw3])
  clear hw3
  have hbx := dbracket_at HLL.out HIH.out HS4.out HLT.out x.1.text
  rw [HN.out] at hbx
  have HBX := Lib.hid hbx
  clear hbx
  (go_wp2_with fail; go_fit (HBX.out); rintro e w5 ⟨D5, M5, t5, v5, lv5, rfl, htv, ht5, hs5, hx5⟩)
  obtain ⟨k5, n5, s5, a5, m5, c5, rfl⟩ := htv.full
  have HDB5 := Lib.hid ((ht5.dd _ HXB4.out.lt).trans HDB4.out)
  have HMB5 := Lib.hid ((ht5.mm _ HXB4.out.lt).trans HMB4.out)
  obtain ⟨b0, b1, b2, b3, bf⟩ := (HXB4.out.turn ht5 HMB4.out).four
  have HT5 := Lib.hid (HT4.out.trans ht5)
  have HS5 := Lib.hid hs5
  have HV5 := Lib.hid htv
  have HX5 := Lib.hid hx5
  clear hs5 ht5 htv hx5 HBX
  go_wp2
  refine bodyPost_ret (v := .tuple #[.agg #[.int .i64 k5, .int .i64 n5, .string s5, .slice a5 m5 c5], .int .i64 lv5]) (by rw [results_cell2' rfl]; go_simp) rfl ?_
  exact rdone HT5.out HS5.out HMd.out (Nat.le_refl _) HDB5.out HMB5.out HV5.out HX5.out
set_option maxHeartbeats 4000000 in
set_option maxRecDepth 100000 in
theorem dprim_name1 {xs : List O} {L : List TokP} {n : Nat} (hL : WfL L) (hg : goodB xs = true) (ih : IHD xs L n) {D M : Nat → Bool} {w : World} {rb : Nat} {s : RS} (h : Sd D M w rb xs L (some s)) (hlt : s.rest.length < n + 1) {most : Int} (hmost : 0 ≤ most) {x : TokP} (hx : headR s = x) (hk : x.1.kind = 1) (hop : x.1.opens = false) :
    Calls Tryz.prog 115 #[.pointer (some ⟨rb, 0, none⟩), .int .i64 most] w (RPost D M w rb xs L (primR (preO xs) (betO xs) (TERMX xs) most s)) := by
  obtain ⟨X, hX⟩ : ∃ X, primR (preO xs) (betO xs) (TERMX xs) most s = X := ⟨_, rfl⟩
  rw [hX]
  obtain ⟨w1, hw1, hb1, hz1, hx1⟩ := box_new w #[.int .i64 0, .int .i64 0, .string ⟨#[]⟩, .slice none 0 0] 66
  have h1 := h.box hb1 (Nat.le_refl _) hx1.lt
  have HMd := Lib.hid h.md
  have HMRB := Lib.hid h.mb
  have HMB := Lib.hid (h.out (Nat.le_refl _))
  have HT1 := Lib.hid (Turn.into (D := D) (M := M) hb1 (Nat.le_refl _))
  have HX1 := Lib.hid hx1
  have HS1 := Lib.hid h1
  have HLL := Lib.hid hL
  have HGG := Lib.hid hg
  have HIH := Lib.hid ih
  have HMO := Lib.hid hmost
  have HP := Lib.hid (dpeek_at hL h1)
  rw [hx] at HP
  have htx := h.gd.nice.head
  rw [hx] at htx
  have HTX := Lib.hid htx
  have HNI := Lib.hid h.gd.nice
  have HHX := Lib.hid hx
  have hkz : x.1.kind ≠ 0 := by omega
  have hne : s.rest ≠ [] := head_ne (by rw [hx]; exact hkz)
  have HNE := Lib.hid hne
  have HLT := Lib.hid (show (dropR s).rest.length < n by have := dropS_lt hne; omega)
  have k4 : ((x.1.kind : Int) == 4) = false := beq_false_of_ne (by omega)
  have k3 : ((x.1.kind : Int) == 3) = false := beq_false_of_ne (by omega)
  have k5 : ((x.1.kind : Int) == 5) = false := beq_false_of_ne (by omega)
  have k1 : ((x.1.kind : Int) == 1) = true := by rw [hk]; rfl
  have HN := Lib.hid (show namedR (preO xs) (betO xs) (TERMX xs) x most (dropR s) = X by rw [← hX]; unfold primR; rw [hx, if_pos (by omega)])
  have HK := Lib.hid (show x.1.kind = 1 ∨ x.1.kind = 2 by omega)
  have HOP := Lib.hid hop
  clear h h1 hX hx hx1 hb1 hz1 hL hg ih hlt htx hmost hk hop
  go_enter Tryz.func115, Tryz.ntmps115
  go_wp2_with fail
  (try rw [hw1])
  clear hw1
  (go_wp2_with fail; go_fit (HP.out); rintro e w2 ⟨rfl, hb2⟩)
  obtain ⟨w3, hw3, hb3, hz3, hx3⟩ := box_new w2 #[.int .i64 (x.1.kind : Int), .string ⟨x.1.text.toArray⟩, .int .i64 (x.1.n : Int), .bool x.1.opens, .int .i64 (x.2 : Int)] 138
  have hb13 := Ext.trans' hb2 hb3
  have hT2 : w1.heap.size ≤ w2.heap.size := hb2.size
  have HS3 := Lib.hid (HS1.out.box hb13 hT2 hx3.lt)
  have HT3 := Lib.hid (HT1.out.into2 hb13 hT2)
  have HXB3 := Lib.hid (HX1.out.ext hb13)
  have HXQ3 := Lib.hid hx3
  have HDB3 := Lib.hid (plusB_of (b := w2.heap.size) (plusB_self D w.heap.size))
  have hrb := HS3.out.lt
  have hM2 : M w2.heap.size = false := okd_out HS1.out.okd hT2
  have hnRB : rb ≠ w.heap.size := fun e => by have := HS3.out.mb; rw [e, HMB.out] at this; cases this
  have hnRQ : rb ≠ w2.heap.size := fun e => by have := HS3.out.mb; rw [e, hM2] at this; cases this
  have hnBQ : w.heap.size ≠ w2.heap.size := by have := HX1.out.lt; omega
  have HMQ := Lib.hid hM2
  obtain ⟨D3, hD3⟩ : ∃ D3, plusB (plusB D w.heap.size) w2.heap.size = D3 := ⟨_, rfl⟩
  rw [hD3] at HS3 HT3 HDB3
  obtain ⟨_, _, _, a, _, _, c2, _, _, _, fz, _, _, _, _, hr, hal⟩ := HS3.out.parts
  have hLl := HLL.out.1
  have hwa : IntKind.i64.wrap ((a : Int) + 1) = (a : Int) + 1 := by rw [IntKind.wrap_i64]; omega
  have ha2 : a < L.length := by
    rcases Nat.lt_or_ge a L.length with hh | hh
    · exact hh
    · exfalso
      have h0 := dhead_at hr
      rw [HHX.out, List.getElem?_eq_none hh] at h0
      rw [h0] at hkz
      exact hkz rfl
  have HS4 := Lib.hid (HS3.out.pass c2 (by omega))
  have HRA := Lib.hid (show L[a]? = some x from by
    have h0 := dhead_at hr
    rw [HHX.out, List.getElem?_eq_getElem ha2] at h0
    rw [List.getElem?_eq_getElem ha2]; exact congrArg some h0.symm)
  have HRD := Lib.hid (show (dropR s).rest = L.drop (a + 1) by show s.rest.tail = _; rw [hr, drop_tail])
  have HT4 := Lib.hid (HT3.out.set ⟨rb, 2, none⟩ (.int .i64 ((a : Int) + 1)) (Or.inr HMRB.out))
  have HXB4 := Lib.hid (HXB3.out.far (c := rb) (k := 2) (u := .int .i64 ((a : Int) + 1)) (Ne.symm hnRB))
  have HXQ4 := Lib.hid (HXQ3.out.far (c := rb) (k := 2) (u := .int .i64 ((a : Int) + 1)) (Ne.symm hnRQ))
  have HDB4 := HDB3
  have HMB4 := HMB
  clear hb2 hb3 hb13 hz3 hx3 HP hD3 hM2 HX1 HS1 hr hal hkz ha2 hne
  obtain ⟨b0, b1, b2, b3, bf⟩ := HXB4.out.four
  obtain ⟨q0, q1, q2, q3, q4, qf⟩ := HXQ4.out.five
  rw [HOP.out] at q3
  go_wp2_with fail
  (try rw [hw3])
  clear hw3
  have hbx := dname_at HLL.out HGG.out HIH.out HS4.out HLT.out HTX.out HMO.out HK.out HOP.out
  rw [HN.out] at hbx
  unfold tkVal at hbx
  rw [HOP.out] at hbx
  have HBX := Lib.hid hbx
  clear hbx
  (go_wp2_with fail; go_fit (HBX.out); rintro e w5 ⟨D5, M5, t5, v5, lv5, rfl, htv, ht5, hs5, hx5⟩)
  obtain ⟨k5, n5, s5, a5, m5, c5, rfl⟩ := htv.full
  have HDB5 := Lib.hid ((ht5.dd _ HXB4.out.lt).trans HDB4.out)
  have HMB5 := Lib.hid ((ht5.mm _ HXB4.out.lt).trans HMB4.out)
  obtain ⟨b0, b1, b2, b3, bf⟩ := (HXB4.out.turn ht5 HMB4.out).four
  have HT5 := Lib.hid (HT4.out.trans ht5)
  have HS5 := Lib.hid hs5
  have HV5 := Lib.hid htv
  have HX5 := Lib.hid hx5
  clear hs5 ht5 htv hx5 HBX
  go_wp2
  refine bodyPost_ret (v := .tuple #[.agg #[.int .i64 k5, .int .i64 n5, .string s5, .slice a5 m5 c5], .int .i64 lv5]) (by rw [results_cell2' rfl]; go_simp) rfl ?_
  exact rdone HT5.out HS5.out HMd.out (Nat.le_refl _) HDB5.out HMB5.out HV5.out HX5.out
set_option maxHeartbeats 4000000 in
set_option maxRecDepth 100000 in
theorem dprim_name2 {xs : List O} {L : List TokP} {n : Nat} (hL : WfL L) (hg : goodB xs = true) (ih : IHD xs L n) {D M : Nat → Bool} {w : World} {rb : Nat} {s : RS} (h : Sd D M w rb xs L (some s)) (hlt : s.rest.length < n + 1) {most : Int} (hmost : 0 ≤ most) {x : TokP} (hx : headR s = x) (hk : x.1.kind = 2) (hop : x.1.opens = false) :
    Calls Tryz.prog 115 #[.pointer (some ⟨rb, 0, none⟩), .int .i64 most] w (RPost D M w rb xs L (primR (preO xs) (betO xs) (TERMX xs) most s)) := by
  obtain ⟨X, hX⟩ : ∃ X, primR (preO xs) (betO xs) (TERMX xs) most s = X := ⟨_, rfl⟩
  rw [hX]
  obtain ⟨w1, hw1, hb1, hz1, hx1⟩ := box_new w #[.int .i64 0, .int .i64 0, .string ⟨#[]⟩, .slice none 0 0] 66
  have h1 := h.box hb1 (Nat.le_refl _) hx1.lt
  have HMd := Lib.hid h.md
  have HMRB := Lib.hid h.mb
  have HMB := Lib.hid (h.out (Nat.le_refl _))
  have HT1 := Lib.hid (Turn.into (D := D) (M := M) hb1 (Nat.le_refl _))
  have HX1 := Lib.hid hx1
  have HS1 := Lib.hid h1
  have HLL := Lib.hid hL
  have HGG := Lib.hid hg
  have HIH := Lib.hid ih
  have HMO := Lib.hid hmost
  have HP := Lib.hid (dpeek_at hL h1)
  rw [hx] at HP
  have htx := h.gd.nice.head
  rw [hx] at htx
  have HTX := Lib.hid htx
  have HNI := Lib.hid h.gd.nice
  have HHX := Lib.hid hx
  have hkz : x.1.kind ≠ 0 := by omega
  have hne : s.rest ≠ [] := head_ne (by rw [hx]; exact hkz)
  have HNE := Lib.hid hne
  have HLT := Lib.hid (show (dropR s).rest.length < n by have := dropS_lt hne; omega)
  have k4 : ((x.1.kind : Int) == 4) = false := beq_false_of_ne (by omega)
  have k3 : ((x.1.kind : Int) == 3) = false := beq_false_of_ne (by omega)
  have k5 : ((x.1.kind : Int) == 5) = false := beq_false_of_ne (by omega)
  have k1 : ((x.1.kind : Int) == 1) = false := beq_false_of_ne (by omega)
  have k2 : ((x.1.kind : Int) == 2) = true := by rw [hk]; rfl
  have HN := Lib.hid (show namedR (preO xs) (betO xs) (TERMX xs) x most (dropR s) = X by rw [← hX]; unfold primR; rw [hx, if_pos (by omega)])
  have HK := Lib.hid (show x.1.kind = 1 ∨ x.1.kind = 2 by omega)
  have HOP := Lib.hid hop
  clear h h1 hX hx hx1 hb1 hz1 hL hg ih hlt htx hmost hk hop
  go_enter Tryz.func115, Tryz.ntmps115
  go_wp2_with fail
  (try rw [hw1])
  clear hw1
  (go_wp2_with fail; go_fit (HP.out); rintro e w2 ⟨rfl, hb2⟩)
  obtain ⟨w3, hw3, hb3, hz3, hx3⟩ := box_new w2 #[.int .i64 (x.1.kind : Int), .string ⟨x.1.text.toArray⟩, .int .i64 (x.1.n : Int), .bool x.1.opens, .int .i64 (x.2 : Int)] 138
  have hb13 := Ext.trans' hb2 hb3
  have hT2 : w1.heap.size ≤ w2.heap.size := hb2.size
  have HS3 := Lib.hid (HS1.out.box hb13 hT2 hx3.lt)
  have HT3 := Lib.hid (HT1.out.into2 hb13 hT2)
  have HXB3 := Lib.hid (HX1.out.ext hb13)
  have HXQ3 := Lib.hid hx3
  have HDB3 := Lib.hid (plusB_of (b := w2.heap.size) (plusB_self D w.heap.size))
  have hrb := HS3.out.lt
  have hM2 : M w2.heap.size = false := okd_out HS1.out.okd hT2
  have hnRB : rb ≠ w.heap.size := fun e => by have := HS3.out.mb; rw [e, HMB.out] at this; cases this
  have hnRQ : rb ≠ w2.heap.size := fun e => by have := HS3.out.mb; rw [e, hM2] at this; cases this
  have hnBQ : w.heap.size ≠ w2.heap.size := by have := HX1.out.lt; omega
  have HMQ := Lib.hid hM2
  obtain ⟨D3, hD3⟩ : ∃ D3, plusB (plusB D w.heap.size) w2.heap.size = D3 := ⟨_, rfl⟩
  rw [hD3] at HS3 HT3 HDB3
  obtain ⟨_, _, _, a, _, _, c2, _, _, _, fz, _, _, _, _, hr, hal⟩ := HS3.out.parts
  have hLl := HLL.out.1
  have hwa : IntKind.i64.wrap ((a : Int) + 1) = (a : Int) + 1 := by rw [IntKind.wrap_i64]; omega
  have ha2 : a < L.length := by
    rcases Nat.lt_or_ge a L.length with hh | hh
    · exact hh
    · exfalso
      have h0 := dhead_at hr
      rw [HHX.out, List.getElem?_eq_none hh] at h0
      rw [h0] at hkz
      exact hkz rfl
  have HS4 := Lib.hid (HS3.out.pass c2 (by omega))
  have HRA := Lib.hid (show L[a]? = some x from by
    have h0 := dhead_at hr
    rw [HHX.out, List.getElem?_eq_getElem ha2] at h0
    rw [List.getElem?_eq_getElem ha2]; exact congrArg some h0.symm)
  have HRD := Lib.hid (show (dropR s).rest = L.drop (a + 1) by show s.rest.tail = _; rw [hr, drop_tail])
  have HT4 := Lib.hid (HT3.out.set ⟨rb, 2, none⟩ (.int .i64 ((a : Int) + 1)) (Or.inr HMRB.out))
  have HXB4 := Lib.hid (HXB3.out.far (c := rb) (k := 2) (u := .int .i64 ((a : Int) + 1)) (Ne.symm hnRB))
  have HXQ4 := Lib.hid (HXQ3.out.far (c := rb) (k := 2) (u := .int .i64 ((a : Int) + 1)) (Ne.symm hnRQ))
  have HDB4 := HDB3
  have HMB4 := HMB
  clear hb2 hb3 hb13 hz3 hx3 HP hD3 hM2 HX1 HS1 hr hal hkz ha2 hne
  obtain ⟨b0, b1, b2, b3, bf⟩ := HXB4.out.four
  obtain ⟨q0, q1, q2, q3, q4, qf⟩ := HXQ4.out.five
  rw [HOP.out] at q3
  go_wp2_with fail
  (try rw [hw3])
  clear hw3
  have hbx := dname_at HLL.out HGG.out HIH.out HS4.out HLT.out HTX.out HMO.out HK.out HOP.out
  rw [HN.out] at hbx
  unfold tkVal at hbx
  rw [HOP.out] at hbx
  have HBX := Lib.hid hbx
  clear hbx
  (go_wp2_with fail; go_fit (HBX.out); rintro e w5 ⟨D5, M5, t5, v5, lv5, rfl, htv, ht5, hs5, hx5⟩)
  obtain ⟨k5, n5, s5, a5, m5, c5, rfl⟩ := htv.full
  have HDB5 := Lib.hid ((ht5.dd _ HXB4.out.lt).trans HDB4.out)
  have HMB5 := Lib.hid ((ht5.mm _ HXB4.out.lt).trans HMB4.out)
  obtain ⟨b0, b1, b2, b3, bf⟩ := (HXB4.out.turn ht5 HMB4.out).four
  have HT5 := Lib.hid (HT4.out.trans ht5)
  have HS5 := Lib.hid hs5
  have HV5 := Lib.hid htv
  have HX5 := Lib.hid hx5
  clear hs5 ht5 htv hx5 HBX
  go_wp2
  refine bodyPost_ret (v := .tuple #[.agg #[.int .i64 k5, .int .i64 n5, .string s5, .slice a5 m5 c5], .int .i64 lv5]) (by rw [results_cell2' rfl]; go_simp) rfl ?_
  exact rdone HT5.out HS5.out HMd.out (Nat.le_refl _) HDB5.out HMB5.out HV5.out HX5.out
set_option maxHeartbeats 4000000 in
set_option maxRecDepth 100000 in
theorem dprim_args1 {xs : List O} {L : List TokP} {n : Nat} (hL : WfL L) (hg : goodB xs = true) (ih : IHD xs L n) {D M : Nat → Bool} {w : World} {rb : Nat} {s : RS} (h : Sd D M w rb xs L (some s)) (hlt : s.rest.length < n + 1) {most : Int} (hmost : 0 ≤ most) {x : TokP} (hx : headR s = x) (hk : x.1.kind = 1) (hop : x.1.opens = true) :
    Calls Tryz.prog 115 #[.pointer (some ⟨rb, 0, none⟩), .int .i64 most] w (RPost D M w rb xs L (primR (preO xs) (betO xs) (TERMX xs) most s)) := by
  obtain ⟨X, hX⟩ : ∃ X, primR (preO xs) (betO xs) (TERMX xs) most s = X := ⟨_, rfl⟩
  rw [hX]
  obtain ⟨w1, hw1, hb1, hz1, hx1⟩ := box_new w #[.int .i64 0, .int .i64 0, .string ⟨#[]⟩, .slice none 0 0] 66
  have h1 := h.box hb1 (Nat.le_refl _) hx1.lt
  have HMd := Lib.hid h.md
  have HMRB := Lib.hid h.mb
  have HMB := Lib.hid (h.out (Nat.le_refl _))
  have HT1 := Lib.hid (Turn.into (D := D) (M := M) hb1 (Nat.le_refl _))
  have HX1 := Lib.hid hx1
  have HS1 := Lib.hid h1
  have HLL := Lib.hid hL
  have HGG := Lib.hid hg
  have HIH := Lib.hid ih
  have HMO := Lib.hid hmost
  have HP := Lib.hid (dpeek_at hL h1)
  rw [hx] at HP
  have htx := h.gd.nice.head
  rw [hx] at htx
  have HTX := Lib.hid htx
  have HNI := Lib.hid h.gd.nice
  have HHX := Lib.hid hx
  have hkz : x.1.kind ≠ 0 := by omega
  have hne : s.rest ≠ [] := head_ne (by rw [hx]; exact hkz)
  have HNE := Lib.hid hne
  have HLT := Lib.hid (show (dropR s).rest.length < n by have := dropS_lt hne; omega)
  have k4 : ((x.1.kind : Int) == 4) = false := beq_false_of_ne (by omega)
  have k3 : ((x.1.kind : Int) == 3) = false := beq_false_of_ne (by omega)
  have k5 : ((x.1.kind : Int) == 5) = false := beq_false_of_ne (by omega)
  have k1 : ((x.1.kind : Int) == 1) = true := by rw [hk]; rfl
  have HN := Lib.hid (show namedR (preO xs) (betO xs) (TERMX xs) x most (dropR s) = X by rw [← hX]; unfold primR; rw [hx, if_pos (by omega)])
  have HOP := Lib.hid hop
  clear h h1 hX hx hx1 hb1 hz1 hL hg ih hlt htx hmost hk hop
  go_enter Tryz.func115, Tryz.ntmps115
  go_wp2_with fail
  (try rw [hw1])
  clear hw1
  (go_wp2_with fail; go_fit (HP.out); rintro e w2 ⟨rfl, hb2⟩)
  obtain ⟨w3, hw3, hb3, hz3, hx3⟩ := box_new w2 #[.int .i64 (x.1.kind : Int), .string ⟨x.1.text.toArray⟩, .int .i64 (x.1.n : Int), .bool x.1.opens, .int .i64 (x.2 : Int)] 138
  have hb13 := Ext.trans' hb2 hb3
  have hT2 : w1.heap.size ≤ w2.heap.size := hb2.size
  have HS3 := Lib.hid (HS1.out.box hb13 hT2 hx3.lt)
  have HT3 := Lib.hid (HT1.out.into2 hb13 hT2)
  have HXB3 := Lib.hid (HX1.out.ext hb13)
  have HXQ3 := Lib.hid hx3
  have HDB3 := Lib.hid (plusB_of (b := w2.heap.size) (plusB_self D w.heap.size))
  have hrb := HS3.out.lt
  have hM2 : M w2.heap.size = false := okd_out HS1.out.okd hT2
  have hnRB : rb ≠ w.heap.size := fun e => by have := HS3.out.mb; rw [e, HMB.out] at this; cases this
  have hnRQ : rb ≠ w2.heap.size := fun e => by have := HS3.out.mb; rw [e, hM2] at this; cases this
  have hnBQ : w.heap.size ≠ w2.heap.size := by have := HX1.out.lt; omega
  have HMQ := Lib.hid hM2
  obtain ⟨D3, hD3⟩ : ∃ D3, plusB (plusB D w.heap.size) w2.heap.size = D3 := ⟨_, rfl⟩
  rw [hD3] at HS3 HT3 HDB3
  obtain ⟨_, _, _, a, _, _, c2, _, _, _, fz, _, _, _, _, hr, hal⟩ := HS3.out.parts
  have hLl := HLL.out.1
  have hwa : IntKind.i64.wrap ((a : Int) + 1) = (a : Int) + 1 := by rw [IntKind.wrap_i64]; omega
  have ha2 : a < L.length := by
    rcases Nat.lt_or_ge a L.length with hh | hh
    · exact hh
    · exfalso
      have h0 := dhead_at hr
      rw [HHX.out, List.getElem?_eq_none hh] at h0
      rw [h0] at hkz
      exact hkz rfl
  have HS4 := Lib.hid (HS3.out.pass c2 (by omega))
  have HRA := Lib.hid (show L[a]? = some x from by
    have h0 := dhead_at hr
    rw [HHX.out, List.getElem?_eq_getElem ha2] at h0
    rw [List.getElem?_eq_getElem ha2]; exact congrArg some h0.symm)
  have HRD := Lib.hid (show (dropR s).rest = L.drop (a + 1) by show s.rest.tail = _; rw [hr, drop_tail])
  have HT4 := Lib.hid (HT3.out.set ⟨rb, 2, none⟩ (.int .i64 ((a : Int) + 1)) (Or.inr HMRB.out))
  have HXB4 := Lib.hid (HXB3.out.far (c := rb) (k := 2) (u := .int .i64 ((a : Int) + 1)) (Ne.symm hnRB))
  have HXQ4 := Lib.hid (HXQ3.out.far (c := rb) (k := 2) (u := .int .i64 ((a : Int) + 1)) (Ne.symm hnRQ))
  have HDB4 := HDB3
  have HMB4 := HMB
  clear hb2 hb3 hb13 hz3 hx3 HP hD3 hM2 HX1 HS1 hr hal hkz ha2 hne
  obtain ⟨b0, b1, b2, b3, bf⟩ := HXB4.out.four
  obtain ⟨q0, q1, q2, q3, q4, qf⟩ := HXQ4.out.five
  rw [HOP.out] at q3
  obtain ⟨r5, hr5, hrk⟩ := HLL.out.2.1 a x HRA.out HOP.out
  have hh5 : headR (dropR s) = r5 := by rw [dhead_at HRD.out, hr5]; rfl
  have hn2 : X = argsR (TERMX xs) x.1.text (dropR (dropR s)) := by
    rw [← HN.out]
    unfold namedR
    rw [if_neg (by unfold isMinusR; rw [hh5, hrk]; simp), HOP.out]
    rfl
  have HN2 := Lib.hid hn2
  have hal : a + 1 < L.length := (List.getElem?_eq_some_iff.1 hr5).1
  have HLT2 := Lib.hid (show (dropR (dropR s)).rest.length < n by have := dropS_le (dropR s); have := HLT.out; omega)
  have ea : ((a + 1 : Nat) : Int) = (a : Int) + 1 := by omega
  have hp5 := HS4.out.pass (a := a + 1) (by rw [ea]; exact css c2) (by omega)
  rw [ea] at hp5
  have hwa4 : IntKind.i64.wrap ((a : Int) + 1 + 1) = (a : Int) + 1 + 1 := by rw [IntKind.wrap_i64]; omega
  have HS5 := Lib.hid hp5
  have HT5 := Lib.hid (HT4.out.set ⟨rb, 2, none⟩ (.int .i64 ((a : Int) + 1 + 1)) (Or.inr HMRB.out))
  have HXB5 := Lib.hid (HXB4.out.far (c := rb) (k := 2) (u := .int .i64 ((a : Int) + 1 + 1)) (Ne.symm hnRB))
  have HXQ5 := Lib.hid (HXQ4.out.far (c := rb) (k := 2) (u := .int .i64 ((a : Int) + 1 + 1)) (Ne.symm hnRQ))
  clear hr5 hrk hh5 hn2 hal HN ea hp5 b0 b1 b2 b3 bf
  go_wp2_with fail
  (try rw [hw3])
  clear hw3
  have HI := Lib.hid (dargs_at HLL.out HIH.out HS5.out HLT2.out)
  (go_wp2_with fail; go_fit (HI.out); rintro e w6 ⟨D6, M6, l, v6, rfl, hl6, ht6, hs6, hx6⟩)
  obtain ⟨a6, c6, rfl, _⟩ := hl6.len
  obtain ⟨m6, hm6⟩ : ∃ m, l.length = m := ⟨_, rfl⟩
  rw [hm6] at hl6
  have HDB6 := Lib.hid ((ht6.dd _ HXB5.out.lt).trans HDB4.out)
  have HMB6 := Lib.hid ((ht6.mm _ HXB5.out.lt).trans HMB4.out)
  have HMQ6 := Lib.hid ((ht6.mm _ HXQ5.out.lt).trans HMQ.out)
  have HXB6 := Lib.hid (HXB5.out.turn ht6 HMB4.out)
  have HXQ6 := Lib.hid (HXQ5.out.turn ht6 HMQ.out)
  have HT6 := Lib.hid (HT5.out.trans ht6)
  have HL6 := Lib.hid hl6
  have HX6 := Lib.hid hx6
  have HS6 := Lib.hid hs6
  have c5 := hs6.c5
  obtain ⟨q0, q1, q2, q3, q4, qf⟩ := HXQ6.out.five
  rw [hm6]
  clear hl6 ht6 hs6 hx6 HI HS5 HT5 HXB5 HXQ5 c2 fz hm6
  cases hM : ITEMS (preO xs) (betO xs) (dropR (dropR s)) with
  | none =>
    rw [hM] at c5 HS6
    have HN := Lib.hid (HN2.out.trans (args_none hM))
    have hbad : ((none : Out (List Tm)).map (·.2)).isNone = true := rfl
    rw [hbad] at c5
    clear hbad hM
    have HFL := Lib.hid (dfail_at HS6.out)
    (go_wp2_with fail; go_fit (HFL.out); rintro e wf ⟨rfl, hsf, htf⟩)
    have HSF := Lib.hid hsf
    have HTF := Lib.hid (HT6.out.trans htf)
    have HXF := Lib.hid (HXB6.out.turn htf HMB6.out)
    obtain ⟨b0, b1, b2, b3, bf⟩ := HXF.out.four
    clear hsf htf
    go_wp2
    refine bodyPost_ret (v := .tuple #[zVal, .int .i64 0]) (by rw [results_cell2' rfl]; go_simp; (try rfl)) rfl ?_
    exact rfailed HN.out HTF.out HSF.out HMd.out (Nat.le_refl _) HDB6.out HMB6.out
  | some p =>
    obtain ⟨l7, s7⟩ := p
    rw [hM] at c5 HS6
    obtain rfl := HX6.out l7 s7 hM
    have hbad : ((some (l, s7) : Out (List Tm)).map (·.2)).isNone = false := rfl
    rw [hbad] at c5
    have HS6 : Hid (Sd D6 M6 w6 rb xs L (some s7)) := HS6
    have HTK := Lib.hid (dpunct_at HLL.out HS6.out [41])
    have HM := Lib.hid hM
    clear hbad hM
    cases hmk : isMark [41] (headR s7) with
    | false =>
      rw [hmk] at HTK
      have hno := takesR_no hmk
      rw [hno.2] at HTK
      have HN := Lib.hid (HN2.out.trans (args_open HM.out hmk))
      clear hno hmk
      (go_wp2_with fail; go_fit (HTK.out); rintro e w7 ⟨rfl, hs7, ht7⟩)
      have HS7 := Lib.hid hs7
      have HT7 := Lib.hid (HT6.out.trans ht7)
      have HXB7 := Lib.hid (HXB6.out.turn ht7 HMB6.out)
      have HDB7 := HDB6
      have HMB7 := HMB6
      clear hs7 ht7 c5 q0 q1 q2 q3 q4 qf
      have HFL := Lib.hid (dfail_at HS7.out)
      (go_wp2_with fail; go_fit (HFL.out); rintro e wf ⟨rfl, hsf, htf⟩)
      have HSF := Lib.hid hsf
      have HTF := Lib.hid (HT7.out.trans htf)
      have HXF := Lib.hid (HXB7.out.turn htf HMB7.out)
      obtain ⟨b0, b1, b2, b3, bf⟩ := HXF.out.four
      clear hsf htf
      go_wp2
      refine bodyPost_ret (v := .tuple #[zVal, .int .i64 0]) (by rw [results_cell2' rfl]; go_simp; (try rfl)) rfl ?_
      exact rfailed HN.out HTF.out HSF.out HMd.out (Nat.le_refl _) HDB7.out HMB7.out
    | true =>
      rw [hmk] at HTK
      have HN := Lib.hid (HN2.out.trans (args_done HM.out hmk))
      clear hmk
      (go_wp2_with fail; go_fit (HTK.out); rintro e w7 ⟨rfl, hs7, ht7⟩)
      have HS7 := Lib.hid hs7
      have HT7 := Lib.hid (HT6.out.trans ht7)
      have HXB7 := Lib.hid (HXB6.out.turn ht7 HMB6.out)
      obtain ⟨q0, q1, q2, q3, q4, qf⟩ := (HXQ6.out.turn ht7 HMQ6.out).five
      have HV7 := Lib.hid (HL6.out.stay (ht7.stays HS6.out.md))
      clear hs7 ht7 c5
      (go_wp2_with fail; go_fit (rcomp_at _ _ _ _ _); rintro e w8 ⟨rfl, hb8⟩)
      have HS8 := Lib.hid (HS7.out.later hb8)
      have HT8 := Lib.hid (HT7.out.trans (Turn.below hb8))
      obtain ⟨b0, b1, b2, b3, bf⟩ := (HXB7.out.ext hb8).four
      have HV8 := Lib.hid (show TmV (hide D6 w8) (.mk 2 0 (ba x.1.text) l) (.agg #[.int .i64 2, .int .i64 0, .string ⟨x.1.text.toArray⟩, .slice a6 m6 c6]) from tmV_iff.2 ⟨_, rfl, (by
        have e : (ba x.1.text).size = x.1.text.length := by unfold ba; show x.1.text.toArray.size = _; simp
        rw [e]; unfold BIG; have := HTX.out.2.1; omega), i64_2, i64_0, Tms.later hb8 HV7.out⟩)
      clear hb8
      go_wp2
      refine bodyPost_ret (v := .tuple #[.agg #[.int .i64 2, .int .i64 0, .string ⟨x.1.text.toArray⟩, .slice a6 m6 c6], .int .i64 0]) (by rw [results_cell2' rfl]; go_simp) rfl ?_
      exact rgave HN.out HT8.out HS8.out HMd.out (Nat.le_refl _) HDB6.out HMB6.out HV8.out
set_option maxHeartbeats 4000000 in
set_option maxRecDepth 100000 in
theorem dprim_args2 {xs : List O} {L : List TokP} {n : Nat} (hL : WfL L) (hg : goodB xs = true) (ih : IHD xs L n) {D M : Nat → Bool} {w : World} {rb : Nat} {s : RS} (h : Sd D M w rb xs L (some s)) (hlt : s.rest.length < n + 1) {most : Int} (hmost : 0 ≤ most) {x : TokP} (hx : headR s = x) (hk : x.1.kind = 2) (hop : x.1.opens = true) :
    Calls Tryz.prog 115 #[.pointer (some ⟨rb, 0, none⟩), .int .i64 most] w (RPost D M w rb xs L (primR (preO xs) (betO xs) (TERMX xs) most s)) := by
  obtain ⟨X, hX⟩ : ∃ X, primR (preO xs) (betO xs) (TERMX xs) most s = X := ⟨_, rfl⟩
  rw [hX]
  obtain ⟨w1, hw1, hb1, hz1, hx1⟩ := box_new w #[.int .i64 0, .int .i64 0, .string ⟨#[]⟩, .slice none 0 0] 66
  have h1 := h.box hb1 (Nat.le_refl _) hx1.lt
  have HMd := Lib.hid h.md
  have HMRB := Lib.hid h.mb
  have HMB := Lib.hid (h.out (Nat.le_refl _))
  have HT1 := Lib.hid (Turn.into (D := D) (M := M) hb1 (Nat.le_refl _))
  have HX1 := Lib.hid hx1
  have HS1 := Lib.hid h1
  have HLL := Lib.hid hL
  have HGG := Lib.hid hg
  have HIH := Lib.hid ih
  have HMO := Lib.hid hmost
  have HP := Lib.hid (dpeek_at hL h1)
  rw [hx] at HP
  have htx := h.gd.nice.head
  rw [hx] at htx
  have HTX := Lib.hid htx
  have HNI := Lib.hid h.gd.nice
  have HHX := Lib.hid hx
  have hkz : x.1.kind ≠ 0 := by omega
  have hne : s.rest ≠ [] := head_ne (by rw [hx]; exact hkz)
  have HNE := Lib.hid hne
  have HLT := Lib.hid (show (dropR s).rest.length < n by have := dropS_lt hne; omega)
  have k4 : ((x.1.kind : Int) == 4) = false := beq_false_of_ne (by omega)
  have k3 : ((x.1.kind : Int) == 3) = false := beq_false_of_ne (by omega)
  have k5 : ((x.1.kind : Int) == 5) = false := beq_false_of_ne (by omega)
  have k1 : ((x.1.kind : Int) == 1) = false := beq_false_of_ne (by omega)
  have k2 : ((x.1.kind : Int) == 2) = true := by rw [hk]; rfl
  have HN := Lib.hid (show namedR (preO xs) (betO xs) (TERMX xs) x most (dropR s) = X by rw [← hX]; unfold primR; rw [hx, if_pos (by omega)])
  have HOP := Lib.hid hop
  clear h h1 hX hx hx1 hb1 hz1 hL hg ih hlt htx hmost hk hop
  go_enter Tryz.func115, Tryz.ntmps115
  go_wp2_with fail
  (try rw [hw1])
  clear hw1
  (go_wp2_with fail; go_fit (HP.out); rintro e w2 ⟨rfl, hb2⟩)
  obtain ⟨w3, hw3, hb3, hz3, hx3⟩ := box_new w2 #[.int .i64 (x.1.kind : Int), .string ⟨x.1.text.toArray⟩, .int .i64 (x.1.n : Int), .bool x.1.opens, .int .i64 (x.2 : Int)] 138
  have hb13 := Ext.trans' hb2 hb3
  have hT2 : w1.heap.size ≤ w2.heap.size := hb2.size
  have HS3 := Lib.hid (HS1.out.box hb13 hT2 hx3.lt)
  have HT3 := Lib.hid (HT1.out.into2 hb13 hT2)
  have HXB3 := Lib.hid (HX1.out.ext hb13)
  have HXQ3 := Lib.hid hx3
  have HDB3 := Lib.hid (plusB_of (b := w2.heap.size) (plusB_self D w.heap.size))
  have hrb := HS3.out.lt
  have hM2 : M w2.heap.size = false := okd_out HS1.out.okd hT2
  have hnRB : rb ≠ w.heap.size := fun e => by have := HS3.out.mb; rw [e, HMB.out] at this; cases this
  have hnRQ : rb ≠ w2.heap.size := fun e => by have := HS3.out.mb; rw [e, hM2] at this; cases this
  have hnBQ : w.heap.size ≠ w2.heap.size := by have := HX1.out.lt; omega
  have HMQ := Lib.hid hM2
  obtain ⟨D3, hD3⟩ : ∃ D3, plusB (plusB D w.heap.size) w2.heap.size = D3 := ⟨_, rfl⟩
  rw [hD3] at HS3 HT3 HDB3
  obtain ⟨_, _, _, a, _, _, c2, _, _, _, fz, _, _, _, _, hr, hal⟩ := HS3.out.parts
  have hLl := HLL.out.1
  have hwa : IntKind.i64.wrap ((a : Int) + 1) = (a : Int) + 1 := by rw [IntKind.wrap_i64]; omega
  have ha2 : a < L.length := by
    rcases Nat.lt_or_ge a L.length with hh | hh
    · exact hh
    · exfalso
      have h0 := dhead_at hr
      rw [HHX.out, List.getElem?_eq_none hh] at h0
      rw [h0] at hkz
      exact hkz rfl
  have HS4 := Lib.hid (HS3.out.pass c2 (by omega))
  have HRA := Lib.hid (show L[a]? = some x from by
    have h0 := dhead_at hr
    rw [HHX.out, List.getElem?_eq_getElem ha2] at h0
    rw [List.getElem?_eq_getElem ha2]; exact congrArg some h0.symm)
  have HRD := Lib.hid (show (dropR s).rest = L.drop (a + 1) by show s.rest.tail = _; rw [hr, drop_tail])
  have HT4 := Lib.hid (HT3.out.set ⟨rb, 2, none⟩ (.int .i64 ((a : Int) + 1)) (Or.inr HMRB.out))
  have HXB4 := Lib.hid (HXB3.out.far (c := rb) (k := 2) (u := .int .i64 ((a : Int) + 1)) (Ne.symm hnRB))
  have HXQ4 := Lib.hid (HXQ3.out.far (c := rb) (k := 2) (u := .int .i64 ((a : Int) + 1)) (Ne.symm hnRQ))
  have HDB4 := HDB3
  have HMB4 := HMB
  clear hb2 hb3 hb13 hz3 hx3 HP hD3 hM2 HX1 HS1 hr hal hkz ha2 hne
  obtain ⟨b0, b1, b2, b3, bf⟩ := HXB4.out.four
  obtain ⟨q0, q1, q2, q3, q4, qf⟩ := HXQ4.out.five
  rw [HOP.out] at q3
  obtain ⟨r5, hr5, hrk⟩ := HLL.out.2.1 a x HRA.out HOP.out
  have hh5 : headR (dropR s) = r5 := by rw [dhead_at HRD.out, hr5]; rfl
  have hn2 : X = argsR (TERMX xs) x.1.text (dropR (dropR s)) := by
    rw [← HN.out]
    unfold namedR
    rw [if_neg (by unfold isMinusR; rw [hh5, hrk]; simp), HOP.out]
    rfl
  have HN2 := Lib.hid hn2
  have hal : a + 1 < L.length := (List.getElem?_eq_some_iff.1 hr5).1
  have HLT2 := Lib.hid (show (dropR (dropR s)).rest.length < n by have := dropS_le (dropR s); have := HLT.out; omega)
  have ea : ((a + 1 : Nat) : Int) = (a : Int) + 1 := by omega
  have hp5 := HS4.out.pass (a := a + 1) (by rw [ea]; exact css c2) (by omega)
  rw [ea] at hp5
  have hwa4 : IntKind.i64.wrap ((a : Int) + 1 + 1) = (a : Int) + 1 + 1 := by rw [IntKind.wrap_i64]; omega
  have HS5 := Lib.hid hp5
  have HT5 := Lib.hid (HT4.out.set ⟨rb, 2, none⟩ (.int .i64 ((a : Int) + 1 + 1)) (Or.inr HMRB.out))
  have HXB5 := Lib.hid (HXB4.out.far (c := rb) (k := 2) (u := .int .i64 ((a : Int) + 1 + 1)) (Ne.symm hnRB))
  have HXQ5 := Lib.hid (HXQ4.out.far (c := rb) (k := 2) (u := .int .i64 ((a : Int) + 1 + 1)) (Ne.symm hnRQ))
  clear hr5 hrk hh5 hn2 hal HN ea hp5 b0 b1 b2 b3 bf
  go_wp2_with fail
  (try rw [hw3])
  clear hw3
  have HI := Lib.hid (dargs_at HLL.out HIH.out HS5.out HLT2.out)
  (go_wp2_with fail; go_fit (HI.out); rintro e w6 ⟨D6, M6, l, v6, rfl, hl6, ht6, hs6, hx6⟩)
  obtain ⟨a6, c6, rfl, _⟩ := hl6.len
  obtain ⟨m6, hm6⟩ : ∃ m, l.length = m := ⟨_, rfl⟩
  rw [hm6] at hl6
  have HDB6 := Lib.hid ((ht6.dd _ HXB5.out.lt).trans HDB4.out)
  have HMB6 := Lib.hid ((ht6.mm _ HXB5.out.lt).trans HMB4.out)
  have HMQ6 := Lib.hid ((ht6.mm _ HXQ5.out.lt).trans HMQ.out)
  have HXB6 := Lib.hid (HXB5.out.turn ht6 HMB4.out)
  have HXQ6 := Lib.hid (HXQ5.out.turn ht6 HMQ.out)
  have HT6 := Lib.hid (HT5.out.trans ht6)
  have HL6 := Lib.hid hl6
  have HX6 := Lib.hid hx6
  have HS6 := Lib.hid hs6
  have c5 := hs6.c5
  obtain ⟨q0, q1, q2, q3, q4, qf⟩ := HXQ6.out.five
  rw [hm6]
  clear hl6 ht6 hs6 hx6 HI HS5 HT5 HXB5 HXQ5 c2 fz hm6
  cases hM : ITEMS (preO xs) (betO xs) (dropR (dropR s)) with
  | none =>
    rw [hM] at c5 HS6
    have HN := Lib.hid (HN2.out.trans (args_none hM))
    have hbad : ((none : Out (List Tm)).map (·.2)).isNone = true := rfl
    rw [hbad] at c5
    clear hbad hM
    have HFL := Lib.hid (dfail_at HS6.out)
    (go_wp2_with fail; go_fit (HFL.out); rintro e wf ⟨rfl, hsf, htf⟩)
    have HSF := Lib.hid hsf
    have HTF := Lib.hid (HT6.out.trans htf)
    have HXF := Lib.hid (HXB6.out.turn htf HMB6.out)
    obtain ⟨b0, b1, b2, b3, bf⟩ := HXF.out.four
    clear hsf htf
    go_wp2
    refine bodyPost_ret (v := .tuple #[zVal, .int .i64 0]) (by rw [results_cell2' rfl]; go_simp; (try rfl)) rfl ?_
    exact rfailed HN.out HTF.out HSF.out HMd.out (Nat.le_refl _) HDB6.out HMB6.out
  | some p =>
    obtain ⟨l7, s7⟩ := p
    rw [hM] at c5 HS6
    obtain rfl := HX6.out l7 s7 hM
    have hbad : ((some (l, s7) : Out (List Tm)).map (·.2)).isNone = false := rfl
    rw [hbad] at c5
    have HS6 : Hid (Sd D6 M6 w6 rb xs L (some s7)) := HS6
    have HTK := Lib.hid (dpunct_at HLL.out HS6.out [41])
    have HM := Lib.hid hM
    clear hbad hM
    cases hmk : isMark [41] (headR s7) with
    | false =>
      rw [hmk] at HTK
      have hno := takesR_no hmk
      rw [hno.2] at HTK
      have HN := Lib.hid (HN2.out.trans (args_open HM.out hmk))
      clear hno hmk
      (go_wp2_with fail; go_fit (HTK.out); rintro e w7 ⟨rfl, hs7, ht7⟩)
      have HS7 := Lib.hid hs7
      have HT7 := Lib.hid (HT6.out.trans ht7)
      have HXB7 := Lib.hid (HXB6.out.turn ht7 HMB6.out)
      have HDB7 := HDB6
      have HMB7 := HMB6
      clear hs7 ht7 c5 q0 q1 q2 q3 q4 qf
      have HFL := Lib.hid (dfail_at HS7.out)
      (go_wp2_with fail; go_fit (HFL.out); rintro e wf ⟨rfl, hsf, htf⟩)
      have HSF := Lib.hid hsf
      have HTF := Lib.hid (HT7.out.trans htf)
      have HXF := Lib.hid (HXB7.out.turn htf HMB7.out)
      obtain ⟨b0, b1, b2, b3, bf⟩ := HXF.out.four
      clear hsf htf
      go_wp2
      refine bodyPost_ret (v := .tuple #[zVal, .int .i64 0]) (by rw [results_cell2' rfl]; go_simp; (try rfl)) rfl ?_
      exact rfailed HN.out HTF.out HSF.out HMd.out (Nat.le_refl _) HDB7.out HMB7.out
    | true =>
      rw [hmk] at HTK
      have HN := Lib.hid (HN2.out.trans (args_done HM.out hmk))
      clear hmk
      (go_wp2_with fail; go_fit (HTK.out); rintro e w7 ⟨rfl, hs7, ht7⟩)
      have HS7 := Lib.hid hs7
      have HT7 := Lib.hid (HT6.out.trans ht7)
      have HXB7 := Lib.hid (HXB6.out.turn ht7 HMB6.out)
      obtain ⟨q0, q1, q2, q3, q4, qf⟩ := (HXQ6.out.turn ht7 HMQ6.out).five
      have HV7 := Lib.hid (HL6.out.stay (ht7.stays HS6.out.md))
      clear hs7 ht7 c5
      (go_wp2_with fail; go_fit (rcomp_at _ _ _ _ _); rintro e w8 ⟨rfl, hb8⟩)
      have HS8 := Lib.hid (HS7.out.later hb8)
      have HT8 := Lib.hid (HT7.out.trans (Turn.below hb8))
      obtain ⟨b0, b1, b2, b3, bf⟩ := (HXB7.out.ext hb8).four
      have HV8 := Lib.hid (show TmV (hide D6 w8) (.mk 2 0 (ba x.1.text) l) (.agg #[.int .i64 2, .int .i64 0, .string ⟨x.1.text.toArray⟩, .slice a6 m6 c6]) from tmV_iff.2 ⟨_, rfl, (by
        have e : (ba x.1.text).size = x.1.text.length := by unfold ba; show x.1.text.toArray.size = _; simp
        rw [e]; unfold BIG; have := HTX.out.2.1; omega), i64_2, i64_0, Tms.later hb8 HV7.out⟩)
      clear hb8
      go_wp2
      refine bodyPost_ret (v := .tuple #[.agg #[.int .i64 2, .int .i64 0, .string ⟨x.1.text.toArray⟩, .slice a6 m6 c6], .int .i64 0]) (by rw [results_cell2' rfl]; go_simp) rfl ?_
      exact rgave HN.out HT8.out HS8.out HMd.out (Nat.le_refl _) HDB6.out HMB6.out HV8.out
set_option maxHeartbeats 4000000 in
set_option maxRecDepth 100000 in
theorem dprim_none {xs : List O} {L : List TokP} {n : Nat} (hL : WfL L) (hg : goodB xs = true) (ih : IHD xs L n) {D M : Nat → Bool} {w : World} {rb : Nat} {s : RS} (h : Sd D M w rb xs L (some s)) (hlt : s.rest.length < n + 1) {most : Int} (hmost : 0 ≤ most) {x : TokP} (hx : headR s = x) (hk1 : x.1.kind ≠ 1) (hk2 : x.1.kind ≠ 2) (hk3 : x.1.kind ≠ 3) (hk4 : x.1.kind ≠ 4) (hk5 : x.1.kind ≠ 5) :
    Calls Tryz.prog 115 #[.pointer (some ⟨rb, 0, none⟩), .int .i64 most] w (RPost D M w rb xs L (primR (preO xs) (betO xs) (TERMX xs) most s)) := by
  obtain ⟨X, hX⟩ : ∃ X, primR (preO xs) (betO xs) (TERMX xs) most s = X := ⟨_, rfl⟩
  rw [hX]
  obtain ⟨w1, hw1, hb1, hz1, hx1⟩ := box_new w #[.int .i64 0, .int .i64 0, .string ⟨#[]⟩, .slice none 0 0] 66
  have h1 := h.box hb1 (Nat.le_refl _) hx1.lt
  have HMd := Lib.hid h.md
  have HMRB := Lib.hid h.mb
  have HMB := Lib.hid (h.out (Nat.le_refl _))
  have HT1 := Lib.hid (Turn.into (D := D) (M := M) hb1 (Nat.le_refl _))
  have HX1 := Lib.hid hx1
  have HS1 := Lib.hid h1
  have HLL := Lib.hid hL
  have HGG := Lib.hid hg
  have HIH := Lib.hid ih
  have HMO := Lib.hid hmost
  have HP := Lib.hid (dpeek_at hL h1)
  rw [hx] at HP
  have htx := h.gd.nice.head
  rw [hx] at htx
  have HTX := Lib.hid htx
  have HNI := Lib.hid h.gd.nice
  have HHX := Lib.hid hx
  have k1 : ((x.1.kind : Int) == 1) = false := beq_false_of_ne (by omega)
  have k2 : ((x.1.kind : Int) == 2) = false := beq_false_of_ne (by omega)
  have k3 : ((x.1.kind : Int) == 3) = false := beq_false_of_ne (by omega)
  have k4 : ((x.1.kind : Int) == 4) = false := beq_false_of_ne (by omega)
  have k5 : ((x.1.kind : Int) == 5) = false := beq_false_of_ne (by omega)
  have HN := Lib.hid (show X = none by
    rw [← hX]; unfold primR
    rw [hx, if_neg (by omega), if_neg hk3, if_neg hk4, if_neg hk5])
  clear h h1 hX hx hx1 hb1 hz1 hL hg ih hlt htx hmost hk1 hk2 hk3 hk4 hk5
  go_enter Tryz.func115, Tryz.ntmps115
  go_wp2_with fail
  (try rw [hw1])
  clear hw1
  (go_wp2_with fail; go_fit (HP.out); rintro e w2 ⟨rfl, hb2⟩)
  obtain ⟨w3, hw3, hb3, hz3, hx3⟩ := box_new w2 #[.int .i64 (x.1.kind : Int), .string ⟨x.1.text.toArray⟩, .int .i64 (x.1.n : Int), .bool x.1.opens, .int .i64 (x.2 : Int)] 138
  have hb13 := Ext.trans' hb2 hb3
  have hT2 : w1.heap.size ≤ w2.heap.size := hb2.size
  have HS3 := Lib.hid (HS1.out.box hb13 hT2 hx3.lt)
  have HT3 := Lib.hid (HT1.out.into2 hb13 hT2)
  have HXB3 := Lib.hid (HX1.out.ext hb13)
  have HXQ3 := Lib.hid hx3
  have HDB3 := Lib.hid (plusB_of (b := w2.heap.size) (plusB_self D w.heap.size))
  have hrb := HS3.out.lt
  have hM2 : M w2.heap.size = false := okd_out HS1.out.okd hT2
  have hnRB : rb ≠ w.heap.size := fun e => by have := HS3.out.mb; rw [e, HMB.out] at this; cases this
  have hnRQ : rb ≠ w2.heap.size := fun e => by have := HS3.out.mb; rw [e, hM2] at this; cases this
  have hnBQ : w.heap.size ≠ w2.heap.size := by have := HX1.out.lt; omega
  have HMQ := Lib.hid hM2
  obtain ⟨D3, hD3⟩ : ∃ D3, plusB (plusB D w.heap.size) w2.heap.size = D3 := ⟨_, rfl⟩
  rw [hD3] at HS3 HT3 HDB3
  obtain ⟨_, _, _, a, _, _, c2, _, _, _, fz, _, _, _, _, hr, hal⟩ := HS3.out.parts
  have hLl := HLL.out.1
  have hwa : IntKind.i64.wrap ((a : Int) + 1) = (a : Int) + 1 := by rw [IntKind.wrap_i64]; omega
  have HZ4 := Lib.hid (HS3.out.sz.set (.int .i64 ((a : Int) + 1)))
  have HT4 := Lib.hid (HT3.out.set ⟨rb, 2, none⟩ (.int .i64 ((a : Int) + 1)) (Or.inr HMRB.out))
  have HXB4 := Lib.hid (HXB3.out.far (c := rb) (k := 2) (u := .int .i64 ((a : Int) + 1)) (Ne.symm hnRB))
  have HXQ4 := Lib.hid (HXQ3.out.far (c := rb) (k := 2) (u := .int .i64 ((a : Int) + 1)) (Ne.symm hnRQ))
  have HDB4 := HDB3
  have HMB4 := HMB
  clear hb2 hb3 hb13 hz3 hx3 HP hD3 hM2 HX1 HS1 hr hal
  obtain ⟨b0, b1, b2, b3, bf⟩ := HXB4.out.four
  obtain ⟨q0, q1, q2, q3, q4, qf⟩ := HXQ4.out.five
  go_wp2_with fail
  (try rw [hw3])
  clear hw3
  have HFL := Lib.hid (dfail_sz (L := L) HZ4.out)
  (go_wp2_with fail; go_fit (HFL.out); rintro e wf ⟨rfl, hsf, htf⟩)
  have HSF := Lib.hid hsf
  have HTF := Lib.hid (HT4.out.trans htf)
  have HXF := Lib.hid (HXB4.out.turn htf HMB4.out)
  obtain ⟨b0, b1, b2, b3, bf⟩ := HXF.out.four
  clear hsf htf
  go_wp2
  refine bodyPost_ret (v := .tuple #[zVal, .int .i64 0]) (by rw [results_cell2' rfl]; go_simp; (try rfl)) rfl ?_
  exact rfailed HN.out HTF.out HSF.out HMd.out (Nat.le_refl _) HDB4.out HMB4.out
theorem dprimary_at {xs : List O} {L : List TokP} {n : Nat} (hL : WfL L) (hg : goodB xs = true) (ih : IHD xs L n) {D M : Nat → Bool} {w : World} {rb : Nat} {s : RS} (h : Sd D M w rb xs L (some s)) (hlt : s.rest.length < n + 1) {most : Int} (hmost : 0 ≤ most) :
    Calls Tryz.prog 115 #[.pointer (some ⟨rb, 0, none⟩), .int .i64 most] w (RPost D M w rb xs L (primR (preO xs) (betO xs) (TERMX xs) most s)) := by
  obtain ⟨x, hx⟩ : ∃ x, headR s = x := ⟨_, rfl⟩
  by_cases k4 : x.1.kind = 4
  · exact dprim_int hL hg ih h hlt hmost hx k4
  by_cases k3 : x.1.kind = 3
  · exact dprim_var hL hg ih h hlt hmost hx k3
  by_cases k5 : x.1.kind = 5
  · exact dprim_mark hL hg ih h hlt hmost hx k5
  by_cases k1 : x.1.kind = 1
  · cases ho : x.1.opens with
    | false => exact dprim_name1 hL hg ih h hlt hmost hx k1 ho
    | true => exact dprim_args1 hL hg ih h hlt hmost hx k1 ho
  by_cases k2 : x.1.kind = 2
  · cases ho : x.1.opens with
    | false => exact dprim_name2 hL hg ih h hlt hmost hx k2 ho
    | true => exact dprim_args2 hL hg ih h hlt hmost hx k2 ho
  exact dprim_none hL hg ih h hlt hmost hx k1 k2 k3 k4 k5
end Go.Proofs.YtobdhcaoeholhaaGreatDoor
