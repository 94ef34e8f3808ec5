import Derived.Test.YtobdhcaoeholhaaGreatDoorHbyat
import Derived.Test.YtobdhcaoeholhaaGreatDoorHbyak
import Derived.Test.YtobdhcaoeholhaaGreatDoorHbyar
set_option linter.unusedVariables false
set_option linter.unusedSimpArgs false
/- The project's writer: bare; Term, Plain. -/
namespace Go.Proofs.YtobdhcaoeholhaaGreatDoor
open Go.Shelf Go.RowKit
set_option linter.unusedVariables false
set_option maxRecDepth 100000

section
variable {n wb : Nat} {xs : List O} {vs : List Int} {M : Nat → Bool} {w : World} {out : List UInt8}
set_option maxHeartbeats 8000000 in
theorem bare_one (HA : BareC n wb xs vs) {s : ByteArray} {y : Tm} (hx : sizeN (.mk 2 0 s [y]) ≤ n) (hg : goodT (.mk 2 0 s [y]) = true) (ho : (opW (preO xs) (betO xs) (.mk 2 0 s [y])).2 = true) (h : Wr M w wb xs vs out) {v : Value} (hv : TmV (hide M w) (.mk 2 0 s [y]) v)
    (hz : out.length + (BARE vs (preO xs) (betO xs) (.mk 2 0 s [y])).length ≤ 1000000000) :
    Calls Tryz.prog 90 #[.pointer (some ⟨wb, 0, none⟩), v] w (WPost M w wb xs vs (out ++ BARE vs (preO xs) (betO xs) (.mk 2 0 s [y]))) := by
  obtain ⟨u, rfl, hs, hk64, hn64, hu⟩ := tmV_iff.1 hv
  obtain ⟨au, cu, rfl, hu1, hu2, hu3⟩ := hu.len
  unfold BIG at hu3 hs
  unfold maxLen at hu2
  have hv0 := hv
  have hu2' : (1 : Nat) ≤ cu := hu1
  have hu := show Tms (hide M w) (.slice au 1 cu) [y] from hu
  have hv0 := show TmV (hide M w) (.mk 2 0 s [y]) (.agg #[.int .i64 2, .int .i64 0, .string s, .slice au 1 cu]) from hv0
  show Calls Tryz.prog 90 #[.pointer (some ⟨wb, 0, none⟩), .agg #[.int .i64 2, .int .i64 0, .string s, .slice au 1 cu]] w _
  have hE : BARE vs (preO xs) (betO xs) (.mk 2 0 s [y]) = aheadW (preO xs) (betO xs) (BARE vs (preO xs) (betO xs)) (opW (preO xs) (betO xs) (.mk 2 0 s [y])).1 y := by
    rw [BARE_eq]; unfold bareW; rw [if_pos ho]; rfl
  have hos : bl (opW (preO xs) (betO xs) (.mk 2 0 s [y])).1.n = bl s := by
    rw [opW_one] at ho ⊢
    split at ho
    · rename_i hc
      rw [if_pos hc]
      simp only [Bool.and_eq_true] at hc
      exact ((tab_of xs).pre1 _ hc.1).1
    · cases ho
  obtain ⟨⟨⟨on, ok, ol⟩, og⟩, hop⟩ : ∃ Y, opW (preO xs) (betO xs) (.mk 2 0 s [y]) = Y := ⟨_, rfl⟩
  rw [hop] at ho hE hos
  have hog : og = true := ho
  subst hog
  have hon : on.size ≤ 140737488351232 := by rw [show on.size = (bl on).length from (bl_len _).symm, hos, bl_len]; exact hs
  have HE := Lib.hid hE
  rw [hE] at hz
  have HZ := Lib.hid hz
  have HYG := Lib.hid (And.intro (show sizeN y < n by have := arg_size (x := .mk 2 0 s [y]) (y := y) (by simp [Tm.args]); omega) (good_arg hg (show y ∈ [y] by simp)))
  obtain ⟨w1, hw1, hb1, hz1, hx1⟩ := box_new w #[.int .i64 2, .int .i64 0, .string s, .slice au 1 cu] 27
  have h1 := h.later hb1
  have hv1 := TmV.later hb1 hv0
  have HOP := operator_at h1 hv1
  rw [hop] at HOP
  have HOP := Lib.hid HOP
  have H1 := Lib.hid h1
  have HX1 := Lib.hid hx1
  have HU1 := Lib.hid (Tms.later hb1 hu)
  have HT1 := Lib.hid (show Turn M M M M w w1 from Turn.below hb1)
  have HMB := Lib.hid (h.new (Nat.le_refl w.heap.size))
  have HMO := Lib.hid h.old
  have HS1 := Lib.hid hb1.size
  have HAA := Lib.hid HA
  obtain ⟨b0, b1, b2, b3, bf⟩ := hx1.four
  have HON := Lib.hid hon
  clear h hv hv0 hz hu hb1 hx1 hz1 h1 hv1 hop ho hE HA hos hg hx hon
  go_enter Tryz.func90, Tryz.ntmps90
  go_wp2_with fail
  (try rw [hw1])
  clear hw1
  (go_wp2_with fail; go_fit (HOP.out); rintro e w2 ⟨rfl, hb2⟩)
  obtain ⟨w3, hw3, hb3, hz3, hx3⟩ := box_new w2 #[.string on, .string ok, .int .i64 ol] 33
  have hb23 := Ext.trans' hb2 hb3
  have H3 := Lib.hid (H1.out.later hb23)
  have HX3 := Lib.hid hx3
  have HX13 := Lib.hid (HX1.out.ext hb23)
  have HU3 := Lib.hid (Tms.later hb23 HU1.out)
  have HT3 := Lib.hid (HT1.out.trans (show Turn M M M M w1 w3 from Turn.below hb23))
  have HMX := Lib.hid (HMO.out w2.heap.size (Nat.le_trans HS1.out hb2.size))
  clear b0 b1 b2 b3 bf
  obtain ⟨b0, b1, b2, b3, bf⟩ := HX13.out.four
  obtain ⟨d0, d1, d2, df⟩ := hx3.three
  clear hb2 hb3 hb23 hx3 hz3
  go_wp2_with fail
  (try rw [hw3])
  clear hw3
  obtain ⟨b, off, yk, yn, yst, yu, rfl, hbb, _, _, _, e0, e1, e2, e3, hyu, hyt⟩ := HU3.out.get (i := 0) rfl
  obtain ⟨ya, yc, rfl, _⟩ := hyu.len
  obtain ⟨q, hq⟩ : ∃ q, y.args.length = q := ⟨_, rfl⟩
  rw [hq] at e3 hyt
  simp only [Nat.zero_mul, Nat.add_zero] at e0 e1 e2 e3
  have HYT := Lib.hid hyt
  have HMY := Lib.hid (hide_out e0).1
  replace e0 := (hide_out e0).2
  replace e1 := (hide_out e1).2
  replace e2 := (hide_out e2).2
  replace e3 := (hide_out e3).2
  have HAH := Lib.hid (fun wq (hb : Below w3.heap.size w3 wq) => ahead_at HAA.out HYG.out.1 HYG.out.2 (H3.out.later hb) (TmV.later hb HYT.out) on ok ol HON.out HZ.out)
  clear hyu hyt hq
  refine wp_region_held_drew (S := fun w' => (w'.cell? ⟨w2.heap.size, 0, none⟩ = some (.string on) ∧ w'.cell? ⟨w2.heap.size, 1, none⟩ = some (.string ok) ∧ w'.cell? ⟨w2.heap.size, 2, none⟩ = some (.int .i64 ol)) ∧ w'.cell? ⟨w.heap.size, 3, none⟩ = some (.slice (some ⟨b, off, none⟩) 1 cu) ∧ w'.cell? ⟨b, off, none⟩ = some (.int .i64 yk) ∧ w'.cell? ⟨b, off + 1, none⟩ = some (.int .i64 yn) ∧ w'.cell? ⟨b, off + 2, none⟩ = some (.string yst) ∧ w'.cell? ⟨b, off + 3, none⟩ = some (.slice ya q yc)) (by kernel_rfl) ⟨⟨d0, d1, d2⟩, b3, e0, e1, e2, e3⟩ (fun hHeld => ?_)
  first | (refine held_t (i := 0) hHeld ?_; apply Exists.intro; refine ⟨fun wq hq => ?_, ?_⟩; (focus ((try dsimp only at hq); go_simp; (first | done | with_reducible rfl | fail)))) | refine held_s (i := 0) hHeld ?_ | fail
  first | (refine held_t (i := 1) hHeld ?_; apply Exists.intro; refine ⟨fun wq hq => ?_, ?_⟩; (focus ((try dsimp only at hq); go_simp; (first | done | with_reducible rfl | fail)))) | refine held_s (i := 1) hHeld ?_ | fail
  first | (refine held_t (i := 2) hHeld ?_; apply Exists.intro; refine ⟨fun wq hq => ?_, ?_⟩; (focus ((try dsimp only at hq); go_simp; (first | done | with_reducible rfl | fail)))) | refine held_s (i := 2) hHeld ?_ | fail
  first | (refine held_t (i := 3) hHeld ?_; apply Exists.intro; refine ⟨fun wq hq => ?_, ?_⟩; (focus ((try dsimp only at hq); go_simp; (first | done | with_reducible rfl | fail)))) | refine held_s (i := 3) hHeld ?_ | fail
  first | (refine held_t (i := 4) hHeld ?_; apply Exists.intro; refine ⟨fun wq hq => ?_, ?_⟩; (focus ((try dsimp only at hq); go_simp; (first | done | with_reducible rfl | fail)))) | refine held_s (i := 4) hHeld ?_ | fail
  first | (refine held_t (i := 5) hHeld ?_; apply Exists.intro; refine ⟨fun wq hq => ?_, ?_⟩; (focus ((try dsimp only at hq); go_simp; (first | done | with_reducible rfl | fail)))) | refine held_s (i := 5) hHeld ?_ | fail
  try simp only [Act.put, List.setIfInBounds_toArray, List.set_cons_zero, List.set_cons_succ]
  refine held_c 6 fun K hK => ?_
  go_simp
  (go_at_call 133; refine (HAH.out _ (Below.refl _ _).drew).mono ?_; rintro e w4 ⟨rfl, M4, g3, g4⟩)
  refine hK.out _ _ (⟨⟨g4.cell HMX.out hHeld.1.1, g4.cell HMX.out hHeld.1.2.1, g4.cell HMX.out hHeld.1.2.2⟩, g4.cell HMB.out hHeld.2.1, g4.cell HMY.out hHeld.2.2.1, g4.cell HMY.out hHeld.2.2.2.1, g4.cell HMY.out hHeld.2.2.2.2.1, g4.cell HMY.out hHeld.2.2.2.2.2⟩) (fun hHeld => ?_)
  clear hK K
  try simp only [Act.put, List.setIfInBounds_toArray, List.set_cons_zero, List.set_cons_succ]
  refine wpAnyH_done (by kernel_rfl) ?_ _
  have G3 := Lib.hid g3
  have G4 := Lib.hid (HT3.out.trans ((show Turn M M M M w3 w3.drew from Turn.below (Below.refl _ _).drew).trans g4))
  clear g3 g4 hHeld b0 b1 b2 b3 bf d0 d1 d2 df e0 e1 e2 e3
  go_wp2
  go_end0
  exact ⟨rfl, M4, by rw [HE.out]; exact G3.out, G4.out⟩
set_option maxHeartbeats 8000000 in
theorem bare_two (HA : BareC n wb xs vs) {s : ByteArray} {y z : Tm} (hx : sizeN (.mk 2 0 s [y, z]) ≤ n) (hg : goodT (.mk 2 0 s [y, z]) = true) (ho : (opW (preO xs) (betO xs) (.mk 2 0 s [y, z])).2 = true) (h : Wr M w wb xs vs out) {v : Value} (hv : TmV (hide M w) (.mk 2 0 s [y, z]) v)
    (hz : out.length + (BARE vs (preO xs) (betO xs) (.mk 2 0 s [y, z])).length ≤ 1000000000) :
    Calls Tryz.prog 90 #[.pointer (some ⟨wb, 0, none⟩), v] w (WPost M w wb xs vs (out ++ BARE vs (preO xs) (betO xs) (.mk 2 0 s [y, z]))) := by
  obtain ⟨u, rfl, hs, hk64, hn64, hu⟩ := tmV_iff.1 hv
  obtain ⟨au, cu, rfl, hu1, hu2, hu3⟩ := hu.len
  unfold BIG at hu3 hs
  unfold maxLen at hu2
  have hv0 := hv
  have hu2' : (2 : Nat) ≤ cu := hu1
  have hu := show Tms (hide M w) (.slice au 2 cu) [y, z] from hu
  have hv0 := show TmV (hide M w) (.mk 2 0 s [y, z]) (.agg #[.int .i64 2, .int .i64 0, .string s, .slice au 2 cu]) from hv0
  show Calls Tryz.prog 90 #[.pointer (some ⟨wb, 0, none⟩), .agg #[.int .i64 2, .int .i64 0, .string s, .slice au 2 cu]] w _
  have hE : BARE vs (preO xs) (betO xs) (.mk 2 0 s [y, z]) = betweenW (preO xs) (betO xs) (BARE vs (preO xs) (betO xs)) (opW (preO xs) (betO xs) (.mk 2 0 s [y, z])).1 y z := by
    rw [BARE_eq]; unfold bareW; rw [if_pos ho]; rfl
  have hos : bl (opW (preO xs) (betO xs) (.mk 2 0 s [y, z])).1.n = bl s ∧ sideB (bl (opW (preO xs) (betO xs) (.mk 2 0 s [y, z])).1.k) = 2 ∧ 1 ≤ (opW (preO xs) (betO xs) (.mk 2 0 s [y, z])).1.l ∧ (opW (preO xs) (betO xs) (.mk 2 0 s [y, z])).1.l ≤ 1200 := by
    rw [opW_two] at ho ⊢
    split at ho
    · cases ho
    · rename_i hc
      rw [if_neg hc]
      exact (tab_of xs).bet1 _ ho
  obtain ⟨⟨⟨on, ok, ol⟩, og⟩, hop⟩ : ∃ Y, opW (preO xs) (betO xs) (.mk 2 0 s [y, z]) = Y := ⟨_, rfl⟩
  rw [hop] at ho hE hos
  have hog : og = true := ho
  subst hog
  have hon : on.size ≤ 140737488351232 := by rw [show on.size = (bl on).length from (bl_len _).symm, hos.1, bl_len]; exact hs
  obtain ⟨sl, sr, hsd⟩ : ∃ a b, sidesB (bl ok) ol = (a, b) := ⟨_, _, rfl⟩
  have hsl : 0 ≤ sl ∧ sl ≤ 1200 := by
    have h2 := sides_two (k := bl ok) (l := ol) hos.2.1 hos.2.2.1 hos.2.2.2
    rw [hsd] at h2
    have hol : 1 ≤ ol ∧ ol ≤ 1200 := hos.2.2
    rcases h2 with h | h
    · have := h.2.1
      simp only at this
      omega
    · have := h.2.1
      simp only at this
      omega
  have HSD := Lib.hid (And.intro hsd hsl)
  have HE := Lib.hid hE
  rw [hE] at hz
  have HZ := Lib.hid hz
  have HYG := Lib.hid (And.intro (show sizeN y < n by have := arg_size (x := .mk 2 0 s [y, z]) (y := y) (by simp [Tm.args]); omega) (good_arg hg (show y ∈ [y, z] by simp)))
  have HZG := Lib.hid (And.intro (show sizeN z < n by have := arg_size (x := .mk 2 0 s [y, z]) (y := z) (by simp [Tm.args]); omega) (good_arg hg (show z ∈ [y, z] by simp)))
  obtain ⟨w1, hw1, hb1, hz1, hx1⟩ := box_new w #[.int .i64 2, .int .i64 0, .string s, .slice au 2 cu] 27
  have h1 := h.later hb1
  have hv1 := TmV.later hb1 hv0
  have HOP := operator_at h1 hv1
  rw [hop] at HOP
  have HOP := Lib.hid HOP
  have H1 := Lib.hid h1
  have HX1 := Lib.hid hx1
  have HU1 := Lib.hid (Tms.later hb1 hu)
  have HT1 := Lib.hid (show Turn M M M M w w1 from Turn.below hb1)
  have HMB := Lib.hid (h.new (Nat.le_refl w.heap.size))
  have HMO := Lib.hid h.old
  have HS1 := Lib.hid hb1.size
  have HAA := Lib.hid HA
  obtain ⟨b0, b1, b2, b3, bf⟩ := hx1.four
  have HON := Lib.hid hon
  clear h hv hv0 hz hu hb1 hx1 hz1 h1 hv1 hop ho hE HA hos hg hx hon hsd hsl
  go_enter Tryz.func90, Tryz.ntmps90
  go_wp2_with fail
  (try rw [hw1])
  clear hw1
  (go_wp2_with fail; go_fit (HOP.out); rintro e w2 ⟨rfl, hb2⟩)
  obtain ⟨w3, hw3, hb3, hz3, hx3⟩ := box_new w2 #[.string on, .string ok, .int .i64 ol] 33
  have hb23 := Ext.trans' hb2 hb3
  have H3 := Lib.hid (H1.out.later hb23)
  have HX3 := Lib.hid hx3
  have HX13 := Lib.hid (HX1.out.ext hb23)
  have HU3 := Lib.hid (Tms.later hb23 HU1.out)
  have HT3 := Lib.hid (HT1.out.trans (show Turn M M M M w1 w3 from Turn.below hb23))
  have HMX := Lib.hid (HMO.out w2.heap.size (Nat.le_trans HS1.out hb2.size))
  clear b0 b1 b2 b3 bf
  obtain ⟨b0, b1, b2, b3, bf⟩ := HX13.out.four
  obtain ⟨d0, d1, d2, df⟩ := hx3.three
  clear hb2 hb3 hb23 hx3 hz3
  go_wp2_with fail
  (try rw [hw3])
  clear hw3
  obtain ⟨b, off, yk, yn, yst, yu, rfl, hbb, _, _, _, e0, e1, e2, e3, hyu, hyt⟩ := HU3.out.get (i := 0) rfl
  obtain ⟨b', off', zk, zn, zst, zu, hae, _, _, _, _, f0, f1, f2, f3, hzu, hzt⟩ := HU3.out.get (i := 1) rfl
  cases hae
  obtain ⟨ya, yc, rfl, _⟩ := hyu.len
  obtain ⟨za, zc, rfl, _⟩ := hzu.len
  obtain ⟨q, hq⟩ : ∃ q, y.args.length = q := ⟨_, rfl⟩
  obtain ⟨r, hr⟩ : ∃ q, z.args.length = q := ⟨_, rfl⟩
  rw [hq] at e3 hyt
  rw [hr] at f3 hzt
  simp only [Nat.zero_mul, Nat.add_zero, Nat.one_mul, Nat.add_assoc, Nat.reduceAdd] at e0 e1 e2 e3 f0 f1 f2 f3
  have HYT := Lib.hid hyt
  have HZT := Lib.hid hzt
  have HMY := Lib.hid (hide_out e0).1
  replace e0 := (hide_out e0).2
  replace e1 := (hide_out e1).2
  replace e2 := (hide_out e2).2
  replace e3 := (hide_out e3).2
  replace f0 := (hide_out f0).2
  replace f1 := (hide_out f1).2
  replace f2 := (hide_out f2).2
  replace f3 := (hide_out f3).2
  have HAH := Lib.hid (fun wq (hb : Below w3.heap.size w3 wq) => between_core HAA.out HYG.out.1 HYG.out.2 HZG.out.1 HZG.out.2 (H3.out.later hb) (TmV.later hb HYT.out) (TmV.later hb HZT.out) on ok ol HON.out sl sr HSD.out.1 HSD.out.2 HZ.out)
  clear hyu hyt hzu hzt hq hr
  refine wp_region_held_drew (S := fun w' => (w'.cell? ⟨w2.heap.size, 0, none⟩ = some (.string on) ∧ w'.cell? ⟨w2.heap.size, 1, none⟩ = some (.string ok) ∧ w'.cell? ⟨w2.heap.size, 2, none⟩ = some (.int .i64 ol)) ∧ w'.cell? ⟨w.heap.size, 3, none⟩ = some (.slice (some ⟨b, off, none⟩) 2 cu) ∧ (w'.cell? ⟨b, off, none⟩ = some (.int .i64 yk) ∧ w'.cell? ⟨b, off + 1, none⟩ = some (.int .i64 yn) ∧ w'.cell? ⟨b, off + 2, none⟩ = some (.string yst) ∧ w'.cell? ⟨b, off + 3, none⟩ = some (.slice ya q yc)) ∧ w'.cell? ⟨b, off + 4, none⟩ = some (.int .i64 zk) ∧ w'.cell? ⟨b, off + 5, none⟩ = some (.int .i64 zn) ∧ w'.cell? ⟨b, off + 6, none⟩ = some (.string zst) ∧ w'.cell? ⟨b, off + 7, none⟩ = some (.slice za r zc)) (by kernel_rfl) ⟨⟨d0, d1, d2⟩, b3, ⟨e0, e1, e2, e3⟩, f0, f1, f2, f3⟩ (fun hHeld => ?_)
  first | (refine held_t (i := 0) hHeld ?_; apply Exists.intro; refine ⟨fun wq hq => ?_, ?_⟩; (focus ((try dsimp only at hq); go_simp; (first | done | with_reducible rfl | fail)))) | refine held_s (i := 0) hHeld ?_ | fail
  first | (refine held_t (i := 1) hHeld ?_; apply Exists.intro; refine ⟨fun wq hq => ?_, ?_⟩; (focus ((try dsimp only at hq); go_simp; (first | done | with_reducible rfl | fail)))) | refine held_s (i := 1) hHeld ?_ | fail
  first | (refine held_t (i := 2) hHeld ?_; apply Exists.intro; refine ⟨fun wq hq => ?_, ?_⟩; (focus ((try dsimp only at hq); go_simp; (first | done | with_reducible rfl | fail)))) | refine held_s (i := 2) hHeld ?_ | fail
  first | (refine held_t (i := 3) hHeld ?_; apply Exists.intro; refine ⟨fun wq hq => ?_, ?_⟩; (focus ((try dsimp only at hq); go_simp; (first | done | with_reducible rfl | fail)))) | refine held_s (i := 3) hHeld ?_ | fail
  first | (refine held_t (i := 4) hHeld ?_; apply Exists.intro; refine ⟨fun wq hq => ?_, ?_⟩; (focus ((try dsimp only at hq); go_simp; (first | done | with_reducible rfl | fail)))) | refine held_s (i := 4) hHeld ?_ | fail
  first | (refine held_t (i := 5) hHeld ?_; apply Exists.intro; refine ⟨fun wq hq => ?_, ?_⟩; (focus ((try dsimp only at hq); go_simp; (first | done | with_reducible rfl | fail)))) | refine held_s (i := 5) hHeld ?_ | fail
  first | (refine held_t (i := 6) hHeld ?_; apply Exists.intro; refine ⟨fun wq hq => ?_, ?_⟩; (focus ((try dsimp only at hq); go_simp; (first | done | with_reducible rfl | fail)))) | refine held_s (i := 6) hHeld ?_ | fail
  first | (refine held_t (i := 7) hHeld ?_; apply Exists.intro; refine ⟨fun wq hq => ?_, ?_⟩; (focus ((try dsimp only at hq); go_simp; (first | done | with_reducible rfl | fail)))) | refine held_s (i := 7) hHeld ?_ | fail
  first | (refine held_t (i := 8) hHeld ?_; apply Exists.intro; refine ⟨fun wq hq => ?_, ?_⟩; (focus ((try dsimp only at hq); go_simp; (first | done | with_reducible rfl | fail)))) | refine held_s (i := 8) hHeld ?_ | fail
  first | (refine held_t (i := 9) hHeld ?_; apply Exists.intro; refine ⟨fun wq hq => ?_, ?_⟩; (focus ((try dsimp only at hq); go_simp; (first | done | with_reducible rfl | fail)))) | refine held_s (i := 9) hHeld ?_ | fail
  try simp only [Act.put, List.setIfInBounds_toArray, List.set_cons_zero, List.set_cons_succ]
  refine held_c 10 fun K hK => ?_
  go_simp
  (go_at_call 134; refine (HAH.out _ (Below.refl _ _).drew).mono ?_; rintro e w4 ⟨rfl, M4, g3, g4⟩)
  refine hK.out _ _ (⟨⟨g4.cell HMX.out hHeld.1.1, g4.cell HMX.out hHeld.1.2.1, g4.cell HMX.out hHeld.1.2.2⟩, g4.cell HMB.out hHeld.2.1, ⟨g4.cell HMY.out hHeld.2.2.1.1, g4.cell HMY.out hHeld.2.2.1.2.1, g4.cell HMY.out hHeld.2.2.1.2.2.1, g4.cell HMY.out hHeld.2.2.1.2.2.2⟩, g4.cell HMY.out hHeld.2.2.2.1, g4.cell HMY.out hHeld.2.2.2.2.1, g4.cell HMY.out hHeld.2.2.2.2.2.1, g4.cell HMY.out hHeld.2.2.2.2.2.2⟩) (fun hHeld => ?_)
  clear hK K
  try simp only [Act.put, List.setIfInBounds_toArray, List.set_cons_zero, List.set_cons_succ]
  refine wpAnyH_done (by kernel_rfl) ?_ _
  have G3 := Lib.hid g3
  have G4 := Lib.hid (HT3.out.trans ((show Turn M M M M w3 w3.drew from Turn.below (Below.refl _ _).drew).trans g4))
  clear g3 g4 hHeld b0 b1 b2 b3 bf d0 d1 d2 df e0 e1 e2 e3 f0 f1 f2 f3
  go_wp2
  go_end0
  exact ⟨rfl, M4, by rw [HE.out]; exact G3.out, G4.out⟩
set_option maxHeartbeats 8000000 in
theorem bare_list (HA : BareC n wb xs vs) {s : ByteArray} {y z : Tm} (hx : sizeN (.mk 2 0 s [y, z]) ≤ n) (hg : goodT (.mk 2 0 s [y, z]) = true) (ho : (opW (preO xs) (betO xs) (.mk 2 0 s [y, z])).2 = false) (hdot : bl s = [46]) (h : Wr M w wb xs vs out) {v : Value} (hv : TmV (hide M w) (.mk 2 0 s [y, z]) v)
    (hz : out.length + (BARE vs (preO xs) (betO xs) (.mk 2 0 s [y, z])).length ≤ 1000000000) :
    Calls Tryz.prog 90 #[.pointer (some ⟨wb, 0, none⟩), v] w (WPost M w wb xs vs (out ++ BARE vs (preO xs) (betO xs) (.mk 2 0 s [y, z]))) := by
  obtain ⟨u, rfl, hs, hk64, hn64, hu⟩ := tmV_iff.1 hv
  obtain ⟨au, cu, rfl, hu1, hu2, hu3⟩ := hu.len
  unfold BIG at hu3 hs
  unfold maxLen at hu2
  have hv0 := hv
  have hu2' : (2 : Nat) ≤ cu := hu1
  have hu := show Tms (hide M w) (.slice au 2 cu) [y, z] from hu
  have hv0 := show TmV (hide M w) (.mk 2 0 s [y, z]) (.agg #[.int .i64 2, .int .i64 0, .string s, .slice au 2 cu]) from hv0
  show Calls Tryz.prog 90 #[.pointer (some ⟨wb, 0, none⟩), .agg #[.int .i64 2, .int .i64 0, .string s, .slice au 2 cu]] w _
  have hE : BARE vs (preO xs) (betO xs) (.mk 2 0 s [y, z]) = listW (preO xs) (betO xs) (BARE vs (preO xs) (betO xs)) (.mk 2 0 s [y, z]) := by
    rw [BARE_eq]; unfold bareW; rw [if_neg (by rw [ho]; decide), if_pos (by show (true && (bl s == [46] && true)) = true; rw [hdot]; rfl)]
  have hdt : (s.toList == [46]) = true := by rw [Lib.toList_data]; exact beq_iff_eq.2 hdot
  have hpr : pairT (.mk 2 0 s [y, z]) = some (y, z) := by
    show (if ((2 : Int) == 2 && s.data.toList == [46]) = true then some (y, z) else none) = _
    have : s.data.toList = [46] := hdot
    rw [this]
    rfl
  have hts : sizeN (itemsT (.mk 2 0 s [y, z])).2 < n := by
    rcases (items_size _ (.mk 2 0 s [y, z]) (Nat.le_refl _)).2 with h | ⟨h, _⟩
    · omega
    · rw [items_some hpr] at h; cases h
  obtain ⟨⟨⟨on, ok, ol⟩, og⟩, hop⟩ : ∃ Y, opW (preO xs) (betO xs) (.mk 2 0 s [y, z]) = Y := ⟨_, rfl⟩
  rw [hop] at ho
  have hog : og = false := ho
  subst hog
  have HE := Lib.hid hE
  rw [hE] at hz
  have HZ := Lib.hid hz
  have HYG := Lib.hid (And.intro hx (And.intro hts hg))
  obtain ⟨w1, hw1, hb1, hz1, hx1⟩ := box_new w #[.int .i64 2, .int .i64 0, .string s, .slice au 2 cu] 27
  have h1 := h.later hb1
  have hv1 := TmV.later hb1 hv0
  have HOP := operator_at h1 hv1
  rw [hop] at HOP
  have HOP := Lib.hid HOP
  have H1 := Lib.hid h1
  have HX1 := Lib.hid hx1
  have HU1 := Lib.hid (Tms.later hb1 hu)
  have HT1 := Lib.hid (show Turn M M M M w w1 from Turn.below hb1)
  have HMB := Lib.hid (h.new (Nat.le_refl w.heap.size))
  have HMO := Lib.hid h.old
  have HS1 := Lib.hid hb1.size
  have HAA := Lib.hid HA
  obtain ⟨b0, b1, b2, b3, bf⟩ := hx1.four
  have HV1 := Lib.hid hv1
  clear h hv hv0 hz hu hb1 hx1 hz1 h1 hv1 hop ho hE HA hg hx hdot hpr hts
  go_enter Tryz.func90, Tryz.ntmps90
  go_wp2_with fail
  (try rw [hw1])
  clear hw1
  (go_wp2_with fail; go_fit (HOP.out); rintro e w2 ⟨rfl, hb2⟩)
  obtain ⟨w3, hw3, hb3, hz3, hx3⟩ := box_new w2 #[.string on, .string ok, .int .i64 ol] 33
  have hb23 := Ext.trans' hb2 hb3
  have H3 := Lib.hid (H1.out.later hb23)
  have HX3 := Lib.hid hx3
  have HX13 := Lib.hid (HX1.out.ext hb23)
  have HU3 := Lib.hid (Tms.later hb23 HU1.out)
  have HT3 := Lib.hid (HT1.out.trans (show Turn M M M M w1 w3 from Turn.below hb23))
  have HMX := Lib.hid (HMO.out w2.heap.size (Nat.le_trans HS1.out hb2.size))
  clear b0 b1 b2 b3 bf
  obtain ⟨b0, b1, b2, b3, bf⟩ := HX13.out.four
  obtain ⟨d0, d1, d2, df⟩ := hx3.three
  have HLS := Lib.hid (wlist_at HAA.out HYG.out.1 HYG.out.2.1 HYG.out.2.2 H3.out (TmV.later hb23 HV1.out) HZ.out)
  clear hb2 hb3 hb23 hx3 hz3
  go_wp2_with fail
  (try rw [hw3])
  clear hw3
  clear d0 d1 d2 df
  (go_wp2_with fail; go_fit (HLS.out); rintro e w4 ⟨rfl, M4, g3, g4⟩)
  have G3 := Lib.hid g3
  have G4 := Lib.hid (HT3.out.trans g4)
  clear g3 g4
  go_wp2
  go_end0
  exact ⟨rfl, M4, by rw [HE.out]; exact G3.out, G4.out⟩
set_option maxHeartbeats 8000000 in
theorem bare_curly (HA : BareC n wb xs vs) {s : ByteArray} {y : Tm} (hx : sizeN (.mk 2 0 s [y]) ≤ n) (hg : goodT (.mk 2 0 s [y]) = true) (ho : (opW (preO xs) (betO xs) (.mk 2 0 s [y])).2 = false) (hcu : bl s = [123, 125]) (h : Wr M w wb xs vs out) {v : Value} (hv : TmV (hide M w) (.mk 2 0 s [y]) v)
    (hz : out.length + (BARE vs (preO xs) (betO xs) (.mk 2 0 s [y])).length ≤ 1000000000) :
    Calls Tryz.prog 90 #[.pointer (some ⟨wb, 0, none⟩), v] w (WPost M w wb xs vs (out ++ BARE vs (preO xs) (betO xs) (.mk 2 0 s [y]))) := by
  obtain ⟨u, rfl, hs, hk64, hn64, hu⟩ := tmV_iff.1 hv
  obtain ⟨au, cu, rfl, hu1, hu2, hu3⟩ := hu.len
  unfold BIG at hu3 hs
  unfold maxLen at hu2
  have hv0 := hv
  have hu2' : (1 : Nat) ≤ cu := hu1
  have hu := show Tms (hide M w) (.slice au 1 cu) [y] from hu
  have hv0 := show TmV (hide M w) (.mk 2 0 s [y]) (.agg #[.int .i64 2, .int .i64 0, .string s, .slice au 1 cu]) from hv0
  show Calls Tryz.prog 90 #[.pointer (some ⟨wb, 0, none⟩), .agg #[.int .i64 2, .int .i64 0, .string s, .slice au 1 cu]] w _
  have hE : BARE vs (preO xs) (betO xs) (.mk 2 0 s [y]) = 123 :: (placeT xs vs 1200 y ++ [125]) := by
    rw [BARE_eq]; unfold bareW; rw [if_neg (by rw [ho]; decide), if_neg (by show ¬ ((true && (bl s == [46] && false)) = true); simp), if_pos (by show (bl s == [123, 125] && true) = true; rw [hcu]; rfl)]
    rfl
  have hct : (s.toList == [123, 125]) = true := by rw [Lib.toList_data]; exact beq_iff_eq.2 hcu
  have hdt : (s.toList == [46]) = false := by
    rw [Lib.toList_data]
    have : s.data.toList = [123, 125] := hcu
    rw [this]; rfl
  obtain ⟨⟨⟨on, ok, ol⟩, og⟩, hop⟩ : ∃ Y, opW (preO xs) (betO xs) (.mk 2 0 s [y]) = Y := ⟨_, rfl⟩
  rw [hop] at ho
  have hog : og = false := ho
  subst hog
  have HE := Lib.hid hE
  rw [hE, List.length_cons, List.length_append, List.length_singleton] at hz
  have HZ := Lib.hid hz
  have HYG := Lib.hid (And.intro (show sizeN y < n by have := arg_size (x := .mk 2 0 s [y]) (y := y) (by simp [Tm.args]); omega) (good_arg hg (show y ∈ [y] by simp)))
  obtain ⟨w1, hw1, hb1, hz1, hx1⟩ := box_new w #[.int .i64 2, .int .i64 0, .string s, .slice au 1 cu] 27
  have h1 := h.later hb1
  have hv1 := TmV.later hb1 hv0
  have HOP := operator_at h1 hv1
  rw [hop] at HOP
  have HOP := Lib.hid HOP
  have H1 := Lib.hid h1
  have HX1 := Lib.hid hx1
  have HU1 := Lib.hid (Tms.later hb1 hu)
  have HT1 := Lib.hid (show Turn M M M M w w1 from Turn.below hb1)
  have HMB := Lib.hid (h.new (Nat.le_refl w.heap.size))
  have HMO := Lib.hid h.old
  have HS1 := Lib.hid hb1.size
  have HAA := Lib.hid HA
  obtain ⟨b0, b1, b2, b3, bf⟩ := hx1.four
  clear h hv hv0 hz hu hb1 hx1 hz1 h1 hv1 hop ho hE HA hg hx hcu
  go_enter Tryz.func90, Tryz.ntmps90
  go_wp2_with fail
  (try rw [hw1])
  clear hw1
  (go_wp2_with fail; go_fit (HOP.out); rintro e w2 ⟨rfl, hb2⟩)
  obtain ⟨w3, hw3, hb3, hz3, hx3⟩ := box_new w2 #[.string on, .string ok, .int .i64 ol] 33
  have hb23 := Ext.trans' hb2 hb3
  have H3 := Lib.hid (H1.out.later hb23)
  have HX3 := Lib.hid hx3
  have HX13 := Lib.hid (HX1.out.ext hb23)
  have HU3 := Lib.hid (Tms.later hb23 HU1.out)
  have HT3 := Lib.hid (HT1.out.trans (show Turn M M M M w1 w3 from Turn.below hb23))
  have HMX := Lib.hid (HMO.out w2.heap.size (Nat.le_trans HS1.out hb2.size))
  clear b0 b1 b2 b3 bf
  obtain ⟨b0, b1, b2, b3, bf⟩ := HX13.out.four
  obtain ⟨d0, d1, d2, df⟩ := hx3.three
  clear hb2 hb3 hb23 hx3 hz3
  go_wp2_with fail
  (try rw [hw3])
  clear hw3
  clear d0 d1 d2 df
  have HP1 := Lib.hid (put_at H3.out ⟨#[123]⟩ (by have := HZ.out; rw [bl_lc, List.length_singleton]; omega))
  (go_wp2_with fail; go_fit (HP1.out); rintro e w4 ⟨rfl, M4, g3, g4⟩)
  have HU4 := HU3.out.turn g4
  have HX14 := Lib.hid (HX13.out.turn g4 HMB.out)
  have HT4 := Lib.hid (HT3.out.trans g4)
  have H4 := Lib.hid g3
  clear b0 b1 b2 b3 bf g3 g4
  obtain ⟨b0, b1, b2, b3, bf⟩ := HX14.out.four
  obtain ⟨b, off, yk, yn, yst, yu, rfl, hbb, _, _, _, e0, e1, e2, e3, hyu, hyt⟩ := HU4.get (i := 0) rfl
  obtain ⟨ya, yc, rfl, _⟩ := hyu.len
  obtain ⟨q, hq⟩ : ∃ q, y.args.length = q := ⟨_, rfl⟩
  rw [hq] at e3 hyt
  simp only [Nat.zero_mul, Nat.add_zero] at e0 e1 e2 e3
  replace e0 := (hide_out e0).2
  replace e1 := (hide_out e1).2
  replace e2 := (hide_out e2).2
  replace e3 := (hide_out e3).2
  have HPL := Lib.hid (place_at HAA.out HYG.out.1 HYG.out.2 H4.out hyt 1200 (by have := HZ.out; rw [bl_lc, List.length_append, List.length_singleton]; omega))
  clear hyu hyt hq HU4
  (go_wp2_with fail; go_fit (HPL.out); rintro e w5 ⟨rfl, M5, g3, g4⟩)
  have HP2 := Lib.hid (put_at g3 ⟨#[125]⟩ (by have := HZ.out; rw [bl_lc, bl_rc, List.length_append, List.length_append, List.length_singleton, List.length_singleton]; omega))
  have HT5 := Lib.hid (HT4.out.trans g4)
  clear g3 g4
  (go_wp2_with fail; go_fit (HP2.out); rintro e w6 ⟨rfl, M6, g3, g4⟩)
  have G3 := Lib.hid g3
  have G4 := Lib.hid (HT5.out.trans g4)
  clear g3 g4
  go_wp2
  go_end0
  exact ⟨rfl, M6, by rw [HE.out]; have := G3.out; rw [bl_lc, bl_rc] at this; simpa using this, G4.out⟩
set_option maxHeartbeats 8000000 in
theorem bare_called_d (HA : BareC n wb xs vs) {k nn : Int} {s : ByteArray} {ts : List Tm} (hx : sizeN (.mk k nn s ts) ≤ n) (hg : goodT (.mk k nn s ts) = true) (ho : (opW (preO xs) (betO xs) (.mk k nn s ts)).2 = false) (hdot : bl s = [46]) (hm0 : ts.length ≠ 2) (h : Wr M w wb xs vs out) {v : Value} (hv : TmV (hide M w) (.mk k nn s ts) v)
    (hz : out.length + (BARE vs (preO xs) (betO xs) (.mk k nn s ts)).length ≤ 1000000000) :
    Calls Tryz.prog 90 #[.pointer (some ⟨wb, 0, none⟩), v] w (WPost M w wb xs vs (out ++ BARE vs (preO xs) (betO xs) (.mk k nn s ts))) := by
  obtain ⟨u, rfl, hs, hk64, hn64, hu⟩ := tmV_iff.1 hv
  obtain ⟨au, cu, rfl, hu1, hu2, hu3⟩ := hu.len
  unfold BIG at hu3 hs
  unfold maxLen at hu2
  have hv0 := hv
  have hE : BARE vs (preO xs) (betO xs) (.mk k nn s ts) = calledW vs (placeT xs vs 999) (.mk k nn s ts) := by
    rw [BARE_eq]; unfold bareW; rw [if_neg (by rw [ho]; decide), if_neg (by show ¬ ((k == 2 && (bl s == [46] && decide (ts.length = 2))) = true); simp [hm0]), if_neg (by show ¬ ((bl s == [123, 125] && decide (ts.length = 1)) = true); rw [hdot]; simp)]
  obtain ⟨m, hm⟩ : ∃ m, ts.length = m := ⟨_, rfl⟩
  rw [hm] at hu hu1 hu3 hv0 hm0
  rw [hm]
  have hdt : (s.toList == [46]) = true := by rw [Lib.toList_data]; exact beq_iff_eq.2 hdot
  have hct : (s.toList == [123, 125]) = false := by
    rw [Lib.toList_data]
    have : s.data.toList = [46] := hdot
    rw [this]; rfl
  have hmm : ((m : Int) == 2) = false := beq_false_of_ne (by omega)
  obtain ⟨⟨⟨on, ok, ol⟩, og⟩, hop⟩ : ∃ Y, opW (preO xs) (betO xs) (.mk k nn s ts) = Y := ⟨_, rfl⟩
  rw [hop] at ho
  have hog : og = false := ho
  subst hog
  have HE := Lib.hid hE
  rw [hE] at hz
  have HZ := Lib.hid hz
  have HYG := Lib.hid (And.intro hx hg)
  obtain ⟨w1, hw1, hb1, hz1, hx1⟩ := box_new w #[.int .i64 k, .int .i64 nn, .string s, .slice au m cu] 27
  have h1 := h.later hb1
  have hv1 := TmV.later hb1 hv0
  have HOP := operator_at h1 hv1
  rw [hop] at HOP
  have HOP := Lib.hid HOP
  have H1 := Lib.hid h1
  have HX1 := Lib.hid hx1
  have HU1 := Lib.hid (Tms.later hb1 hu)
  have HT1 := Lib.hid (show Turn M M M M w w1 from Turn.below hb1)
  have HMB := Lib.hid (h.new (Nat.le_refl w.heap.size))
  have HMO := Lib.hid h.old
  have HS1 := Lib.hid hb1.size
  have HAA := Lib.hid HA
  obtain ⟨b0, b1, b2, b3, bf⟩ := hx1.four
  have HV1 := Lib.hid hv1
  clear h hv hv0 hz hu hb1 hx1 hz1 h1 hv1 hop ho hE HA hg hx hm hdot hm0
  go_enter Tryz.func90, Tryz.ntmps90
  go_wp2_with fail
  (try rw [hw1])
  clear hw1
  (go_wp2_with fail; go_fit (HOP.out); rintro e w2 ⟨rfl, hb2⟩)
  obtain ⟨w3, hw3, hb3, hz3, hx3⟩ := box_new w2 #[.string on, .string ok, .int .i64 ol] 33
  have hb23 := Ext.trans' hb2 hb3
  have H3 := Lib.hid (H1.out.later hb23)
  have HX3 := Lib.hid hx3
  have HX13 := Lib.hid (HX1.out.ext hb23)
  have HU3 := Lib.hid (Tms.later hb23 HU1.out)
  have HT3 := Lib.hid (HT1.out.trans (show Turn M M M M w1 w3 from Turn.below hb23))
  have HMX := Lib.hid (HMO.out w2.heap.size (Nat.le_trans HS1.out hb2.size))
  clear b0 b1 b2 b3 bf
  obtain ⟨b0, b1, b2, b3, bf⟩ := HX13.out.four
  obtain ⟨d0, d1, d2, df⟩ := hx3.three
  have HLS := Lib.hid (called_item (item_all HAA.out) HYG.out.2 (fun y hy => (by have := arg_size hy; have := HYG.out.1; omega)) H3.out (TmV.later hb23 HV1.out) HZ.out)
  clear hb2 hb3 hb23 hx3 hz3
  go_wp2_with fail
  (try rw [hw3])
  clear hw3
  clear d0 d1 d2 df
  (go_wp2_with fail; go_fit (HLS.out); rintro e w4 ⟨rfl, M4, g3, g4⟩)
  have G3 := Lib.hid g3
  have G4 := Lib.hid (HT3.out.trans g4)
  clear g3 g4
  go_wp2
  go_end0
  exact ⟨rfl, M4, by rw [HE.out]; exact G3.out, G4.out⟩
set_option maxHeartbeats 8000000 in
theorem bare_called_c (HA : BareC n wb xs vs) {k nn : Int} {s : ByteArray} {ts : List Tm} (hx : sizeN (.mk k nn s ts) ≤ n) (hg : goodT (.mk k nn s ts) = true) (ho : (opW (preO xs) (betO xs) (.mk k nn s ts)).2 = false) (hcu : bl s = [123, 125]) (hm0 : ts.length ≠ 1) (h : Wr M w wb xs vs out) {v : Value} (hv : TmV (hide M w) (.mk k nn s ts) v)
    (hz : out.length + (BARE vs (preO xs) (betO xs) (.mk k nn s ts)).length ≤ 1000000000) :
    Calls Tryz.prog 90 #[.pointer (some ⟨wb, 0, none⟩), v] w (WPost M w wb xs vs (out ++ BARE vs (preO xs) (betO xs) (.mk k nn s ts))) := by
  obtain ⟨u, rfl, hs, hk64, hn64, hu⟩ := tmV_iff.1 hv
  obtain ⟨au, cu, rfl, hu1, hu2, hu3⟩ := hu.len
  unfold BIG at hu3 hs
  unfold maxLen at hu2
  have hv0 := hv
  have hE : BARE vs (preO xs) (betO xs) (.mk k nn s ts) = calledW vs (placeT xs vs 999) (.mk k nn s ts) := by
    rw [BARE_eq]; unfold bareW; rw [if_neg (by rw [ho]; decide), if_neg (by show ¬ ((k == 2 && (bl s == [46] && decide (ts.length = 2))) = true); rw [hcu]; simp), if_neg (by show ¬ ((bl s == [123, 125] && decide (ts.length = 1)) = true); simp [hm0])]
  obtain ⟨m, hm⟩ : ∃ m, ts.length = m := ⟨_, rfl⟩
  rw [hm] at hu hu1 hu3 hv0 hm0
  rw [hm]
  have hct : (s.toList == [123, 125]) = true := by rw [Lib.toList_data]; exact beq_iff_eq.2 hcu
  have hdt : (s.toList == [46]) = false := by
    rw [Lib.toList_data]
    have : s.data.toList = [123, 125] := hcu
    rw [this]; rfl
  have hmm : ((m : Int) == 1) = false := beq_false_of_ne (by omega)
  obtain ⟨⟨⟨on, ok, ol⟩, og⟩, hop⟩ : ∃ Y, opW (preO xs) (betO xs) (.mk k nn s ts) = Y := ⟨_, rfl⟩
  rw [hop] at ho
  have hog : og = false := ho
  subst hog
  have HE := Lib.hid hE
  rw [hE] at hz
  have HZ := Lib.hid hz
  have HYG := Lib.hid (And.intro hx hg)
  obtain ⟨w1, hw1, hb1, hz1, hx1⟩ := box_new w #[.int .i64 k, .int .i64 nn, .string s, .slice au m cu] 27
  have h1 := h.later hb1
  have hv1 := TmV.later hb1 hv0
  have HOP := operator_at h1 hv1
  rw [hop] at HOP
  have HOP := Lib.hid HOP
  have H1 := Lib.hid h1
  have HX1 := Lib.hid hx1
  have HU1 := Lib.hid (Tms.later hb1 hu)
  have HT1 := Lib.hid (show Turn M M M M w w1 from Turn.below hb1)
  have HMB := Lib.hid (h.new (Nat.le_refl w.heap.size))
  have HMO := Lib.hid h.old
  have HS1 := Lib.hid hb1.size
  have HAA := Lib.hid HA
  obtain ⟨b0, b1, b2, b3, bf⟩ := hx1.four
  have HV1 := Lib.hid hv1
  clear h hv hv0 hz hu hb1 hx1 hz1 h1 hv1 hop ho hE HA hg hx hm hcu hm0
  go_enter Tryz.func90, Tryz.ntmps90
  go_wp2_with fail
  (try rw [hw1])
  clear hw1
  (go_wp2_with fail; go_fit (HOP.out); rintro e w2 ⟨rfl, hb2⟩)
  obtain ⟨w3, hw3, hb3, hz3, hx3⟩ := box_new w2 #[.string on, .string ok, .int .i64 ol] 33
  have hb23 := Ext.trans' hb2 hb3
  have H3 := Lib.hid (H1.out.later hb23)
  have HX3 := Lib.hid hx3
  have HX13 := Lib.hid (HX1.out.ext hb23)
  have HU3 := Lib.hid (Tms.later hb23 HU1.out)
  have HT3 := Lib.hid (HT1.out.trans (show Turn M M M M w1 w3 from Turn.below hb23))
  have HMX := Lib.hid (HMO.out w2.heap.size (Nat.le_trans HS1.out hb2.size))
  clear b0 b1 b2 b3 bf
  obtain ⟨b0, b1, b2, b3, bf⟩ := HX13.out.four
  obtain ⟨d0, d1, d2, df⟩ := hx3.three
  have HLS := Lib.hid (called_item (item_all HAA.out) HYG.out.2 (fun y hy => (by have := arg_size hy; have := HYG.out.1; omega)) H3.out (TmV.later hb23 HV1.out) HZ.out)
  clear hb2 hb3 hb23 hx3 hz3
  go_wp2_with fail
  (try rw [hw3])
  clear hw3
  clear d0 d1 d2 df
  (go_wp2_with fail; go_fit (HLS.out); rintro e w4 ⟨rfl, M4, g3, g4⟩)
  have G3 := Lib.hid g3
  have G4 := Lib.hid (HT3.out.trans g4)
  clear g3 g4
  go_wp2
  go_end0
  exact ⟨rfl, M4, by rw [HE.out]; exact G3.out, G4.out⟩
set_option maxHeartbeats 8000000 in
theorem bare_called_n (HA : BareC n wb xs vs) {k nn : Int} {s : ByteArray} {ts : List Tm} (hx : sizeN (.mk k nn s ts) ≤ n) (hg : goodT (.mk k nn s ts) = true) (ho : (opW (preO xs) (betO xs) (.mk k nn s ts)).2 = false) (hdot : bl s ≠ [46]) (hcu : bl s ≠ [123, 125]) (h : Wr M w wb xs vs out) {v : Value} (hv : TmV (hide M w) (.mk k nn s ts) v)
    (hz : out.length + (BARE vs (preO xs) (betO xs) (.mk k nn s ts)).length ≤ 1000000000) :
    Calls Tryz.prog 90 #[.pointer (some ⟨wb, 0, none⟩), v] w (WPost M w wb xs vs (out ++ BARE vs (preO xs) (betO xs) (.mk k nn s ts))) := by
  obtain ⟨u, rfl, hs, hk64, hn64, hu⟩ := tmV_iff.1 hv
  obtain ⟨au, cu, rfl, hu1, hu2, hu3⟩ := hu.len
  unfold BIG at hu3 hs
  unfold maxLen at hu2
  have hv0 := hv
  have hE : BARE vs (preO xs) (betO xs) (.mk k nn s ts) = calledW vs (placeT xs vs 999) (.mk k nn s ts) := by
    rw [BARE_eq]; unfold bareW; rw [if_neg (by rw [ho]; decide), if_neg (by show ¬ ((k == 2 && (bl s == [46] && decide (ts.length = 2))) = true); simp [hdot]), if_neg (by show ¬ ((bl s == [123, 125] && decide (ts.length = 1)) = true); simp [hcu])]
  obtain ⟨m, hm⟩ : ∃ m, ts.length = m := ⟨_, rfl⟩
  rw [hm] at hu hu1 hu3 hv0
  rw [hm]
  have hdt : (s.toList == [46]) = false := by rw [Lib.toList_data]; exact beq_false_of_ne hdot
  have hct : (s.toList == [123, 125]) = false := by rw [Lib.toList_data]; exact beq_false_of_ne hcu
  obtain ⟨⟨⟨on, ok, ol⟩, og⟩, hop⟩ : ∃ Y, opW (preO xs) (betO xs) (.mk k nn s ts) = Y := ⟨_, rfl⟩
  rw [hop] at ho
  have hog : og = false := ho
  subst hog
  have HE := Lib.hid hE
  rw [hE] at hz
  have HZ := Lib.hid hz
  have HYG := Lib.hid (And.intro hx hg)
  obtain ⟨w1, hw1, hb1, hz1, hx1⟩ := box_new w #[.int .i64 k, .int .i64 nn, .string s, .slice au m cu] 27
  have h1 := h.later hb1
  have hv1 := TmV.later hb1 hv0
  have HOP := operator_at h1 hv1
  rw [hop] at HOP
  have HOP := Lib.hid HOP
  have H1 := Lib.hid h1
  have HX1 := Lib.hid hx1
  have HU1 := Lib.hid (Tms.later hb1 hu)
  have HT1 := Lib.hid (show Turn M M M M w w1 from Turn.below hb1)
  have HMB := Lib.hid (h.new (Nat.le_refl w.heap.size))
  have HMO := Lib.hid h.old
  have HS1 := Lib.hid hb1.size
  have HAA := Lib.hid HA
  obtain ⟨b0, b1, b2, b3, bf⟩ := hx1.four
  have HV1 := Lib.hid hv1
  clear h hv hv0 hz hu hb1 hx1 hz1 h1 hv1 hop ho hE HA hg hx hm hdot hcu
  go_enter Tryz.func90, Tryz.ntmps90
  go_wp2_with fail
  (try rw [hw1])
  clear hw1
  (go_wp2_with fail; go_fit (HOP.out); rintro e w2 ⟨rfl, hb2⟩)
  obtain ⟨w3, hw3, hb3, hz3, hx3⟩ := box_new w2 #[.string on, .string ok, .int .i64 ol] 33
  have hb23 := Ext.trans' hb2 hb3
  have H3 := Lib.hid (H1.out.later hb23)
  have HX3 := Lib.hid hx3
  have HX13 := Lib.hid (HX1.out.ext hb23)
  have HU3 := Lib.hid (Tms.later hb23 HU1.out)
  have HT3 := Lib.hid (HT1.out.trans (show Turn M M M M w1 w3 from Turn.below hb23))
  have HMX := Lib.hid (HMO.out w2.heap.size (Nat.le_trans HS1.out hb2.size))
  clear b0 b1 b2 b3 bf
  obtain ⟨b0, b1, b2, b3, bf⟩ := HX13.out.four
  obtain ⟨d0, d1, d2, df⟩ := hx3.three
  have HLS := Lib.hid (called_item (item_all HAA.out) HYG.out.2 (fun y hy => (by have := arg_size hy; have := HYG.out.1; omega)) H3.out (TmV.later hb23 HV1.out) HZ.out)
  clear hb2 hb3 hb23 hx3 hz3
  go_wp2_with fail
  (try rw [hw3])
  clear hw3
  clear d0 d1 d2 df
  (go_wp2_with fail; go_fit (HLS.out); rintro e w4 ⟨rfl, M4, g3, g4⟩)
  have G3 := Lib.hid g3
  have G4 := Lib.hid (HT3.out.trans g4)
  clear g3 g4
  go_wp2
  go_end0
  exact ⟨rfl, M4, by rw [HE.out]; exact G3.out, G4.out⟩
theorem bare_step (HA : BareC n wb xs vs) : BareC (n + 1) wb xs vs := by
  intro x hx hg M w out v h hv hz
  have hx' : sizeN x ≤ n := by omega
  cases x with
  | mk k nn s ts =>
  have hf := (good_parts hg).2.2
  rw [formedT, Bool.and_eq_true] at hf
  have hp := hf.1
  have hk2 : ts ≠ [] → k = 2 ∧ nn = 0 := fun hne => by
    have hl : ts.length ≠ 0 := fun e => hne (List.length_eq_zero_iff.1 e)
    unfold plainT at hp
    by_cases h0 : k = 0
    · rw [if_pos h0] at hp
      simp only [Bool.and_eq_true, decide_eq_true_eq] at hp
      exact absurd hp.2 hl
    · by_cases h1 : k = 1
      · rw [if_neg h0, if_pos h1] at hp
        simp only [Bool.and_eq_true, decide_eq_true_eq] at hp
        exact absurd hp.2 hl
      · by_cases h2 : k = 2
        · rw [if_neg h0, if_neg h1, if_pos h2] at hp
          simp only [Bool.and_eq_true, decide_eq_true_eq] at hp
          exact ⟨h2, hp.1.1.1⟩
        · rw [if_neg h0, if_neg h1, if_neg h2] at hp
          cases hp
  cases ho : (opW (preO xs) (betO xs) (.mk k nn s ts)).2 with
  | true =>
    match ts, ho, hk2, hx', hg, hv, hz with
    | [], ho, _, _, _, _, _ => cases ho
    | [y], ho, hk2, hx', hg, hv, hz =>
      obtain ⟨rfl, rfl⟩ := hk2 (by simp)
      exact bare_one HA hx' hg ho h hv hz
    | [y, z], ho, hk2, hx', hg, hv, hz =>
      obtain ⟨rfl, rfl⟩ := hk2 (by simp)
      exact bare_two HA hx' hg ho h hv hz
    | a :: b :: c :: r, ho, _, _, _, _, _ => cases ho
  | false =>
    by_cases hdot : bl s = [46]
    · by_cases hm : ts.length = 2
      · match ts, hm, ho, hk2, hx', hg, hv, hz with
        | [y, z], _, ho, hk2, hx', hg, hv, hz =>
          obtain ⟨rfl, rfl⟩ := hk2 (by simp)
          exact bare_list HA hx' hg ho hdot h hv hz
      · exact bare_called_d HA hx' hg ho hdot hm h hv hz
    · by_cases hcu : bl s = [123, 125]
      · by_cases hm : ts.length = 1
        · match ts, hm, ho, hk2, hx', hg, hv, hz with
          | [y], _, ho, hk2, hx', hg, hv, hz =>
            obtain ⟨rfl, rfl⟩ := hk2 (by simp)
            exact bare_curly HA hx' hg ho hcu h hv hz
        · exact bare_called_c HA hx' hg ho hcu hm h hv hz
      · exact bare_called_n HA hx' hg ho hdot hcu h hv hz
end
theorem bare_all {wb : Nat} {xs : List O} {vs : List Int} : ∀ n, BareC n wb xs vs
  | 0 => fun y hy => by omega
  | n + 1 => bare_step (bare_all n)
end Go.Proofs.YtobdhcaoeholhaaGreatDoor
/- How long a written text is. Pure. -/
namespace Go.Proofs.YtobdhcaoeholhaaGreatDoor
open Go.RowKit
set_option linter.unusedVariables false

theorem digF_len : ∀ (f u : Nat), (digF f u).length ≤ f
  | 0, u => by simp [digF]
  | f + 1, u => by
    rw [digF]
    split
    · simp
    · rw [List.length_append, List.length_singleton]
      have := digF_len f (u / 10)
      omega
theorem numW_short (n : Int) : (numW n).length ≤ 26 := by
  unfold numW digW
  split
  · have := digF_len 25 n.natAbs
    rw [List.length_cons]; omega
  · have := digF_len 25 n.toNat
    omega
theorem head_len (vs : List Int) (x : Tm) : (headW vs x).length ≤ 130 := by
  cases x with
  | mk k n s ts =>
    show (if k = 0 then 95 :: numW (idxW vs n) else if k = 1 then numW n else if k = 2 then quoteB (bl s) else []).length ≤ 130
    by_cases h0 : k = 0
    · rw [if_pos h0]
      have := numW_short (idxW vs n)
      rw [List.length_cons]; omega
    · rw [if_neg h0]
      by_cases h1 : k = 1
      · rw [if_pos h1]
        have := numW_short n
        omega
      · rw [if_neg h1]
        by_cases h2 : k = 2
        · rw [if_pos h2]; exact quote_size _
        · rw [if_neg h2]; simp
theorem row_short {W : Tm → List UInt8} : ∀ (l : List Tm), (∀ x ∈ l, (W x).length + 8 ≤ 300 * sizeN x) → (rowW W l).length + 7 * l.length ≤ 300 * sizesN l
  | [], _ => by simp [rowW]
  | [x], h => by
    have := h x (by simp)
    show (W x).length + 7 * 1 ≤ 300 * (sizeN x + 0)
    omega
  | x :: y :: r, h => by
    have h1 := h x (by simp)
    have h2 := row_short (y :: r) (fun z hz => h z (List.mem_cons_of_mem _ hz))
    show (W x ++ 44 :: rowW W (y :: r)).length + 7 * ((y :: r).length + 1) ≤ 300 * (sizeN x + sizesN (y :: r))
    rw [List.length_append, List.length_cons]
    omega
theorem called_len {vs : List Int} {W : Tm → List UInt8} {x : Tm} (h : ∀ y ∈ x.args, (W y).length + 8 ≤ 300 * sizeN y) : (calledW vs W x).length + 10 ≤ 300 * sizeN x := by
  have h1 := head_len vs x
  have h2 := row_short x.args h
  have h3 : sizeN x = sizesN x.args + 1 := by cases x; rfl
  unfold calledW
  rw [List.length_append]
  split
  · simp only [List.length_nil]; omega
  · rw [List.length_cons, List.length_append, List.length_singleton]; omega
theorem plainT_len (vs : List Int) : ∀ (N : Nat) (x : Tm), sizeN x ≤ N → (PLAIN vs x).length + 10 ≤ 300 * sizeN x
  | 0, x, h => by have := size_pos x; omega
  | N + 1, x, h => by
    rw [PLAIN_eq]
    refine called_len (fun y hy => ?_)
    have := plainT_len vs N y (by have := arg_size hy; omega)
    omega
theorem items_sum : ∀ (m : Nat) (t : Tm), sizeN t ≤ m → sizesN (itemsT t).1 + sizeN (itemsT t).2 + (itemsT t).1.length ≤ sizeN t
  | 0, t, h => by have := size_pos t; omega
  | m + 1, t, h => by
    cases hq : pairT t with
    | none => rw [items_none hq]; simp [sizesN]
    | some q =>
      obtain ⟨a, b⟩ := q
      obtain ⟨h1, h2, h3, h4⟩ := pair_size hq
      rw [items_some hq]
      have ih := items_sum m b (by omega)
      cases t with
      | mk k n s ts =>
        have h2' : ts = [a, b] := h2
        subst h2'
        rw [sizeN, sizesN, sizesN, sizesN]
        simp only [sizesN, List.length_cons]
        omega
theorem size_one {x a : Tm} (h : x.args = [a]) : sizeN x = sizeN a + 1 := by
  cases x with
  | mk k n s ts =>
    have h' : ts = [a] := h
    rw [h', sizeN, sizesN, sizesN]
theorem wsize_two {x a b : Tm} (h : x.args = [a, b]) : sizeN x = sizeN a + (sizeN b + 0) + 1 := by
  cases x with
  | mk k n s ts =>
    have h' : ts = [a, b] := h
    rw [h', sizeN, sizesN, sizesN, sizesN]
section
variable {pre bet : List UInt8 → O × Bool} {vs : List Int}
theorem place_len {B : Tm → List UInt8} {m : Int} {x : Tm} (h : (B x).length + 10 ≤ 300 * sizeN x) : (placeW pre bet B m x).length + 8 ≤ 300 * sizeN x := by
  unfold placeW
  split
  · omega
  · rw [List.length_cons, List.length_append, List.length_singleton]; omega
theorem bare_len : ∀ (N : Nat) (x : Tm), sizeN x ≤ N → (BARE vs pre bet x).length + 10 ≤ 300 * sizeN x
  | 0, x, h => by have := size_pos x; omega
  | N + 1, x, h => by
    have ih : ∀ y, sizeN y < sizeN x → ∀ m, (placeW pre bet (BARE vs pre bet) m y).length + 8 ≤ 300 * sizeN y := fun y hy m => place_len (bare_len N y (by omega))
    rw [BARE_eq]
    unfold bareW
    split
    · split
      · rename_i a he
        have h1 := ih a (arg_size (by rw [he]; simp)) (mostW pre bet a (sidesB (bl (opW pre bet x).1.k) (opW pre bet x).1.l).2)
        have h2 : sizeN x = sizeN a + 1 := size_one he
        have h3 := quote_size (bl (opW pre bet x).1.n)
        unfold aheadW besideW
        rw [List.length_append, List.length_cons]
        omega
      · rename_i a b he
        have h1 := ih a (arg_size (by rw [he]; simp)) (mostW pre bet a (leftW pre bet (opW pre bet x).1 a))
        have h1b := ih b (arg_size (by rw [he]; simp)) (mostW pre bet b (sidesB (bl (opW pre bet x).1.k) (opW pre bet x).1.l).2)
        have h2 : sizeN x = sizeN a + (sizeN b + 0) + 1 := wsize_two he
        have h3 := quote_size (bl (opW pre bet x).1.n)
        have h4 : (if bl (opW pre bet x).1.n == [44] then [44] else 32 :: (quoteB (bl (opW pre bet x).1.n) ++ [32])).length ≤ 132 := by
          split
          · simp
          · rw [List.length_cons, List.length_append, List.length_singleton]; omega
        unfold betweenW besideW
        rw [List.length_append, List.length_append]
        omega
      · have := size_pos x
        simp only [List.length_nil]
        omega
    · split
      · rename_i hl
        have hs := items_sum (sizeN x) x (Nat.le_refl _)
        have hi := items_size (sizeN x) x (Nat.le_refl _)
        have hne : (itemsT x).1 ≠ [] := by
          cases x with
          | mk k n s ts =>
            simp only [Bool.and_eq_true, beq_iff_eq, decide_eq_true_eq] at hl
            obtain ⟨hk, hsn, hln⟩ := hl
            have hk2 : k = 2 := hk
            have hs2 : s.data.toList = [46] := hsn
            have hl2 : ts.length = 2 := hln
            clear hk hsn hln
            match ts, hl2 with
            | [a, b], _ =>
              have hp : pairT (.mk k n s [a, b]) = some (a, b) := by
                show (if (k == 2 && s.data.toList == [46]) = true then some (a, b) else none) = _
                rw [hk2, hs2]
                rfl
              rw [items_some hp]
              simp
        have hl1 : 1 ≤ (itemsT x).1.length := by
          cases h : (itemsT x).1 with
          | nil => exact absurd h hne
          | cons a r => simp
        have hr := row_short (W := placeW pre bet (BARE vs pre bet) 999) (itemsT x).1 (fun y hy => ih y (hi.1 y hy) 999)
        have ht : (tailW pre bet (BARE vs pre bet) (itemsT x).2).length ≤ 300 * sizeN (itemsT x).2 := by
          unfold tailW
          split
          · simp
          · rcases hi.2 with h | ⟨h, _⟩
            · have := ih _ h 999
              rw [List.length_cons]; omega
            · exact absurd h hne
        unfold listW
        rw [List.length_cons, List.length_append, List.length_append, List.length_singleton]
        omega
      · split
        · split
          · rename_i a he
            have h1 := ih a (arg_size (by rw [he]; simp)) 1200
            have h2 : sizeN x = sizeN a + 1 := size_one he
            rw [List.length_cons, List.length_append, List.length_singleton]
            omega
          · have := size_pos x
            simp
            omega
        · exact called_len (fun y hy => ih y (arg_size hy) 999)
theorem write_len {x : Tm} (hx : goodT x = true) : (WRITE vs pre bet x).length ≤ 1000000 := by
  have h1 := place_len (pre := pre) (bet := bet) (m := 1200) (bare_len (vs := vs) (pre := pre) (bet := bet) (sizeN x) x (Nat.le_refl _))
  have h2 := (good_parts hx).1
  unfold WRITE
  omega
theorem plain_short2 {x : Tm} (hx : goodT x = true) : (PLAIN vs x).length ≤ 1000000 := by
  have h1 := plainT_len vs (sizeN x) x (Nat.le_refl _)
  have h2 := (good_parts hx).1
  omega
end
end Go.Proofs.YtobdhcaoeholhaaGreatDoor
