import Derived.Test.YtobdhcaoeholhaaGreatDoorHbyar
import Derived.Test.YtobdhcaoeholhaaGreatDoorHbyas
import Derived.Test.YtobdhcaoeholhaaGreatDoorHbyac
set_option linter.unusedVariables false
set_option linter.unusedSimpArgs false
/- The project's writer: place, beside, item; an operator ahead, an operator between. -/
namespace Go.Proofs.YtobdhcaoeholhaaGreatDoor
open Go.Shelf Go.RowKit
set_option linter.unusedVariables false
set_option maxRecDepth 100000

/-- What bare does. -/
def BareC (n : Nat) (wb : Nat) (xs : List O) (vs : List Int) : Prop :=
  ∀ (y : Tm), sizeN y < n → goodT y = true → ∀ (M : Nat → Bool) (w : World) (out : List UInt8) (v : Value), Wr M w wb xs vs out → TmV (hide M w) y v → out.length + (BARE vs (preO xs) (betO xs) y).length ≤ 1000000000 → Calls Tryz.prog 90 #[.pointer (some ⟨wb, 0, none⟩), v] w (WPost M w wb xs vs (out ++ BARE vs (preO xs) (betO xs) y))
abbrev placeT (xs : List O) (vs : List Int) (m : Int) (x : Tm) : List UInt8 := placeW (preO xs) (betO xs) (BARE vs (preO xs) (betO xs)) m x
abbrev besideT (xs : List O) (vs : List Int) (x : Tm) (m : Int) : List UInt8 := besideW (preO xs) (betO xs) (BARE vs (preO xs) (betO xs)) x m
section
variable {n wb : Nat} {xs : List O} {vs : List Int} {M : Nat → Bool} {w : World} {out : List UInt8}
set_option maxHeartbeats 4000000 in
theorem place_at (HA : BareC n wb xs vs) {y : Tm} (hy : sizeN y < n) (hg : goodT y = true) (h : Wr M w wb xs vs out) {v : Value} (hv : TmV (hide M w) y v) (most : Int) (hz : out.length + (placeT xs vs most y).length ≤ 1000000000) :
    Calls Tryz.prog 55 #[.pointer (some ⟨wb, 0, none⟩), v, .int .i64 most] w (WPost M w wb xs vs (out ++ placeT xs vs most y)) := by
  obtain ⟨k, nn, s, a, m, c, rfl⟩ := hv.full
  obtain ⟨w1, hw1, hb1, hz1, hx1⟩ := box_new w #[.int .i64 k, .int .i64 nn, .string s, .slice a m c] 27
  obtain ⟨b0, b1, b2, b3, bf⟩ := hx1.four
  have h1 := h.later hb1
  have hv1 := TmV.later hb1 hv
  have HLV := Lib.hid (level_at h1 hv1)
  have H1 := Lib.hid h1
  have HV1 := Lib.hid hv1
  have HAA := Lib.hid HA
  have HYG := Lib.hid (And.intro hy hg)
  have HT1 := Lib.hid (show Turn M M M M w w1 from Turn.below hb1)
  have HX1 := Lib.hid hx1
  have HMB := Lib.hid (h.new (Nat.le_refl w.heap.size))
  obtain ⟨L, hL⟩ : ∃ L, levW (preO xs) (betO xs) y = L := ⟨_, rfl⟩
  rw [hL] at HLV
  by_cases hc : L ≤ most
  · have hcd : decide (L ≤ most) = true := decide_eq_true hc
    have hp : placeT xs vs most y = BARE vs (preO xs) (betO xs) y := by unfold placeT placeW; rw [hL, if_pos hc]
    have HP := Lib.hid hp
    have HZ := Lib.hid (show out.length + (BARE vs (preO xs) (betO xs) y).length ≤ 1000000000 by rw [← hp]; exact hz)
    clear h hv hz h1 hv1 hb1 hx1 hz1 hL hc hp HA hy hg
    go_enter Tryz.func55, Tryz.ntmps55
    go_wp2_with fail
    (try rw [hw1])
    clear hw1
    (go_wp2_with fail; go_fit (HLV.out); rintro e w2 ⟨rfl, hb2⟩)
    have HC := Lib.hid (HAA.out y HYG.out.1 HYG.out.2 M w2 out _ (H1.out.later hb2) (TmV.later hb2 HV1.out) HZ.out)
    have HT2 := Lib.hid (HT1.out.trans (show Turn M M M M w1 w2 from Turn.below hb2))
    obtain ⟨b0, b1, b2, b3, bf⟩ := (HX1.out.ext hb2).four
    clear hb2
    (go_wp2_with fail; go_fit (HC.out); rintro e w3 ⟨rfl, M3, g3, g4⟩)
    have G3 := Lib.hid g3
    have G4 := Lib.hid (HT2.out.trans g4)
    clear g3 g4
    go_wp2
    go_end0
    exact ⟨rfl, M3, by rw [HP.out]; exact G3.out, G4.out⟩
  · have hcd : decide (L ≤ most) = false := decide_eq_false hc
    have hp : placeT xs vs most y = 40 :: (BARE vs (preO xs) (betO xs) y ++ [41]) := by unfold placeT placeW; rw [hL, if_neg hc]
    have HP := Lib.hid hp
    have HZ := Lib.hid (show out.length + ((BARE vs (preO xs) (betO xs) y).length + 2) ≤ 1000000000 by rw [hp, List.length_cons, List.length_append, List.length_singleton] at hz; omega)
    clear h hv hz h1 hv1 hb1 hx1 hz1 hL hc hp HA hy hg
    go_enter Tryz.func55, Tryz.ntmps55
    go_wp2_with fail
    (try rw [hw1])
    clear hw1
    (go_wp2_with fail; go_fit (HLV.out); rintro e w2 ⟨rfl, hb2⟩)
    have HPU := Lib.hid (put_at (H1.out.later hb2) ⟨#[40]⟩ (by have := HZ.out; rw [open_bl1, List.length_singleton]; omega))
    have HV2 := Lib.hid (TmV.later hb2 HV1.out)
    have HT2 := Lib.hid (HT1.out.trans (show Turn M M M M w1 w2 from Turn.below hb2))
    have HX2 := Lib.hid (HX1.out.ext hb2)
    clear hb2
    (go_wp2_with fail; go_fit (HPU.out); rintro e w3 ⟨rfl, M3, g3, g4⟩)
    have HC := Lib.hid (HAA.out y HYG.out.1 HYG.out.2 M3 w3 _ _ g3 (HV2.out.turn g4) (by have := HZ.out; rw [open_bl1, List.length_append, List.length_singleton]; omega))
    have HT3 := Lib.hid (HT2.out.trans g4)
    clear b0 b1 b2 b3 bf
    obtain ⟨b0, b1, b2, b3, bf⟩ := (HX2.out.turn g4 HMB.out).four
    clear g3 g4
    (go_wp2_with fail; go_fit (HC.out); rintro e w4 ⟨rfl, M4, g3, g4⟩)
    have HPV := Lib.hid (put_at g3 ⟨#[41]⟩ (by have := HZ.out; rw [open_bl1, shut_bl1, List.length_append, List.length_append, List.length_singleton, List.length_singleton]; omega))
    have HT4 := Lib.hid (HT3.out.trans g4)
    clear g3 g4
    (go_wp2_with fail; go_fit (HPV.out); rintro e w5 ⟨rfl, M5, g3, g4⟩)
    have G3 := Lib.hid g3
    have G4 := Lib.hid (HT4.out.trans g4)
    clear g3 g4
    go_wp2
    go_end0
    exact ⟨rfl, M5, by rw [HP.out]; have := G3.out; rw [open_bl1, shut_bl1] at this; simpa using this, G4.out⟩
set_option maxHeartbeats 2000000 in
theorem item_all (HA : BareC n wb xs vs) : ArgC 136 (placeT xs vs 999) n wb xs vs := by
  intro y hy hg M w out v h hv hz
  obtain ⟨k, nn, s, a, m, c, rfl⟩ := hv.full
  obtain ⟨w1, hw1, hb1, hz1, hx1⟩ := box_new w #[.int .i64 k, .int .i64 nn, .string s, .slice a m c] 27
  obtain ⟨b0, b1, b2, b3, bf⟩ := hx1.four
  have HC := Lib.hid (place_at HA hy hg (h.later hb1) (TmV.later hb1 hv) 999 hz)
  have HT1 := Lib.hid (show Turn M M M M w w1 from Turn.below hb1)
  clear h hv hz hb1 hx1 hz1
  go_enter Tryz.func136, Tryz.ntmps136
  go_wp2_with fail
  (try rw [hw1])
  clear hw1
  (go_wp2_with fail; go_fit (HC.out); rintro e w2 ⟨rfl, M2, g1, g2⟩)
  have G1 := Lib.hid g1
  have G2 := Lib.hid (HT1.out.trans g2)
  clear g1 g2
  go_wp2
  go_end0
  exact ⟨rfl, M2, G1.out, G2.out⟩
set_option maxHeartbeats 8000000 in
theorem beside_at (HA : BareC n wb xs vs) {y : Tm} (hy : sizeN y < n) (hg : goodT y = true) (h : Wr M w wb xs vs out) {v : Value} (hv : TmV (hide M w) y v) (most : Int) (hz : out.length + (besideT xs vs y most).length ≤ 1000000000) :
    Calls Tryz.prog 168 #[.pointer (some ⟨wb, 0, none⟩), v, .int .i64 most] w (WPost M w wb xs vs (out ++ besideT xs vs y most)) := by
  have PL : ∀ m, mostW (preO xs) (betO xs) y most = m → ∀ wq, Below w.heap.size w wq → Calls Tryz.prog 55 #[.pointer (some ⟨wb, 0, none⟩), v, .int .i64 m] wq (WPost M wq wb xs vs (out ++ besideT xs vs y most)) := fun m hm wq hb => by
    have e : besideT xs vs y most = placeT xs vs m y := by unfold besideT besideW; rw [hm]
    rw [e]
    exact place_at HA hy hg (h.later hb) (TmV.later hb hv) m (by rw [← e]; exact hz)
  have hmw : mostW (preO xs) (betO xs) y most = if y.args.isEmpty && decide (0 < levW (preO xs) (betO xs) y) || (y.k == 1 && decide (y.n < 0)) then -1 else most := rfl
  cases y with
  | mk k nn s ts =>
  have HLA := Lib.hid (fun wq (hb : Below w.heap.size w wq) => level_at (h.later hb) (TmV.later hb hv))
  obtain ⟨u, rfl, hs, hk64, hn64, hu⟩ := tmV_iff.1 hv
  obtain ⟨a, c, rfl, hu1, hu2, hu3⟩ := hu.len
  unfold BIG at hu3
  unfold maxLen at hu2
  obtain ⟨m, hm⟩ : ∃ m, ts.length = m := ⟨_, rfl⟩
  have hem : (Tm.mk k nn s ts).args.isEmpty = ((m : Int) == 0) := by
    show ts.isEmpty = _
    cases ts with
    | nil => rw [← hm]; rfl
    | cons a r => rw [← hm]; simp; omega
  rw [hem] at hmw
  have hmw : mostW (preO xs) (betO xs) (.mk k nn s ts) most = if ((m : Int) == 0) && decide (0 < levW (preO xs) (betO xs) (.mk k nn s ts)) || (k == 1 && decide (nn < 0)) then -1 else most := hmw
  obtain ⟨L, hL⟩ : ∃ L, levW (preO xs) (betO xs) (.mk k nn s ts) = L := ⟨_, rfl⟩
  rw [hL] at hmw HLA
  rw [hm] at HLA PL hu1 hu3
  rw [hm]
  obtain ⟨w1, hw1, hb1, hz1, hx1⟩ := box_new w #[.int .i64 k, .int .i64 nn, .string s, .slice a m c] 27
  have HX1 := Lib.hid hx1
  have HB1 := Lib.hid hb1
  have HPL := Lib.hid PL
  have HMW := Lib.hid hmw
  have HT1 := Lib.hid (show Turn M M M M w w1 from Turn.below hb1)
  obtain ⟨b0, b1, b2, b3, bf⟩ := hx1.four
  clear h hv hz hu hb1 hx1 hz1 hm hem hmw hL PL HA hy hg
  cases hc0 : ((m : Int) == 0)
  · cases hc2 : (k == 1)
    · have HC := Lib.hid (HPL.out most (by rw [HMW.out, hc0, hc2]; rfl) w1 HB1.out)
      go_enter Tryz.func168, Tryz.ntmps168
      go_wp2_with fail
      (try rw [hw1])
      clear hw1
      (go_wp2_with fail; go_fit (HC.out); rintro e w2 ⟨rfl, M2, g1, g2⟩)
      have G1 := Lib.hid g1
      have G2 := Lib.hid (HT1.out.trans g2)
      clear g1 g2
      go_wp2
      go_end0
      exact ⟨rfl, M2, G1.out, G2.out⟩
    · cases hc3 : decide (nn < 0)
      · have HC := Lib.hid (HPL.out most (by rw [HMW.out, hc0, hc2, hc3]; rfl) w1 HB1.out)
        go_enter Tryz.func168, Tryz.ntmps168
        go_wp2_with fail
        (try rw [hw1])
        clear hw1
        (go_wp2_with fail; go_fit (HC.out); rintro e w2 ⟨rfl, M2, g1, g2⟩)
        have G1 := Lib.hid g1
        have G2 := Lib.hid (HT1.out.trans g2)
        clear g1 g2
        go_wp2
        go_end0
        exact ⟨rfl, M2, G1.out, G2.out⟩
      · have HC := Lib.hid (HPL.out (-1) (by rw [HMW.out, hc0, hc2, hc3]; rfl) w1 HB1.out)
        go_enter Tryz.func168, Tryz.ntmps168
        go_wp2_with fail
        (try rw [hw1])
        clear hw1
        (go_wp2_with fail; go_fit (HC.out); rintro e w2 ⟨rfl, M2, g1, g2⟩)
        have G1 := Lib.hid g1
        have G2 := Lib.hid (HT1.out.trans g2)
        clear g1 g2
        go_wp2
        go_end0
        exact ⟨rfl, M2, G1.out, G2.out⟩
  · cases hc1 : decide (0 < L)
    · cases hc2 : (k == 1)
      · have HMM := Lib.hid (show mostW (preO xs) (betO xs) (.mk k nn s ts) most = most by rw [HMW.out, hc0, hc1, hc2]; rfl)
        have HL1 := Lib.hid (HLA.out w1 HB1.out)
        have hc1' : decide (L > 0) = false := hc1
        clear hc1
        go_enter Tryz.func168, Tryz.ntmps168
        go_wp2_with fail
        (try rw [hw1])
        clear hw1
        (go_wp2_with fail; go_fit (HL1.out); rintro e w2 ⟨rfl, hb2⟩)
        have HC := Lib.hid (HPL.out _ HMM.out w2 (Ext.trans' HB1.out hb2))
        have HT2 := Lib.hid (HT1.out.trans (show Turn M M M M w1 w2 from Turn.below hb2))
        obtain ⟨b0, b1, b2, b3, bf⟩ := (HX1.out.ext hb2).four
        clear hb2
        (go_wp2_with fail; go_fit (HC.out); rintro e w3 ⟨rfl, M2, g1, g2⟩)
        have G1 := Lib.hid g1
        have G2 := Lib.hid (HT2.out.trans g2)
        clear g1 g2
        go_wp2
        go_end0
        exact ⟨rfl, M2, G1.out, G2.out⟩
      · cases hc3 : decide (nn < 0)
        · have HMM := Lib.hid (show mostW (preO xs) (betO xs) (.mk k nn s ts) most = most by rw [HMW.out, hc0, hc1, hc2, hc3]; rfl)
          have HL1 := Lib.hid (HLA.out w1 HB1.out)
          have hc1' : decide (L > 0) = false := hc1
          clear hc1
          go_enter Tryz.func168, Tryz.ntmps168
          go_wp2_with fail
          (try rw [hw1])
          clear hw1
          (go_wp2_with fail; go_fit (HL1.out); rintro e w2 ⟨rfl, hb2⟩)
          have HC := Lib.hid (HPL.out _ HMM.out w2 (Ext.trans' HB1.out hb2))
          have HT2 := Lib.hid (HT1.out.trans (show Turn M M M M w1 w2 from Turn.below hb2))
          obtain ⟨b0, b1, b2, b3, bf⟩ := (HX1.out.ext hb2).four
          clear hb2
          (go_wp2_with fail; go_fit (HC.out); rintro e w3 ⟨rfl, M2, g1, g2⟩)
          have G1 := Lib.hid g1
          have G2 := Lib.hid (HT2.out.trans g2)
          clear g1 g2
          go_wp2
          go_end0
          exact ⟨rfl, M2, G1.out, G2.out⟩
        · have HMM := Lib.hid (show mostW (preO xs) (betO xs) (.mk k nn s ts) most = -1 by rw [HMW.out, hc0, hc1, hc2, hc3]; rfl)
          have HL1 := Lib.hid (HLA.out w1 HB1.out)
          have hc1' : decide (L > 0) = false := hc1
          clear hc1
          go_enter Tryz.func168, Tryz.ntmps168
          go_wp2_with fail
          (try rw [hw1])
          clear hw1
          (go_wp2_with fail; go_fit (HL1.out); rintro e w2 ⟨rfl, hb2⟩)
          have HC := Lib.hid (HPL.out _ HMM.out w2 (Ext.trans' HB1.out hb2))
          have HT2 := Lib.hid (HT1.out.trans (show Turn M M M M w1 w2 from Turn.below hb2))
          obtain ⟨b0, b1, b2, b3, bf⟩ := (HX1.out.ext hb2).four
          clear hb2
          (go_wp2_with fail; go_fit (HC.out); rintro e w3 ⟨rfl, M2, g1, g2⟩)
          have G1 := Lib.hid g1
          have G2 := Lib.hid (HT2.out.trans g2)
          clear g1 g2
          go_wp2
          go_end0
          exact ⟨rfl, M2, G1.out, G2.out⟩
    · have HMM := Lib.hid (show mostW (preO xs) (betO xs) (.mk k nn s ts) most = -1 by rw [HMW.out, hc0, hc1]; rfl)
      have HL1 := Lib.hid (HLA.out w1 HB1.out)
      have hc1' : decide (L > 0) = true := hc1
      clear hc1
      cases hc2 : (k == 1)
      all_goals
        go_enter Tryz.func168, Tryz.ntmps168
        go_wp2_with fail
        (try rw [hw1])
        clear hw1
        (go_wp2_with fail; go_fit (HL1.out); rintro e w2 ⟨rfl, hb2⟩)
        have HC := Lib.hid (HPL.out _ HMM.out w2 (Ext.trans' HB1.out hb2))
        have HT2 := Lib.hid (HT1.out.trans (show Turn M M M M w1 w2 from Turn.below hb2))
        obtain ⟨b0, b1, b2, b3, bf⟩ := (HX1.out.ext hb2).four
        clear hb2
      · (go_wp2_with fail; go_fit (HC.out); rintro e w3 ⟨rfl, M2, g1, g2⟩)
        have G1 := Lib.hid g1
        have G2 := Lib.hid (HT2.out.trans g2)
        clear g1 g2
        go_wp2
        go_end0
        exact ⟨rfl, M2, G1.out, G2.out⟩
      · cases hc3 : decide (nn < 0)
        all_goals
          (go_wp2_with fail; go_fit (HC.out); rintro e w3 ⟨rfl, M2, g1, g2⟩)
          have G1 := Lib.hid g1
          have G2 := Lib.hid (HT2.out.trans g2)
          clear g1 g2
          go_wp2
          go_end0
          exact ⟨rfl, M2, G1.out, G2.out⟩
end
end Go.Proofs.YtobdhcaoeholhaaGreatDoor
/- The project's writer: an operator and what it stands ahead of, or between. -/
namespace Go.Proofs.YtobdhcaoeholhaaGreatDoor
open Go.Shelf Go.RowKit
set_option linter.unusedVariables false
set_option maxRecDepth 100000

theorem quote_ba (s : ByteArray) : (⟨(quoteB (bl s)).toArray⟩ : ByteArray).size ≤ 130 := by
  rw [show (⟨(quoteB (bl s)).toArray⟩ : ByteArray).size = (bl (⟨(quoteB (bl s)).toArray⟩ : ByteArray)).length from (bl_len _).symm, bl_mk]
  exact quote_size _
theorem bl_cat' (a b : ByteArray) : bl (a ++ b) = bl a ++ bl b := by simp [bl]
section
variable {n wb : Nat} {xs : List O} {vs : List Int} {M : Nat → Bool} {w : World} {out : List UInt8}
set_option maxHeartbeats 4000000 in
theorem ahead_at (HA : BareC n wb xs vs) {y : Tm} (hy : sizeN y < n) (hg : goodT y = true) (h : Wr M w wb xs vs out) {v : Value} (hv : TmV (hide M w) y v) (on ok : ByteArray) (ol : Int) (hon : on.size ≤ 140737488351232)
    (hz : out.length + (aheadW (preO xs) (betO xs) (BARE vs (preO xs) (betO xs)) ⟨on, ok, ol⟩ y).length ≤ 1000000000) :
    Calls Tryz.prog 133 #[.pointer (some ⟨wb, 0, none⟩), .agg #[.string on, .string ok, .int .i64 ol], v] w (WPost M w wb xs vs (out ++ aheadW (preO xs) (betO xs) (BARE vs (preO xs) (betO xs)) ⟨on, ok, ol⟩ y)) := by
  obtain ⟨k, nn, s, a, m, c, rfl⟩ := hv.full
  obtain ⟨w1, hw1, hb1, hz1, hx1⟩ := box_new w #[.string on, .string ok, .int .i64 ol] 33
  obtain ⟨w2, hw2, hb2, hz2, hx2⟩ := box_new w1 #[.int .i64 k, .int .i64 nn, .string s, .slice a m c] 27
  have hb12 := Ext.trans' hb1 hb2
  have h2 := h.later hb12
  obtain ⟨sl, sr, hs⟩ : ∃ a b, sidesB (bl ok) ol = (a, b) := ⟨_, _, rfl⟩
  have HSD := sides_walk on ok ol w2
  rw [hs] at HSD
  have HSD := Lib.hid HSD
  have HE : aheadW (preO xs) (betO xs) (BARE vs (preO xs) (betO xs)) ⟨on, ok, ol⟩ y = quoteB (bl on) ++ [32] ++ besideT xs vs y sr := by
    unfold aheadW
    rw [hs]
    simp
  rw [HE, List.length_append, List.length_append, List.length_singleton] at hz
  have HZ := Lib.hid hz
  have HEE := Lib.hid HE
  have HQ := Lib.hid (fun wq (hb : Below w2.heap.size w2 wq) => quote_any on wq (h2.con.err.ext hb) hon)
  obtain ⟨Z, hZ⟩ : ∃ Z : ByteArray, (⟨(quoteB (bl on)).toArray⟩ : ByteArray) = Z := ⟨_, rfl⟩
  have hzs : Z.size ≤ 130 := by rw [← hZ]; exact quote_ba on
  have hzb : bl (Z ++ ⟨#[32]⟩) = quoteB (bl on) ++ [32] := by rw [bl_cat', ← hZ, bl_mk]; try rfl
  have HZB := Lib.hid hzb
  rw [hZ] at HQ
  have HAA := Lib.hid HA
  have HYG := Lib.hid (And.intro hy hg)
  have HT2 := Lib.hid (show Turn M M M M w w2 from Turn.below hb12)
  have HX1 := Lib.hid (hx1.ext hb2)
  have HX2 := Lib.hid hx2
  have HMB1 := Lib.hid (h.new (Nat.le_refl w.heap.size))
  have HMB2 := Lib.hid (h.new hb1.size)
  have H2 := Lib.hid h2
  have HV2 := Lib.hid (TmV.later hb12 hv)
  obtain ⟨b0, b1, b2, bf⟩ := HX1.out.three
  clear h hv hz hb1 hb2 hb12 hx1 hx2 hz1 hz2 h2 hs HE hZ hzb HA hy hg
  go_enter Tryz.func133, Tryz.ntmps133
  go_wp2_with fail
  (try rw [hw1])
  (try rw [hw2])
  clear hw1 hw2
  (go_wp2_with fail; go_fit (HSD.out); rintro e w3 ⟨rfl, hb3⟩)
  have HQ3 := Lib.hid (HQ.out w3 hb3)
  obtain ⟨b0, b1, b2, bf⟩ := (HX1.out.ext hb3).three
  have HB3 := Lib.hid hb3
  clear hb3
  (go_wp2_with fail; go_fit (HQ3.out); rintro e w4 ⟨rfl, hb4⟩)
  have hb24 := Ext.trans' HB3.out hb4
  have HPU := Lib.hid (put_at (H2.out.later hb24) (Z ++ ⟨#[32]⟩) (by have := HZ.out; rw [HZB.out, List.length_append, List.length_singleton]; omega))
  have HV4 := Lib.hid (TmV.later hb24 HV2.out)
  have HT4 := Lib.hid (HT2.out.trans (show Turn M M M M w2 w4 from Turn.below hb24))
  have HX4 := Lib.hid (HX2.out.ext hb24)
  clear hb4 hb24
  (go_wp2_with fail; go_fit (HPU.out); rintro e w5 ⟨rfl, M5, g3, g4⟩)
  have HB := Lib.hid (beside_at HAA.out HYG.out.1 HYG.out.2 g3 (HV4.out.turn g4) sr (by have := HZ.out; rw [HZB.out, List.length_append, List.length_append, List.length_singleton]; omega))
  have HT5 := Lib.hid (HT4.out.trans g4)
  clear b0 b1 b2 bf
  obtain ⟨b0, b1, b2, b3, bf⟩ := (HX4.out.turn g4 HMB2.out).four
  clear g3 g4
  (go_wp2_with fail; go_fit (HB.out); rintro e w6 ⟨rfl, M6, g3, g4⟩)
  have G3 := Lib.hid g3
  have G4 := Lib.hid (HT5.out.trans g4)
  clear g3 g4
  go_wp2
  go_end0
  exact ⟨rfl, M6, by rw [HEE.out, ← HZB.out, ← List.append_assoc]; exact G3.out, G4.out⟩
set_option maxHeartbeats 16000000 in
theorem between_core (HA : BareC n wb xs vs) {x y : Tm} (hx : sizeN x < n) (hgx : goodT x = true) (hy : sizeN y < n) (hgy : goodT y = true) (h : Wr M w wb xs vs out) {vx vy : Value} (hvx : TmV (hide M w) x vx) (hvy : TmV (hide M w) y vy) (on ok : ByteArray) (ol : Int) (hon : on.size ≤ 140737488351232)
    (sl sr : Int) (hs : sidesB (bl ok) ol = (sl, sr)) (hsl : 0 ≤ sl ∧ sl ≤ 1200)
    (hz : out.length + (betweenW (preO xs) (betO xs) (BARE vs (preO xs) (betO xs)) ⟨on, ok, ol⟩ x y).length ≤ 1000000000) :
    Calls Tryz.prog 134 #[.pointer (some ⟨wb, 0, none⟩), .agg #[.string on, .string ok, .int .i64 ol], vx, vy] w (WPost M w wb xs vs (out ++ betweenW (preO xs) (betO xs) (BARE vs (preO xs) (betO xs)) ⟨on, ok, ol⟩ x y)) := by
  obtain ⟨L, hL⟩ : ∃ L, leftW (preO xs) (betO xs) ⟨on, ok, ol⟩ x = L := ⟨_, rfl⟩
  obtain ⟨⟨⟨inn, ik, il⟩, ig⟩, hin⟩ : ∃ Y, opW (preO xs) (betO xs) x = Y := ⟨_, rfl⟩
  have hE : betweenW (preO xs) (betO xs) (BARE vs (preO xs) (betO xs)) ⟨on, ok, ol⟩ x y = besideT xs vs x L ++ ((if bl on == [44] then [44] else 32 :: (quoteB (bl on) ++ [32])) ++ besideT xs vs y sr) := by
    unfold betweenW
    rw [hL, hs]
  have hLE : L = if (ok.toList == [121, 102, 120]) && !(ik.toList == [121, 102, 120]) then sl - 1 else sl := by
    rw [← hL]
    unfold leftW
    rw [hin, hs]
    have e1 : (bl ok == yfxL) = (ok.toList == [121, 102, 120]) := by rw [Lib.toList_data]; rfl
    have e2 : (bl ik == yfxL) = (ik.toList == [121, 102, 120]) := by rw [Lib.toList_data]; rfl
    show (if bl ok == yfxL && !(bl ik == yfxL) then wrap64 (sl - 1) else sl) = _
    rw [e1, e2]
    split
    · exact IntWalk.wrap64_in _ (by omega)
    · rfl
  obtain ⟨xk, xn, xst, xa, xm, xc, rfl⟩ := hvx.full
  obtain ⟨yk, yn, yst, ya, ym, yc, rfl⟩ := hvy.full
  obtain ⟨w1, hw1, hb1, hz1, hx1⟩ := box_new w #[.string on, .string ok, .int .i64 ol] 33
  obtain ⟨w2, hw2, hb2, hz2, hx2⟩ := box_new w1 #[.int .i64 xk, .int .i64 xn, .string xst, .slice xa xm xc] 27
  obtain ⟨w3, hw3, hb3, hz3, hx3⟩ := box_new w2 #[.int .i64 yk, .int .i64 yn, .string yst, .slice ya ym yc] 27
  have hb23 := Ext.trans' hb2 hb3
  have hb13 := Ext.trans' hb1 hb23
  have h3 := h.later hb13
  have HSD := sides_walk on ok ol w3
  rw [hs] at HSD
  have HSD := Lib.hid HSD
  have HOP := fun wq (hb : Below w3.heap.size w3 wq) => operator_at (h3.later hb) (TmV.later (Ext.trans' hb13 hb) hvx)
  rw [hin] at HOP
  have HOP := Lib.hid HOP
  rw [hE, List.length_append, List.length_append] at hz
  have HZ := Lib.hid hz
  have HEE := Lib.hid hE
  have HQ := Lib.hid (fun (M' : Nat → Bool) (w' : World) (o' : List UInt8) (hh : Wr M' w' wb xs vs o') => quote_any on w' hh.con.err hon)
  obtain ⟨Z, hZ⟩ : ∃ Z : ByteArray, (⟨(quoteB (bl on)).toArray⟩ : ByteArray) = Z := ⟨_, rfl⟩
  have hzs : Z.size ≤ 130 := by rw [← hZ]; exact quote_ba on
  have hzb : bl ((⟨#[32]⟩ : ByteArray) ++ Z ++ ⟨#[32]⟩) = 32 :: (quoteB (bl on) ++ [32]) := by rw [bl_cat', bl_cat', ← hZ, bl_mk]; try rfl
  have HZB := Lib.hid hzb
  rw [hZ] at HQ
  have HAA := Lib.hid HA
  have HXG := Lib.hid (And.intro hx hgx)
  have HYG := Lib.hid (And.intro hy hgy)
  have HT3 := Lib.hid (show Turn M M M M w w3 from Turn.below hb13)
  have HX1 := Lib.hid (hx1.ext hb23)
  have HX2 := Lib.hid (hx2.ext hb3)
  have HX3 := Lib.hid hx3
  have HMB1 := Lib.hid (h.new (Nat.le_refl w.heap.size))
  have HMB2 := Lib.hid (h.new hb1.size)
  have HMB3 := Lib.hid (h.new (Nat.le_trans hb1.size hb2.size))
  have H3 := Lib.hid h3
  have HV3 := Lib.hid (TmV.later hb13 hvx)
  have HU3 := Lib.hid (TmV.later hb13 hvy)
  have HLE := Lib.hid hLE
  have hcm : bl on = on.toList := by rw [Lib.toList_data]; try rfl
  have HCM := Lib.hid hcm
  obtain ⟨b0, b1, b2, bf⟩ := HX1.out.three
  obtain ⟨c0, c1, c2, c3, cf⟩ := HX2.out.four
  clear h hvx hvy hz hb1 hb2 hb3 hb13 hb23 hx1 hx2 hx3 hz1 hz2 hz3 h3 hs hE hZ hzb HA hx hgx hy hgy hL hin hLE hcm
  cases h1 : (ok.toList == [121, 102, 120])
  · have HLV := Lib.hid (show L = sl from by rw [HLE.out, h1]; rfl)
    go_enter Tryz.func134, Tryz.ntmps134
    go_wp2_with fail
    (try rw [hw1])
    (try rw [hw2])
    (try rw [hw3])
    clear hw1 hw2 hw3
    (go_wp2_with fail; go_fit (HSD.out); rintro e w4 ⟨rfl, hb4⟩)
    have HO4 := Lib.hid (HOP.out w4 hb4)
    obtain ⟨b0, b1, b2, bf⟩ := (HX1.out.ext hb4).three
    obtain ⟨c0, c1, c2, c3, cf⟩ := (HX2.out.ext hb4).four
    have HB4 := Lib.hid hb4
    clear hb4
    (go_wp2_with fail; go_fit (HO4.out); rintro e w5 ⟨rfl, hb5⟩)
    obtain ⟨w6, hw6, hb6, hz6, hx6⟩ := box_new w5 #[.string inn, .string ik, .int .i64 il] 33
    have HB6 := Lib.hid (Ext.trans' HB4.out (Ext.trans' hb5 hb6))
    clear b0 b1 b2 bf c0 c1 c2 c3 cf
    obtain ⟨b0, b1, b2, bf⟩ := (HX1.out.ext HB6.out).three
    obtain ⟨c0, c1, c2, c3, cf⟩ := (HX2.out.ext HB6.out).four
    obtain ⟨d0, d1, d2, df⟩ := hx6.three
    have HBS := Lib.hid (fun (hl : L = sl) => beside_at HAA.out HXG.out.1 HXG.out.2 (H3.out.later HB6.out) (TmV.later HB6.out HV3.out) sl (by have := HZ.out; rw [hl] at this; omega))
    have HBL := Lib.hid (HBS.out HLV.out)
    have HT6 := Lib.hid (HT3.out.trans (show Turn M M M M w3 w6 from Turn.below HB6.out))
    clear hb5 hb6 hz6 hx6 HBS
    go_wp2_with fail
    (try rw [hw6])
    clear hw6
    (go_wp2_with fail; go_fit (HBL.out); rintro e w7 ⟨rfl, M7, g3, g4⟩)
    have G7 := Lib.hid g3
    have T7 := Lib.hid (HT6.out.trans g4)
    have HM1 := Lib.hid ((g4.mm _ (HX1.out.ext HB6.out).lt).trans HMB1.out)
    have HM3 := Lib.hid ((g4.mm _ (HX3.out.ext HB6.out).lt).trans HMB3.out)
    have HX1' := Lib.hid ((HX1.out.ext HB6.out).turn g4 HMB1.out)
    have HX3' := Lib.hid ((HX3.out.ext HB6.out).turn g4 HMB3.out)
    have HU7 := Lib.hid ((TmV.later HB6.out HU3.out).turn g4)
    clear b0 b1 b2 bf c0 c1 c2 c3 cf d0 d1 d2 df g3 g4
    obtain ⟨b0, b1, b2, bf⟩ := HX1'.out.three
    cases hc : (on.toList == [44])
    · have HMID := Lib.hid (show (if bl on == [44] then [44] else 32 :: (quoteB (bl on) ++ [32])) = 32 :: (quoteB (bl on) ++ [32]) by rw [HCM.out, hc]; rfl)
      have HQ7 := Lib.hid (HQ.out M7 w7 _ G7.out)
      (go_wp2_with fail; go_fit (HQ7.out); rintro e w7b ⟨rfl, hb7⟩)
      have HPU := Lib.hid (put_at (G7.out.later hb7) ((⟨#[32]⟩ : ByteArray) ++ Z ++ ⟨#[32]⟩) (by have := HZ.out; rw [HMID.out, HLV.out] at this; rw [HZB.out, List.length_append]; omega))
      have HB7 := Lib.hid hb7
      clear hb7
      (go_wp2_with fail; go_fit (HPU.out); rintro e w8 ⟨rfl, M8, g3, g4b⟩)
      have hg3 : Wr M8 w8 wb xs vs (out ++ besideT xs vs x sl ++ (if bl on == [44] then [44] else 32 :: (quoteB (bl on) ++ [32]))) := by rw [HMID.out]; rw [HZB.out] at g3; exact g3
      have g4 : Turn M7 M7 M8 M8 w7 w8 := (show Turn M7 M7 M7 M7 w7 w7b from Turn.below HB7.out).trans g4b
      clear HPU g3 g4b
      have HB := Lib.hid (beside_at HAA.out HYG.out.1 HYG.out.2 hg3 (HU7.out.turn g4) sr (by have := HZ.out; rw [HLV.out] at this; rw [List.length_append, List.length_append]; omega))
      have HT8 := Lib.hid (T7.out.trans g4)
      clear b0 b1 b2 bf
      obtain ⟨c0, c1, c2, c3, cf⟩ := (HX3'.out.turn g4 HM3.out).four
      clear hg3 g4
      (go_wp2_with fail; go_fit (HB.out); rintro e w9 ⟨rfl, M9, g3, g4⟩)
      have G3 := Lib.hid g3
      have G4 := Lib.hid (HT8.out.trans g4)
      clear g3 g4
      go_wp2
      go_end0
      exact ⟨rfl, M9, by rw [HEE.out, HLV.out, ← List.append_assoc, ← List.append_assoc]; exact G3.out, G4.out⟩
    · have HMID := Lib.hid (show (if bl on == [44] then [44] else 32 :: (quoteB (bl on) ++ [32])) = [44] by rw [HCM.out, hc]; rfl)
      have HPU := Lib.hid (put_at G7.out ⟨#[44]⟩ (by have := HZ.out; rw [HMID.out, HLV.out] at this; rw [comma_bl, List.length_append]; omega))
      (go_wp2_with fail; go_fit (HPU.out); rintro e w8 ⟨rfl, M8, g3, g4⟩)
      have hg3 : Wr M8 w8 wb xs vs (out ++ besideT xs vs x sl ++ (if bl on == [44] then [44] else 32 :: (quoteB (bl on) ++ [32]))) := by rw [HMID.out]; rw [comma_bl] at g3; exact g3
      clear HPU g3
      have HB := Lib.hid (beside_at HAA.out HYG.out.1 HYG.out.2 hg3 (HU7.out.turn g4) sr (by have := HZ.out; rw [HLV.out] at this; rw [List.length_append, List.length_append]; omega))
      have HT8 := Lib.hid (T7.out.trans g4)
      clear b0 b1 b2 bf
      obtain ⟨c0, c1, c2, c3, cf⟩ := (HX3'.out.turn g4 HM3.out).four
      clear hg3 g4
      (go_wp2_with fail; go_fit (HB.out); rintro e w9 ⟨rfl, M9, g3, g4⟩)
      have G3 := Lib.hid g3
      have G4 := Lib.hid (HT8.out.trans g4)
      clear g3 g4
      go_wp2
      go_end0
      exact ⟨rfl, M9, by rw [HEE.out, HLV.out, ← List.append_assoc, ← List.append_assoc]; exact G3.out, G4.out⟩
  · cases h2 : (ik.toList == [121, 102, 120])
    · have HLV := Lib.hid (show L = (sl - 1) from by rw [HLE.out, h1, h2]; rfl)
      go_enter Tryz.func134, Tryz.ntmps134
      go_wp2_with fail
      (try rw [hw1])
      (try rw [hw2])
      (try rw [hw3])
      clear hw1 hw2 hw3
      (go_wp2_with fail; go_fit (HSD.out); rintro e w4 ⟨rfl, hb4⟩)
      have HO4 := Lib.hid (HOP.out w4 hb4)
      obtain ⟨b0, b1, b2, bf⟩ := (HX1.out.ext hb4).three
      obtain ⟨c0, c1, c2, c3, cf⟩ := (HX2.out.ext hb4).four
      have HB4 := Lib.hid hb4
      clear hb4
      (go_wp2_with fail; go_fit (HO4.out); rintro e w5 ⟨rfl, hb5⟩)
      obtain ⟨w6, hw6, hb6, hz6, hx6⟩ := box_new w5 #[.string inn, .string ik, .int .i64 il] 33
      have HB6 := Lib.hid (Ext.trans' HB4.out (Ext.trans' hb5 hb6))
      clear b0 b1 b2 bf c0 c1 c2 c3 cf
      obtain ⟨b0, b1, b2, bf⟩ := (HX1.out.ext HB6.out).three
      obtain ⟨c0, c1, c2, c3, cf⟩ := (HX2.out.ext HB6.out).four
      obtain ⟨d0, d1, d2, df⟩ := hx6.three
      have HBS := Lib.hid (fun (hl : L = (sl - 1)) => beside_at HAA.out HXG.out.1 HXG.out.2 (H3.out.later HB6.out) (TmV.later HB6.out HV3.out) (sl - 1) (by have := HZ.out; rw [hl] at this; omega))
      have HBL := Lib.hid (HBS.out HLV.out)
      have HT6 := Lib.hid (HT3.out.trans (show Turn M M M M w3 w6 from Turn.below HB6.out))
      clear hb5 hb6 hz6 hx6 HBS
      go_wp2_with fail
      (try rw [hw6])
      clear hw6
      (go_wp2_with fail; go_fit (HBL.out); rintro e w7 ⟨rfl, M7, g3, g4⟩)
      have G7 := Lib.hid g3
      have T7 := Lib.hid (HT6.out.trans g4)
      have HM1 := Lib.hid ((g4.mm _ (HX1.out.ext HB6.out).lt).trans HMB1.out)
      have HM3 := Lib.hid ((g4.mm _ (HX3.out.ext HB6.out).lt).trans HMB3.out)
      have HX1' := Lib.hid ((HX1.out.ext HB6.out).turn g4 HMB1.out)
      have HX3' := Lib.hid ((HX3.out.ext HB6.out).turn g4 HMB3.out)
      have HU7 := Lib.hid ((TmV.later HB6.out HU3.out).turn g4)
      clear b0 b1 b2 bf c0 c1 c2 c3 cf d0 d1 d2 df g3 g4
      obtain ⟨b0, b1, b2, bf⟩ := HX1'.out.three
      cases hc : (on.toList == [44])
      · have HMID := Lib.hid (show (if bl on == [44] then [44] else 32 :: (quoteB (bl on) ++ [32])) = 32 :: (quoteB (bl on) ++ [32]) by rw [HCM.out, hc]; rfl)
        have HQ7 := Lib.hid (HQ.out M7 w7 _ G7.out)
        (go_wp2_with fail; go_fit (HQ7.out); rintro e w7b ⟨rfl, hb7⟩)
        have HPU := Lib.hid (put_at (G7.out.later hb7) ((⟨#[32]⟩ : ByteArray) ++ Z ++ ⟨#[32]⟩) (by have := HZ.out; rw [HMID.out, HLV.out] at this; rw [HZB.out, List.length_append]; omega))
        have HB7 := Lib.hid hb7
        clear hb7
        (go_wp2_with fail; go_fit (HPU.out); rintro e w8 ⟨rfl, M8, g3, g4b⟩)
        have hg3 : Wr M8 w8 wb xs vs (out ++ besideT xs vs x (sl - 1) ++ (if bl on == [44] then [44] else 32 :: (quoteB (bl on) ++ [32]))) := by rw [HMID.out]; rw [HZB.out] at g3; exact g3
        have g4 : Turn M7 M7 M8 M8 w7 w8 := (show Turn M7 M7 M7 M7 w7 w7b from Turn.below HB7.out).trans g4b
        clear HPU g3 g4b
        have HB := Lib.hid (beside_at HAA.out HYG.out.1 HYG.out.2 hg3 (HU7.out.turn g4) sr (by have := HZ.out; rw [HLV.out] at this; rw [List.length_append, List.length_append]; omega))
        have HT8 := Lib.hid (T7.out.trans g4)
        clear b0 b1 b2 bf
        obtain ⟨c0, c1, c2, c3, cf⟩ := (HX3'.out.turn g4 HM3.out).four
        clear hg3 g4
        (go_wp2_with fail; go_fit (HB.out); rintro e w9 ⟨rfl, M9, g3, g4⟩)
        have G3 := Lib.hid g3
        have G4 := Lib.hid (HT8.out.trans g4)
        clear g3 g4
        go_wp2
        go_end0
        exact ⟨rfl, M9, by rw [HEE.out, HLV.out, ← List.append_assoc, ← List.append_assoc]; exact G3.out, G4.out⟩
      · have HMID := Lib.hid (show (if bl on == [44] then [44] else 32 :: (quoteB (bl on) ++ [32])) = [44] by rw [HCM.out, hc]; rfl)
        have HPU := Lib.hid (put_at G7.out ⟨#[44]⟩ (by have := HZ.out; rw [HMID.out, HLV.out] at this; rw [comma_bl, List.length_append]; omega))
        (go_wp2_with fail; go_fit (HPU.out); rintro e w8 ⟨rfl, M8, g3, g4⟩)
        have hg3 : Wr M8 w8 wb xs vs (out ++ besideT xs vs x (sl - 1) ++ (if bl on == [44] then [44] else 32 :: (quoteB (bl on) ++ [32]))) := by rw [HMID.out]; rw [comma_bl] at g3; exact g3
        clear HPU g3
        have HB := Lib.hid (beside_at HAA.out HYG.out.1 HYG.out.2 hg3 (HU7.out.turn g4) sr (by have := HZ.out; rw [HLV.out] at this; rw [List.length_append, List.length_append]; omega))
        have HT8 := Lib.hid (T7.out.trans g4)
        clear b0 b1 b2 bf
        obtain ⟨c0, c1, c2, c3, cf⟩ := (HX3'.out.turn g4 HM3.out).four
        clear hg3 g4
        (go_wp2_with fail; go_fit (HB.out); rintro e w9 ⟨rfl, M9, g3, g4⟩)
        have G3 := Lib.hid g3
        have G4 := Lib.hid (HT8.out.trans g4)
        clear g3 g4
        go_wp2
        go_end0
        exact ⟨rfl, M9, by rw [HEE.out, HLV.out, ← List.append_assoc, ← List.append_assoc]; exact G3.out, G4.out⟩
    · have HLV := Lib.hid (show L = sl from by rw [HLE.out, h1, h2]; rfl)
      go_enter Tryz.func134, Tryz.ntmps134
      go_wp2_with fail
      (try rw [hw1])
      (try rw [hw2])
      (try rw [hw3])
      clear hw1 hw2 hw3
      (go_wp2_with fail; go_fit (HSD.out); rintro e w4 ⟨rfl, hb4⟩)
      have HO4 := Lib.hid (HOP.out w4 hb4)
      obtain ⟨b0, b1, b2, bf⟩ := (HX1.out.ext hb4).three
      obtain ⟨c0, c1, c2, c3, cf⟩ := (HX2.out.ext hb4).four
      have HB4 := Lib.hid hb4
      clear hb4
      (go_wp2_with fail; go_fit (HO4.out); rintro e w5 ⟨rfl, hb5⟩)
      obtain ⟨w6, hw6, hb6, hz6, hx6⟩ := box_new w5 #[.string inn, .string ik, .int .i64 il] 33
      have HB6 := Lib.hid (Ext.trans' HB4.out (Ext.trans' hb5 hb6))
      clear b0 b1 b2 bf c0 c1 c2 c3 cf
      obtain ⟨b0, b1, b2, bf⟩ := (HX1.out.ext HB6.out).three
      obtain ⟨c0, c1, c2, c3, cf⟩ := (HX2.out.ext HB6.out).four
      obtain ⟨d0, d1, d2, df⟩ := hx6.three
      have HBS := Lib.hid (fun (hl : L = sl) => beside_at HAA.out HXG.out.1 HXG.out.2 (H3.out.later HB6.out) (TmV.later HB6.out HV3.out) sl (by have := HZ.out; rw [hl] at this; omega))
      have HBL := Lib.hid (HBS.out HLV.out)
      have HT6 := Lib.hid (HT3.out.trans (show Turn M M M M w3 w6 from Turn.below HB6.out))
      clear hb5 hb6 hz6 hx6 HBS
      go_wp2_with fail
      (try rw [hw6])
      clear hw6
      (go_wp2_with fail; go_fit (HBL.out); rintro e w7 ⟨rfl, M7, g3, g4⟩)
      have G7 := Lib.hid g3
      have T7 := Lib.hid (HT6.out.trans g4)
      have HM1 := Lib.hid ((g4.mm _ (HX1.out.ext HB6.out).lt).trans HMB1.out)
      have HM3 := Lib.hid ((g4.mm _ (HX3.out.ext HB6.out).lt).trans HMB3.out)
      have HX1' := Lib.hid ((HX1.out.ext HB6.out).turn g4 HMB1.out)
      have HX3' := Lib.hid ((HX3.out.ext HB6.out).turn g4 HMB3.out)
      have HU7 := Lib.hid ((TmV.later HB6.out HU3.out).turn g4)
      clear b0 b1 b2 bf c0 c1 c2 c3 cf d0 d1 d2 df g3 g4
      obtain ⟨b0, b1, b2, bf⟩ := HX1'.out.three
      cases hc : (on.toList == [44])
      · have HMID := Lib.hid (show (if bl on == [44] then [44] else 32 :: (quoteB (bl on) ++ [32])) = 32 :: (quoteB (bl on) ++ [32]) by rw [HCM.out, hc]; rfl)
        have HQ7 := Lib.hid (HQ.out M7 w7 _ G7.out)
        (go_wp2_with fail; go_fit (HQ7.out); rintro e w7b ⟨rfl, hb7⟩)
        have HPU := Lib.hid (put_at (G7.out.later hb7) ((⟨#[32]⟩ : ByteArray) ++ Z ++ ⟨#[32]⟩) (by have := HZ.out; rw [HMID.out, HLV.out] at this; rw [HZB.out, List.length_append]; omega))
        have HB7 := Lib.hid hb7
        clear hb7
        (go_wp2_with fail; go_fit (HPU.out); rintro e w8 ⟨rfl, M8, g3, g4b⟩)
        have hg3 : Wr M8 w8 wb xs vs (out ++ besideT xs vs x sl ++ (if bl on == [44] then [44] else 32 :: (quoteB (bl on) ++ [32]))) := by rw [HMID.out]; rw [HZB.out] at g3; exact g3
        have g4 : Turn M7 M7 M8 M8 w7 w8 := (show Turn M7 M7 M7 M7 w7 w7b from Turn.below HB7.out).trans g4b
        clear HPU g3 g4b
        have HB := Lib.hid (beside_at HAA.out HYG.out.1 HYG.out.2 hg3 (HU7.out.turn g4) sr (by have := HZ.out; rw [HLV.out] at this; rw [List.length_append, List.length_append]; omega))
        have HT8 := Lib.hid (T7.out.trans g4)
        clear b0 b1 b2 bf
        obtain ⟨c0, c1, c2, c3, cf⟩ := (HX3'.out.turn g4 HM3.out).four
        clear hg3 g4
        (go_wp2_with fail; go_fit (HB.out); rintro e w9 ⟨rfl, M9, g3, g4⟩)
        have G3 := Lib.hid g3
        have G4 := Lib.hid (HT8.out.trans g4)
        clear g3 g4
        go_wp2
        go_end0
        exact ⟨rfl, M9, by rw [HEE.out, HLV.out, ← List.append_assoc, ← List.append_assoc]; exact G3.out, G4.out⟩
      · have HMID := Lib.hid (show (if bl on == [44] then [44] else 32 :: (quoteB (bl on) ++ [32])) = [44] by rw [HCM.out, hc]; rfl)
        have HPU := Lib.hid (put_at G7.out ⟨#[44]⟩ (by have := HZ.out; rw [HMID.out, HLV.out] at this; rw [comma_bl, List.length_append]; omega))
        (go_wp2_with fail; go_fit (HPU.out); rintro e w8 ⟨rfl, M8, g3, g4⟩)
        have hg3 : Wr M8 w8 wb xs vs (out ++ besideT xs vs x sl ++ (if bl on == [44] then [44] else 32 :: (quoteB (bl on) ++ [32]))) := by rw [HMID.out]; rw [comma_bl] at g3; exact g3
        clear HPU g3
        have HB := Lib.hid (beside_at HAA.out HYG.out.1 HYG.out.2 hg3 (HU7.out.turn g4) sr (by have := HZ.out; rw [HLV.out] at this; rw [List.length_append, List.length_append]; omega))
        have HT8 := Lib.hid (T7.out.trans g4)
        clear b0 b1 b2 bf
        obtain ⟨c0, c1, c2, c3, cf⟩ := (HX3'.out.turn g4 HM3.out).four
        clear hg3 g4
        (go_wp2_with fail; go_fit (HB.out); rintro e w9 ⟨rfl, M9, g3, g4⟩)
        have G3 := Lib.hid g3
        have G4 := Lib.hid (HT8.out.trans g4)
        clear g3 g4
        go_wp2
        go_end0
        exact ⟨rfl, M9, by rw [HEE.out, HLV.out, ← List.append_assoc, ← List.append_assoc]; exact G3.out, G4.out⟩
end
end Go.Proofs.YtobdhcaoeholhaaGreatDoor
/- The project's writer: a list; bare. -/
namespace Go.Proofs.YtobdhcaoeholhaaGreatDoor
open Go.Shelf Go.RowKit
set_option linter.unusedVariables false
set_option maxRecDepth 100000

theorem bl_lb : bl (⟨#[91]⟩ : ByteArray) = [91] := rfl
theorem bl_rb : bl (⟨#[93]⟩ : ByteArray) = [93] := rfl
theorem bl_bar : bl (⟨#[124]⟩ : ByteArray) = [124] := rfl
theorem bl_lc : bl (⟨#[123]⟩ : ByteArray) = [123] := rfl
theorem bl_rc : bl (⟨#[125]⟩ : ByteArray) = [125] := rfl
theorem hide_out {M : Nat → Bool} {w : World} {b j : Nat} {v : Value} (h : (hide M w).cell? ⟨b, j, none⟩ = some v) : M b = false ∧ w.cell? ⟨b, j, none⟩ = some v := by
  cases hm : M b with
  | true => rw [hide_gone M w _ hm] at h; cases h
  | false => exact ⟨rfl, by rw [← hide_cell M w _ hm]; exact h⟩
theorem nil_good : goodT (aT [91, 93]) = true := by decide +kernel
theorem items_good (x : Tm) (hg : goodT x = true) : (∀ y ∈ (itemsT x).1, goodT y = true) ∧ goodT (itemsT x).2 = true :=
  items_all (fun y => goodT y = true) (fun k n s ts h y hy => good_arg h hy) (sizeN x) x (Nat.le_refl _) hg
section
variable {n wb : Nat} {xs : List O} {vs : List Int} {M : Nat → Bool} {w : World} {out : List UInt8}
set_option maxHeartbeats 8000000 in
theorem wlist_at (HA : BareC n wb xs vs) {x : Tm} (hx : sizeN x ≤ n) (ht : sizeN (itemsT x).2 < n) (hg : goodT x = true) (h : Wr M w wb xs vs out) {v : Value} (hv : TmV (hide M w) x v)
    (hz : out.length + (listW (preO xs) (betO xs) (BARE vs (preO xs) (betO xs)) x).length ≤ 1000000000) :
    Calls Tryz.prog 135 #[.pointer (some ⟨wb, 0, none⟩), v] w (WPost M w wb xs vs (out ++ listW (preO xs) (betO xs) (BARE vs (preO xs) (betO xs)) x)) := by
  obtain ⟨k, nn, s, a, m, c, rfl⟩ := hv.full
  obtain ⟨w1, hw1, hb1, hz1, hx1⟩ := box_new w #[.int .i64 k, .int .i64 nn, .string s, .slice a m c] 27
  obtain ⟨b0, b1, b2, b3, bf⟩ := hx1.four
  have h1 := h.later hb1
  have hv1 := TmV.later hb1 hv
  have HIT := Lib.hid (items_hide x w1 _ h1.old hv1 hg)
  have HIL := Lib.hid (And.intro (fun y hy => And.intro (show sizeN y < n by have := (items_size (sizeN x) x (Nat.le_refl _)).1 y hy; omega) ((items_good x hg).1 y hy)) (And.intro ht (items_good x hg).2))
  obtain ⟨R, hR⟩ : ∃ R, rowW (placeT xs vs 999) (itemsT x).1 = R := ⟨_, rfl⟩
  have hE : listW (preO xs) (betO xs) (BARE vs (preO xs) (betO xs)) x = 91 :: (R ++ (tailW (preO xs) (betO xs) (BARE vs (preO xs) (betO xs)) (itemsT x).2 ++ [93])) := by rw [← hR]; rfl
  rw [hE] at hz
  have HEE := Lib.hid hE
  have HZ := Lib.hid hz
  have HRR := Lib.hid hR
  have H1 := Lib.hid h1
  have HAA := Lib.hid HA
  have HT1 := Lib.hid (show Turn M M M M w w1 from Turn.below hb1)
  have HMB := Lib.hid h.old
  have HS1 := Lib.hid hb1.size
  clear h hv hz h1 hv1 hb1 hx1 hz1 hE hR HA hx ht hg
  go_enter Tryz.func135, Tryz.ntmps135
  go_wp2_with fail
  (try rw [hw1])
  clear hw1
  (go_wp2_with fail; go_fit (HIT.out); rintro e w2 ⟨lv, tv, rfl, hlv, htv, hb2⟩)
  obtain ⟨al, cl, rfl, _⟩ := hlv.len
  obtain ⟨tk, tn, tst, ta, tm, tc, rfl⟩ := htv.full
  obtain ⟨w3, hw3, hb3, hz3, hx3⟩ := box_new w2 #[.int .i64 tk, .int .i64 tn, .string tst, .slice ta tm tc] 27
  have hb23 := Ext.trans' hb2 hb3
  have HLV := Lib.hid (Tms.later hb3 hlv)
  have HTV := Lib.hid (TmV.later hb3 htv)
  have H3 := Lib.hid (H1.out.later hb23)
  have HX3 := Lib.hid hx3
  have HT3 := Lib.hid (HT1.out.trans (show Turn M M M M w1 w3 from Turn.below hb23))
  have HMX := Lib.hid (HMB.out w2.heap.size (Nat.le_trans HS1.out hb2.size))
  clear hlv htv hb2 hb3 hb23 hx3 hz3 HIT b0 b1 b2 b3 bf
  have HP1 := Lib.hid (put_at H3.out ⟨#[91]⟩ (by have := HZ.out; rw [List.length_cons] at this; rw [bl_lb, List.length_singleton]; omega))
  go_wp2_with fail
  (try rw [hw3])
  clear hw3
  (go_wp2_with fail; go_fit (HP1.out); rintro e w4 ⟨rfl, M4, g3, g4⟩)
  have HRW := Lib.hid (row_item (item_all HAA.out) HIL.out.1 g3 (HLV.out.turn g4) (by have := HZ.out; rw [List.length_cons, List.length_append] at this; rw [bl_lb, List.length_append, List.length_singleton, HRR.out]; omega))
  have HX4 := Lib.hid (HX3.out.turn g4 HMX.out)
  have HM4 := Lib.hid ((g4.mm _ HX3.out.lt).trans HMX.out)
  have HT4 := Lib.hid (HT3.out.trans g4)
  have HTV4 := Lib.hid (HTV.out.turn g4)
  clear g3 g4 HP1
  (go_wp2_with fail; go_fit (HRW.out); rintro e w5 ⟨rfl, M5, g3, g4⟩)
  have H5 := Lib.hid (show Wr M5 w5 wb xs vs (out ++ [91] ++ R) by rw [HRR.out, bl_lb] at g3; exact g3)
  have HX5 := Lib.hid (HX4.out.turn g4 HM4.out)
  have HM5 := Lib.hid ((g4.mm _ HX4.out.lt).trans HM4.out)
  have HT5 := Lib.hid (HT4.out.trans g4)
  have HTV5 := Lib.hid (HTV4.out.turn g4)
  clear g3 g4 HRW HX4 HTV4
  obtain ⟨t0, t1, t2, t3, tf⟩ := HX5.out.four
  have HSM := Lib.hid (fun (wq : World) (hb : Below w5.heap.size w5 wq) => (Same_at (y := aT [91, 93]) (TmV.ext hb _ _ HTV5.out.bare) (leaf_tm wq (k := 2) (n := 0) (s := ⟨#[91, 93]⟩) i64_2 i64_0 (by decide))))
  have hsn : (goodT (itemsT x).2 && goodT (aT [91, 93]) && sameT (itemsT x).2 (aT [91, 93])) = nilW (itemsT x).2 := by rw [HIL.out.2.2, nil_good]; rfl
  rw [hsn] at HSM
  clear hsn
  go_wp2_with fail
  refine wp_region_held_drew (S := fun w' => w'.cell? ⟨w2.heap.size, 0, none⟩ = some (.int .i64 tk) ∧ w'.cell? ⟨w2.heap.size, 1, none⟩ = some (.int .i64 tn) ∧ w'.cell? ⟨w2.heap.size, 2, none⟩ = some (.string tst) ∧ w'.cell? ⟨w2.heap.size, 3, none⟩ = some (.slice ta tm tc)) (by kernel_rfl) ⟨t0, t1, t2, t3⟩ (fun hHeld => ?_)
  first | (refine held_t (i := 0) hHeld ?_; apply Exists.intro; refine ⟨fun wq hq => ?_, ?_⟩; (focus ((try dsimp only at hq); go_simp; (first | done | with_reducible rfl | fail)))) | refine held_s (i := 0) hHeld ?_ | fail
  try simp only [Act.put, List.setIfInBounds_toArray, List.set_cons_zero, List.set_cons_succ]
  refine held_c 1 fun K hK => ?_
  go_simp
  (go_at_call 28; refine (atom_at _ ⟨#[91, 93]⟩).mono ?_; rintro e w6 ⟨rfl, hb6⟩)
  refine hK.out _ _ (⟨cell_later hb6 hHeld.1, cell_later hb6 hHeld.2.1, cell_later hb6 hHeld.2.2.1, cell_later hb6 hHeld.2.2.2⟩) (fun hHeld => ?_)
  clear hK K
  try simp only [Act.put, List.setIfInBounds_toArray, List.set_cons_zero, List.set_cons_succ]
  refine held_c 2 fun K hK => ?_
  go_simp
  (go_at_call 18; refine (HSM.out _ (Ext.trans' (Below.refl _ _).drew hb6)).mono ?_; rintro e w7 ⟨rfl, hb7⟩)
  refine hK.out _ _ (⟨cell_later hb7 hHeld.1, cell_later hb7 hHeld.2.1, cell_later hb7 hHeld.2.2.1, cell_later hb7 hHeld.2.2.2⟩) (fun hHeld => ?_)
  clear hK K
  try simp only [Act.put, List.setIfInBounds_toArray, List.set_cons_zero, List.set_cons_succ]
  first | (refine held_t (i := 3) hHeld ?_; apply Exists.intro; refine ⟨fun wq hq => ?_, ?_⟩; (focus ((try dsimp only at hq); go_simp; (first | done | with_reducible rfl | fail)))) | refine held_s (i := 3) hHeld ?_ | fail
  try simp only [Act.put, List.setIfInBounds_toArray, List.set_cons_zero, List.set_cons_succ]
  refine wpAnyH_done (by kernel_rfl) ?_ _
  have hb57 : Below w5.heap.size w5 w7 := Ext.trans' (Ext.trans' (Below.refl _ _).drew hb6) hb7
  have H7 := Lib.hid (H5.out.later hb57)
  have HX7 := Lib.hid (HX5.out.ext hb57)
  have HT7 := Lib.hid (HT5.out.trans (show Turn M5 M5 M5 M5 w5 w7 from Turn.below hb57))
  have HTV7 := Lib.hid (TmV.later hb57 HTV5.out)
  clear hHeld hb57 hb6 hb7 t0 t1 t2 t3 tf
  obtain ⟨t0, t1, t2, t3, tf⟩ := HX7.out.four
  cases hn : nilW (itemsT x).2 with
  | true =>
    have HTW := Lib.hid (show tailW (preO xs) (betO xs) (BARE vs (preO xs) (betO xs)) (itemsT x).2 = [] by unfold tailW; rw [hn]; rfl)
    clear hn
    have HP9 := Lib.hid (put_at H7.out ⟨#[93]⟩ (by have := HZ.out; rw [HTW.out, List.length_cons, List.length_append] at this; rw [bl_rb, List.length_append, List.length_append, List.length_singleton]; simp at this ⊢; omega))
    go_wp2_with fail
    (go_wp2_with fail; go_fit (HP9.out); rintro e w9 ⟨rfl, M9, g3, g4⟩)
    have G3 := Lib.hid g3
    have G4 := Lib.hid (HT7.out.trans g4)
    clear g3 g4
    go_wp2
    go_end0
    exact ⟨rfl, M9, by rw [HEE.out, HTW.out]; have := G3.out; rw [bl_rb] at this; simpa using this, G4.out⟩
  | false =>
    have HTW := Lib.hid (show tailW (preO xs) (betO xs) (BARE vs (preO xs) (betO xs)) (itemsT x).2 = 124 :: placeT xs vs 999 (itemsT x).2 by unfold tailW; rw [hn]; rfl)
    clear hn
    have HZ2 := Lib.hid (show out.length + (R.length + (placeT xs vs 999 (itemsT x).2).length + 3) ≤ 1000000000 by have := HZ.out; rw [HTW.out, List.length_cons, List.length_append, List.length_append, List.length_cons, List.length_singleton] at this; omega)
    have HP8 := Lib.hid (put_at H7.out ⟨#[124]⟩ (by have := HZ2.out; rw [bl_bar, List.length_append, List.length_append, List.length_singleton, List.length_singleton]; omega))
    go_wp2_with fail
    (go_wp2_with fail; go_fit (HP8.out); rintro e w8 ⟨rfl, M8, g3, g4⟩)
    have HC := Lib.hid (item_all HAA.out _ HIL.out.2.1 HIL.out.2.2 M8 w8 _ _ g3 (HTV7.out.turn g4) (by have := HZ2.out; rw [bl_bar, List.length_append, List.length_append, List.length_append, List.length_singleton, List.length_singleton]; omega))
    have HM7 := Lib.hid (HM5.out)
    have HT8 := Lib.hid (HT7.out.trans g4)
    clear t0 t1 t2 t3 tf
    obtain ⟨t0, t1, t2, t3, tf⟩ := (HX7.out.turn g4 HM5.out).four
    clear g3 g4
    (go_wp2_with fail; go_fit (HC.out); rintro e w9 ⟨rfl, M9, g3, g4⟩)
    have HP9 := Lib.hid (put_at g3 ⟨#[93]⟩ (by have := HZ2.out; rw [bl_bar, bl_rb, List.length_append, List.length_append, List.length_append, List.length_append, List.length_singleton, List.length_singleton, List.length_singleton]; omega))
    have HT9 := Lib.hid (HT8.out.trans g4)
    clear g3 g4
    (go_wp2_with fail; go_fit (HP9.out); rintro e w10 ⟨rfl, M10, g3, g4⟩)
    have G3 := Lib.hid g3
    have G4 := Lib.hid (HT9.out.trans g4)
    clear g3 g4
    go_wp2
    go_end0
    exact ⟨rfl, M10, by rw [HEE.out, HTW.out]; have := G3.out; rw [bl_rb, bl_bar] at this; simpa using this, G4.out⟩
end
end Go.Proofs.YtobdhcaoeholhaaGreatDoor
