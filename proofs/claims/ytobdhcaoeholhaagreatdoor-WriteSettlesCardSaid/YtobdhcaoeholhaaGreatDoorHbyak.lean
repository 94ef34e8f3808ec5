import Derived.Test.YtobdhcaoeholhaaGreatDoorHbyaj
import Derived.Test.YtobdhcaoeholhaaGreatDoorHbyac
import Derived.Test.YtobdhcaoeholhaaGreatDoorHbyai
import Derived.Deep.QuietTactic
import Derived.Test.YtobdhcaoeholhaaGreatDoorHbyah
import Derived.Deep.RegionHeld3
set_option linter.unusedVariables false
set_option linter.unusedSimpArgs false
/- The project's writer: a term with its name ahead. -/
namespace Go.Proofs.YtobdhcaoeholhaaGreatDoor
open Go.RowKit
set_option linter.unusedVariables false
set_option maxRecDepth 100000

theorem bl_mk (l : List UInt8) : bl (⟨l.toArray⟩ : ByteArray) = l := by simp [bl]
theorem idx_bound {vs : List Int} {n : Int} : -1 ≤ idxW vs n ∧ idxW vs n < (vs.length : Int) ∨ idxW vs n = -1 := by
  unfold idxW
  cases h : vs.findIdx? (fun v => v == n) with
  | none => exact Or.inr rfl
  | some i =>
    left
    have := (List.findIdx?_eq_some_iff_getElem.1 h).1
    simp only
    omega
theorem numW_len {n : Int} (h1 : -9223372036854775808 ≤ n) (h2 : n ≤ 9223372036854775807) : (numW n).length ≤ 1000 := by
  unfold numW
  split
  · have := (digW_ok n.natAbs (by omega)).2.2.2
    rw [List.length_cons]; omega
  · have := (digW_ok n.toNat (by omega)).2.2.2
    omega
set_option maxHeartbeats 8000000 in
theorem called_item_2 {W : Tm → List UInt8} {n' wb : Nat} {xs : List O} {vs : List Int} (HA : ArgC 136 W n' wb xs vs) {n : Int} {s : ByteArray} {ts : List Tm} (hl : ∀ x ∈ ts, sizeN x < n' ∧ goodT x = true) {M : Nat → Bool} {w : World} {out : List UInt8} (h : Wr M w wb xs vs out) {v : Value} (hv : TmV (hide M w) (.mk 2 n s ts) v) (hz : out.length + (calledW vs W (.mk 2 n s ts)).length ≤ 1000000000) :
    Calls Tryz.prog 92 #[.pointer (some ⟨wb, 0, none⟩), v, .func (.func 136) #[.pointer (some ⟨wb, 0, none⟩)] #[]] w (WPost M w wb xs vs (out ++ calledW vs W (.mk 2 n s ts))) := by
  obtain ⟨u, rfl, hs, hk64, hn64, hu⟩ := tmV_iff.1 hv
  obtain ⟨au, cu, rfl, hu1, hu2, hu3⟩ := hu.len
  unfold BIG at hu3 hs
  unfold maxLen at hu2
  unfold I64 at hn64
  obtain ⟨m, hm⟩ : ∃ m, ts.length = m := ⟨_, rfl⟩
  have HM := Lib.hid hm
  rw [hm] at hu hu1 hu3
  rw [hm]
  obtain ⟨w1, hw1, hb1, hz1, hx1⟩ := box_new w #[.int .i64 2, .int .i64 n, .string s, .slice au m cu] 27
  obtain ⟨b0, b1, b2, b3, bf⟩ := hx1.four
  have h1 := h.later hb1
  have HTS := Lib.hid (Tms.later hb1 hu)
  have HZ := Lib.hid hz
  have HL := Lib.hid hl
  have HAA := Lib.hid HA
  have HMB := Lib.hid (h.new (Nat.le_refl w.heap.size))
  have HT1 := Lib.hid (show Turn M M M M w w1 from Turn.below hb1)
  have HX1 := Lib.hid hx1
  have HLA := Lib.hid (show headW vs (.mk 2 n s ts) ++ (if ts.isEmpty then [] else 40 :: (rowW W ts ++ [41])) = calledW vs W (.mk 2 n s ts) from rfl)
  have HZH := Lib.hid (show out.length + (headW vs (.mk 2 n s ts)).length ≤ 1000000000 by have := HLA.out; rw [← this, List.length_append] at hz; omega)
  have HQ := Lib.hid (quote_any s w1 h1.con.err (by omega))
  have H1 := Lib.hid h1
  clear h hv hu hm hl hz hb1 hz1 hx1 HA
  go_enter Tryz.func92, Tryz.ntmps92
  go_wp2_with fail
  (try rw [hw1])
  clear hw1
  (go_wp2_with fail; go_fit (HQ.out); rintro e w2 ⟨rfl, hb2⟩)
  have HP := Lib.hid (put_at (H1.out.later hb2) ⟨(quoteB (bl s)).toArray⟩ (by rw [bl_mk]; exact HZH.out))
  have HB2 := Lib.hid hb2
  clear hb2
  (go_wp2_with fail; go_fit (HP.out); rintro e w3 ⟨rfl, M3, g3, g4⟩)
  have G3 := Lib.hid (show Wr M3 w3 wb xs vs (out ++ headW vs (.mk 2 n s ts)) by rw [bl_mk] at g3; exact g3)
  have G34 := Lib.hid ((show Turn M M M M w1 w2 from Turn.below HB2.out).trans g4)
  clear g3 g4
  have HX3 := Lib.hid (HX1.out.turn G34.out HMB.out)
  have HTS3 := Lib.hid (HTS.out.turn G34.out)
  have HMB3 := Lib.hid ((G34.out.mm _ HX1.out.lt).trans HMB.out)
  have G4 := Lib.hid (HT1.out.trans G34.out)
  clear b0 b1 b2 b3 bf
  obtain ⟨b0, b1, b2, b3, bf⟩ := HX3.out.four
  by_cases h0 : m = 0
  · have HE := Lib.hid (show calledW vs W (.mk 2 n s ts) = headW vs (.mk 2 n s ts) by
      rw [← HLA.out, show ts = [] from List.length_eq_zero_iff.1 (by rw [HM.out]; exact h0)]; simp)
    subst h0
    have hd0 : decide ((0 : Int) > 0) = false := by decide
    go_wp2
    go_end0
    exact ⟨rfl, M3, by rw [HE.out]; exact G3.out, G4.out⟩
  · have hd0 : decide ((m : Int) > 0) = true := decide_eq_true (by omega)
    have HE := Lib.hid (show calledW vs W (.mk 2 n s ts) = headW vs (.mk 2 n s ts) ++ 40 :: (rowW W ts ++ [41]) by
      rw [← HLA.out, if_neg (by intro e; rw [List.isEmpty_iff] at e; rw [← HM.out, e] at h0; exact h0 rfl)])
    have hzz := HZ.out
    rw [HE.out, List.length_append, List.length_cons, List.length_append, List.length_singleton] at hzz
    have HP1 := Lib.hid (put_at G3.out ⟨#[40]⟩ (by rw [open_bl1, List.length_append, List.length_singleton]; omega))
    have HZZ := Lib.hid hzz
    clear hzz
    (go_wp2_with fail; go_fit (HP1.out); rintro e w4 ⟨rfl, M4, g5, g6⟩)
    have HX4 := Lib.hid (HX3.out.turn g6 HMB3.out)
    have HMB4 := Lib.hid ((g6.mm _ HX3.out.lt).trans HMB3.out)
    have HRW := Lib.hid (row_item HAA.out HL.out g5 (HTS3.out.turn g6) (by have := HZZ.out; rw [open_bl1, List.length_append, List.length_append, List.length_singleton]; omega))
    have G6 := Lib.hid (G4.out.trans g6)
    clear g5 g6 b0 b1 b2 b3 bf
    obtain ⟨b0, b1, b2, b3, bf⟩ := HX4.out.four
    (go_wp2_with fail; go_fit (HRW.out); rintro e w5 ⟨rfl, M5, g7, g8⟩)
    have HP2 := Lib.hid (put_at g7 ⟨#[41]⟩ (by have := HZZ.out; rw [open_bl1, shut_bl1, List.length_append, List.length_append, List.length_append, List.length_singleton, List.length_singleton]; omega))
    have G8 := Lib.hid (G6.out.trans g8)
    clear g7 g8
    (go_wp2_with fail; go_fit (HP2.out); rintro e w6 ⟨rfl, M6, g9, g10⟩)
    have G10 := Lib.hid (G8.out.trans g10)
    have G9 := Lib.hid g9
    clear g9 g10
    go_wp2
    go_end0
    exact ⟨rfl, M6, by have := G9.out; rw [HE.out]; rw [open_bl1, shut_bl1] at this; simpa using this, G10.out⟩
set_option maxHeartbeats 8000000 in
theorem called_item_1 {W : Tm → List UInt8} {n' wb : Nat} {xs : List O} {vs : List Int} (HA : ArgC 136 W n' wb xs vs) {n : Int} {s : ByteArray} {ts : List Tm} (hl : ∀ x ∈ ts, sizeN x < n' ∧ goodT x = true) {M : Nat → Bool} {w : World} {out : List UInt8} (h : Wr M w wb xs vs out) {v : Value} (hv : TmV (hide M w) (.mk 1 n s ts) v) (hz : out.length + (calledW vs W (.mk 1 n s ts)).length ≤ 1000000000) :
    Calls Tryz.prog 92 #[.pointer (some ⟨wb, 0, none⟩), v, .func (.func 136) #[.pointer (some ⟨wb, 0, none⟩)] #[]] w (WPost M w wb xs vs (out ++ calledW vs W (.mk 1 n s ts))) := by
  obtain ⟨u, rfl, hs, hk64, hn64, hu⟩ := tmV_iff.1 hv
  obtain ⟨au, cu, rfl, hu1, hu2, hu3⟩ := hu.len
  unfold BIG at hu3 hs
  unfold maxLen at hu2
  unfold I64 at hn64
  obtain ⟨m, hm⟩ : ∃ m, ts.length = m := ⟨_, rfl⟩
  have HM := Lib.hid hm
  rw [hm] at hu hu1 hu3
  rw [hm]
  obtain ⟨w1, hw1, hb1, hz1, hx1⟩ := box_new w #[.int .i64 1, .int .i64 n, .string s, .slice au m cu] 27
  obtain ⟨b0, b1, b2, b3, bf⟩ := hx1.four
  have h1 := h.later hb1
  have HTS := Lib.hid (Tms.later hb1 hu)
  have HZ := Lib.hid hz
  have HL := Lib.hid hl
  have HAA := Lib.hid HA
  have HMB := Lib.hid (h.new (Nat.le_refl w.heap.size))
  have HT1 := Lib.hid (show Turn M M M M w w1 from Turn.below hb1)
  have HX1 := Lib.hid hx1
  have HLA := Lib.hid (show headW vs (.mk 1 n s ts) ++ (if ts.isEmpty then [] else 40 :: (rowW W ts ++ [41])) = calledW vs W (.mk 1 n s ts) from rfl)
  have HZH := Lib.hid (show out.length + (headW vs (.mk 1 n s ts)).length ≤ 1000000000 by have := HLA.out; rw [← this, List.length_append] at hz; omega)
  have HQ := Lib.hid (format_any hn64.1 hn64.2 h1.con)
  have H1 := Lib.hid h1
  clear h hv hu hm hl hz hb1 hz1 hx1 HA
  go_enter Tryz.func92, Tryz.ntmps92
  go_wp2_with fail
  (try rw [hw1])
  clear hw1
  (go_wp2_with fail; go_fit (HQ.out); rintro e w2 ⟨rfl, hb2⟩)
  have HP := Lib.hid (put_at (H1.out.later hb2) ⟨(numW n).toArray⟩ (by rw [bl_mk]; exact HZH.out))
  have HB2 := Lib.hid hb2
  clear hb2
  (go_wp2_with fail; go_fit (HP.out); rintro e w3 ⟨rfl, M3, g3, g4⟩)
  have G3 := Lib.hid (show Wr M3 w3 wb xs vs (out ++ headW vs (.mk 1 n s ts)) by rw [bl_mk] at g3; exact g3)
  have G34 := Lib.hid ((show Turn M M M M w1 w2 from Turn.below HB2.out).trans g4)
  clear g3 g4
  have HX3 := Lib.hid (HX1.out.turn G34.out HMB.out)
  have HTS3 := Lib.hid (HTS.out.turn G34.out)
  have HMB3 := Lib.hid ((G34.out.mm _ HX1.out.lt).trans HMB.out)
  have G4 := Lib.hid (HT1.out.trans G34.out)
  clear b0 b1 b2 b3 bf
  obtain ⟨b0, b1, b2, b3, bf⟩ := HX3.out.four
  by_cases h0 : m = 0
  · have HE := Lib.hid (show calledW vs W (.mk 1 n s ts) = headW vs (.mk 1 n s ts) by
      rw [← HLA.out, show ts = [] from List.length_eq_zero_iff.1 (by rw [HM.out]; exact h0)]; simp)
    subst h0
    have hd0 : decide ((0 : Int) > 0) = false := by decide
    go_wp2
    go_end0
    exact ⟨rfl, M3, by rw [HE.out]; exact G3.out, G4.out⟩
  · have hd0 : decide ((m : Int) > 0) = true := decide_eq_true (by omega)
    have HE := Lib.hid (show calledW vs W (.mk 1 n s ts) = headW vs (.mk 1 n s ts) ++ 40 :: (rowW W ts ++ [41]) by
      rw [← HLA.out, if_neg (by intro e; rw [List.isEmpty_iff] at e; rw [← HM.out, e] at h0; exact h0 rfl)])
    have hzz := HZ.out
    rw [HE.out, List.length_append, List.length_cons, List.length_append, List.length_singleton] at hzz
    have HP1 := Lib.hid (put_at G3.out ⟨#[40]⟩ (by rw [open_bl1, List.length_append, List.length_singleton]; omega))
    have HZZ := Lib.hid hzz
    clear hzz
    (go_wp2_with fail; go_fit (HP1.out); rintro e w4 ⟨rfl, M4, g5, g6⟩)
    have HX4 := Lib.hid (HX3.out.turn g6 HMB3.out)
    have HMB4 := Lib.hid ((g6.mm _ HX3.out.lt).trans HMB3.out)
    have HRW := Lib.hid (row_item HAA.out HL.out g5 (HTS3.out.turn g6) (by have := HZZ.out; rw [open_bl1, List.length_append, List.length_append, List.length_singleton]; omega))
    have G6 := Lib.hid (G4.out.trans g6)
    clear g5 g6 b0 b1 b2 b3 bf
    obtain ⟨b0, b1, b2, b3, bf⟩ := HX4.out.four
    (go_wp2_with fail; go_fit (HRW.out); rintro e w5 ⟨rfl, M5, g7, g8⟩)
    have HP2 := Lib.hid (put_at g7 ⟨#[41]⟩ (by have := HZZ.out; rw [open_bl1, shut_bl1, List.length_append, List.length_append, List.length_append, List.length_singleton, List.length_singleton]; omega))
    have G8 := Lib.hid (G6.out.trans g8)
    clear g7 g8
    (go_wp2_with fail; go_fit (HP2.out); rintro e w6 ⟨rfl, M6, g9, g10⟩)
    have G10 := Lib.hid (G8.out.trans g10)
    have G9 := Lib.hid g9
    clear g9 g10
    go_wp2
    go_end0
    exact ⟨rfl, M6, by have := G9.out; rw [HE.out]; rw [open_bl1, shut_bl1] at this; simpa using this, G10.out⟩
set_option maxHeartbeats 8000000 in
theorem called_item_0 {W : Tm → List UInt8} {n' wb : Nat} {xs : List O} {vs : List Int} (HA : ArgC 136 W n' wb xs vs) {n : Int} {s : ByteArray} {ts : List Tm} (hl : ∀ x ∈ ts, sizeN x < n' ∧ goodT x = true) {M : Nat → Bool} {w : World} {out : List UInt8} (h : Wr M w wb xs vs out) {v : Value} (hv : TmV (hide M w) (.mk 0 n s ts) v) (hz : out.length + (calledW vs W (.mk 0 n s ts)).length ≤ 1000000000) :
    Calls Tryz.prog 92 #[.pointer (some ⟨wb, 0, none⟩), v, .func (.func 136) #[.pointer (some ⟨wb, 0, none⟩)] #[]] w (WPost M w wb xs vs (out ++ calledW vs W (.mk 0 n s ts))) := by
  obtain ⟨u, rfl, hs, hk64, hn64, hu⟩ := tmV_iff.1 hv
  obtain ⟨au, cu, rfl, hu1, hu2, hu3⟩ := hu.len
  unfold BIG at hu3 hs
  unfold maxLen at hu2
  unfold I64 at hn64
  obtain ⟨m, hm⟩ : ∃ m, ts.length = m := ⟨_, rfl⟩
  have HM := Lib.hid hm
  rw [hm] at hu hu1 hu3
  rw [hm]
  obtain ⟨w1, hw1, hb1, hz1, hx1⟩ := box_new w #[.int .i64 0, .int .i64 n, .string s, .slice au m cu] 27
  obtain ⟨b0, b1, b2, b3, bf⟩ := hx1.four
  have h1 := h.later hb1
  have HTS := Lib.hid (Tms.later hb1 hu)
  have HZ := Lib.hid hz
  have HL := Lib.hid hl
  have HAA := Lib.hid HA
  have HMB := Lib.hid (h.new (Nat.le_refl w.heap.size))
  have HT1 := Lib.hid (show Turn M M M M w w1 from Turn.below hb1)
  have HX1 := Lib.hid hx1
  have HLA := Lib.hid (show headW vs (.mk 0 n s ts) ++ (if ts.isEmpty then [] else 40 :: (rowW W ts ++ [41])) = calledW vs W (.mk 0 n s ts) from rfl)
  have HZH := Lib.hid (show out.length + (headW vs (.mk 0 n s ts)).length ≤ 1000000000 by have := HLA.out; rw [← this, List.length_append] at hz; omega)
  obtain ⟨_, vv, _, _, v1, _, _, _, hnv, _⟩ := h1.parts
  have HIX := Lib.hid (fun wq (hb : Below w1.heap.size w1 wq) => windex_at (hnv.ext hb) n)
  obtain ⟨_, _, hvl, hvl1, hvl2⟩ := hnv.len
  have hib := idx_bound (vs := vs) (n := n)
  unfold maxLen at hvl2
  have HIR := Lib.hid (show -9223372036854775808 ≤ idxW vs n ∧ idxW vs n ≤ 9223372036854775807 by rcases hib with h | h <;> omega)
  have HIT := Lib.hid (fun wq (hb : Below w1.heap.size w1 wq) => itoa_any HIR.out.1 HIR.out.2 (h1.con.ext hb))
  obtain ⟨Z, hZ⟩ : ∃ Z : ByteArray, (⟨(numW (idxW vs n)).toArray⟩ : ByteArray) = Z := ⟨_, rfl⟩
  have hzb : bl Z = numW (idxW vs n) := by rw [← hZ, bl_mk]
  have hzs : Z.size ≤ 1000 := by
    rw [show Z.size = (bl Z).length from (bl_len Z).symm, hzb]
    exact numW_len HIR.out.1 HIR.out.2
  have HZB := Lib.hid (show bl ((⟨#[95]⟩ : ByteArray) ++ Z) = headW vs (.mk 0 n s ts) by
    rw [show bl ((⟨#[95]⟩ : ByteArray) ++ Z) = 95 :: bl Z by simp [bl], hzb]
    rfl)
  rw [hZ] at HIT
  have H1 := Lib.hid h1
  have hzc : ¬ 9223372036854775807 < 1 + Z.size := by omega
  clear hvl hvl1 hvl2 hib hnv hZ hzb
  clear h hv hu hm hl hz hb1 hz1 hx1 HA
  go_enter Tryz.func92, Tryz.ntmps92
  go_wp2_with fail
  (try rw [hw1])
  clear hw1
  refine wp_region_held_drew (S := fun w' => w'.cell? ⟨wb, 1, none⟩ = some vv ∧ w'.cell? ⟨w.heap.size, 1, none⟩ = some (.int .i64 n)) (by kernel_rfl) ⟨v1, b1⟩ (fun hHeld => ?_)
  first | (refine held_t (i := 0) hHeld ?_; apply Exists.intro; refine ⟨fun wq hq => ?_, ?_⟩; (focus ((try dsimp only at hq); go_simp; (first | done | with_reducible rfl | fail)))) | refine held_s (i := 0) hHeld ?_ | fail
  first | (refine held_t (i := 1) hHeld ?_; apply Exists.intro; refine ⟨fun wq hq => ?_, ?_⟩; (focus ((try dsimp only at hq); go_simp; (first | done | with_reducible rfl | fail)))) | refine held_s (i := 1) hHeld ?_ | fail
  first | (refine held_t (i := 2) hHeld ?_; apply Exists.intro; refine ⟨fun wq hq => ?_, ?_⟩; (focus ((try dsimp only at hq); go_simp; (first | done | with_reducible rfl | fail)))) | refine held_s (i := 2) hHeld ?_ | fail
  first | (refine held_t (i := 3) hHeld ?_; apply Exists.intro; refine ⟨fun wq hq => ?_, ?_⟩; (focus ((try dsimp only at hq); go_simp; (first | done | with_reducible rfl | fail)))) | refine held_s (i := 3) hHeld ?_ | fail
  first | (refine held_t (i := 4) hHeld ?_; apply Exists.intro; refine ⟨fun wq hq => ?_, ?_⟩; (focus ((try dsimp only at hq); go_simp; (first | done | with_reducible rfl | fail)))) | refine held_s (i := 4) hHeld ?_ | fail
  first | (refine held_t (i := 5) hHeld ?_; apply Exists.intro; refine ⟨fun wq hq => ?_, ?_⟩; (focus ((try dsimp only at hq); go_simp; (first | done | with_reducible rfl | fail)))) | refine held_s (i := 5) hHeld ?_ | fail
  first | (refine held_t (i := 6) hHeld ?_; apply Exists.intro; refine ⟨fun wq hq => ?_, ?_⟩; (focus ((try dsimp only at hq); go_simp; (first | done | with_reducible rfl | fail)))) | refine held_s (i := 6) hHeld ?_ | fail
  try simp only [Act.put, List.setIfInBounds_toArray, List.set_cons_zero, List.set_cons_succ]
  refine held_c 7 fun K hK => ?_
  go_simp
  (go_at_call 112; refine (HIX.out _ (Below.refl _ _).drew).mono ?_; rintro e w2 ⟨rfl, rfl⟩)
  refine hK.out _ _ (hHeld) (fun hHeld => ?_)
  clear hK K
  try simp only [Act.put, List.setIfInBounds_toArray, List.set_cons_zero, List.set_cons_succ]
  refine held_c 8 fun K hK => ?_
  go_simp
  (go_at_call 137; refine (HIT.out _ (Below.refl _ _).drew).mono ?_; rintro e w2 ⟨rfl, hb2⟩)
  refine hK.out _ _ (⟨cell_later hb2 hHeld.1, cell_later hb2 hHeld.2⟩) (fun hHeld => ?_)
  clear hK K
  try simp only [Act.put, List.setIfInBounds_toArray, List.set_cons_zero, List.set_cons_succ]
  first | (refine held_t (i := 9) hHeld ?_; apply Exists.intro; refine ⟨fun wq hq => ?_, ?_⟩; (focus ((try dsimp only at hq); go_simp; (first | done | with_reducible rfl | fail)))) | refine held_s (i := 9) hHeld ?_ | fail
  try simp only [Act.put, List.setIfInBounds_toArray, List.set_cons_zero, List.set_cons_succ]
  refine held_c 10 fun K hK => ?_
  go_simp
  (go_at_call 91; refine (put_keeps (H1.out.later (Ext.trans' (Below.refl _ _).drew hb2)) _ (by rw [HZB.out]; exact HZH.out)).mono ?_; rintro e w3 ⟨⟨rfl, M3, g3, g4⟩, g5⟩)
  refine hK.out _ _ (⟨(g5 1 (by decide)).trans hHeld.1, g4.cell HMB.out hHeld.2⟩) (fun hHeld => ?_)
  clear hK K
  try simp only [Act.put, List.setIfInBounds_toArray, List.set_cons_zero, List.set_cons_succ]
  refine wpAnyH_done (by kernel_rfl) ?_ _
  have G3 := Lib.hid (show Wr M3 w3 wb xs vs (out ++ headW vs (.mk 0 n s ts)) by rw [HZB.out] at g3; exact g3)
  have G34 := Lib.hid ((show Turn M M M M w1 w2 from Turn.below (Ext.trans' (Below.refl _ _).drew hb2)).trans g4)
  clear g3 g4 g5 hb2 hHeld
  have HX3 := Lib.hid (HX1.out.turn G34.out HMB.out)
  have HTS3 := Lib.hid (HTS.out.turn G34.out)
  have HMB3 := Lib.hid ((G34.out.mm _ HX1.out.lt).trans HMB.out)
  have G4 := Lib.hid (HT1.out.trans G34.out)
  clear b0 b1 b2 b3 bf
  obtain ⟨b0, b1, b2, b3, bf⟩ := HX3.out.four
  by_cases h0 : m = 0
  · have HE := Lib.hid (show calledW vs W (.mk 0 n s ts) = headW vs (.mk 0 n s ts) by
      rw [← HLA.out, show ts = [] from List.length_eq_zero_iff.1 (by rw [HM.out]; exact h0)]; simp)
    subst h0
    have hd0 : decide ((0 : Int) > 0) = false := by decide
    go_wp2
    go_end0
    exact ⟨rfl, M3, by rw [HE.out]; exact G3.out, G4.out⟩
  · have hd0 : decide ((m : Int) > 0) = true := decide_eq_true (by omega)
    have HE := Lib.hid (show calledW vs W (.mk 0 n s ts) = headW vs (.mk 0 n s ts) ++ 40 :: (rowW W ts ++ [41]) by
      rw [← HLA.out, if_neg (by intro e; rw [List.isEmpty_iff] at e; rw [← HM.out, e] at h0; exact h0 rfl)])
    have hzz := HZ.out
    rw [HE.out, List.length_append, List.length_cons, List.length_append, List.length_singleton] at hzz
    have HP1 := Lib.hid (put_at G3.out ⟨#[40]⟩ (by rw [open_bl1, List.length_append, List.length_singleton]; omega))
    have HZZ := Lib.hid hzz
    clear hzz
    (go_wp2_with fail; go_fit (HP1.out); rintro e w4 ⟨rfl, M4, g5, g6⟩)
    have HX4 := Lib.hid (HX3.out.turn g6 HMB3.out)
    have HMB4 := Lib.hid ((g6.mm _ HX3.out.lt).trans HMB3.out)
    have HRW := Lib.hid (row_item HAA.out HL.out g5 (HTS3.out.turn g6) (by have := HZZ.out; rw [open_bl1, List.length_append, List.length_append, List.length_singleton]; omega))
    have G6 := Lib.hid (G4.out.trans g6)
    clear g5 g6 b0 b1 b2 b3 bf
    obtain ⟨b0, b1, b2, b3, bf⟩ := HX4.out.four
    (go_wp2_with fail; go_fit (HRW.out); rintro e w5 ⟨rfl, M5, g7, g8⟩)
    have HP2 := Lib.hid (put_at g7 ⟨#[41]⟩ (by have := HZZ.out; rw [open_bl1, shut_bl1, List.length_append, List.length_append, List.length_append, List.length_singleton, List.length_singleton]; omega))
    have G8 := Lib.hid (G6.out.trans g8)
    clear g7 g8
    (go_wp2_with fail; go_fit (HP2.out); rintro e w6 ⟨rfl, M6, g9, g10⟩)
    have G10 := Lib.hid (G8.out.trans g10)
    have G9 := Lib.hid g9
    clear g9 g10
    go_wp2
    go_end0
    exact ⟨rfl, M6, by have := G9.out; rw [HE.out]; rw [open_bl1, shut_bl1] at this; simpa using this, G10.out⟩
set_option maxHeartbeats 8000000 in
theorem called_plain_2 {W : Tm → List UInt8} {n' wb : Nat} {xs : List O} {vs : List Int} (HA : ArgC 57 W n' wb xs vs) {n : Int} {s : ByteArray} {ts : List Tm} (hl : ∀ x ∈ ts, sizeN x < n' ∧ goodT x = true) {M : Nat → Bool} {w : World} {out : List UInt8} (h : Wr M w wb xs vs out) {v : Value} (hv : TmV (hide M w) (.mk 2 n s ts) v) (hz : out.length + (calledW vs W (.mk 2 n s ts)).length ≤ 1000000000) :
    Calls Tryz.prog 92 #[.pointer (some ⟨wb, 0, none⟩), v, .func (.func 57) #[.pointer (some ⟨wb, 0, none⟩)] #[]] w (WPost M w wb xs vs (out ++ calledW vs W (.mk 2 n s ts))) := by
  obtain ⟨u, rfl, hs, hk64, hn64, hu⟩ := tmV_iff.1 hv
  obtain ⟨au, cu, rfl, hu1, hu2, hu3⟩ := hu.len
  unfold BIG at hu3 hs
  unfold maxLen at hu2
  unfold I64 at hn64
  obtain ⟨m, hm⟩ : ∃ m, ts.length = m := ⟨_, rfl⟩
  have HM := Lib.hid hm
  rw [hm] at hu hu1 hu3
  rw [hm]
  obtain ⟨w1, hw1, hb1, hz1, hx1⟩ := box_new w #[.int .i64 2, .int .i64 n, .string s, .slice au m cu] 27
  obtain ⟨b0, b1, b2, b3, bf⟩ := hx1.four
  have h1 := h.later hb1
  have HTS := Lib.hid (Tms.later hb1 hu)
  have HZ := Lib.hid hz
  have HL := Lib.hid hl
  have HAA := Lib.hid HA
  have HMB := Lib.hid (h.new (Nat.le_refl w.heap.size))
  have HT1 := Lib.hid (show Turn M M M M w w1 from Turn.below hb1)
  have HX1 := Lib.hid hx1
  have HLA := Lib.hid (show headW vs (.mk 2 n s ts) ++ (if ts.isEmpty then [] else 40 :: (rowW W ts ++ [41])) = calledW vs W (.mk 2 n s ts) from rfl)
  have HZH := Lib.hid (show out.length + (headW vs (.mk 2 n s ts)).length ≤ 1000000000 by have := HLA.out; rw [← this, List.length_append] at hz; omega)
  have HQ := Lib.hid (quote_any s w1 h1.con.err (by omega))
  have H1 := Lib.hid h1
  clear h hv hu hm hl hz hb1 hz1 hx1 HA
  go_enter Tryz.func92, Tryz.ntmps92
  go_wp2_with fail
  (try rw [hw1])
  clear hw1
  (go_wp2_with fail; go_fit (HQ.out); rintro e w2 ⟨rfl, hb2⟩)
  have HP := Lib.hid (put_at (H1.out.later hb2) ⟨(quoteB (bl s)).toArray⟩ (by rw [bl_mk]; exact HZH.out))
  have HB2 := Lib.hid hb2
  clear hb2
  (go_wp2_with fail; go_fit (HP.out); rintro e w3 ⟨rfl, M3, g3, g4⟩)
  have G3 := Lib.hid (show Wr M3 w3 wb xs vs (out ++ headW vs (.mk 2 n s ts)) by rw [bl_mk] at g3; exact g3)
  have G34 := Lib.hid ((show Turn M M M M w1 w2 from Turn.below HB2.out).trans g4)
  clear g3 g4
  have HX3 := Lib.hid (HX1.out.turn G34.out HMB.out)
  have HTS3 := Lib.hid (HTS.out.turn G34.out)
  have HMB3 := Lib.hid ((G34.out.mm _ HX1.out.lt).trans HMB.out)
  have G4 := Lib.hid (HT1.out.trans G34.out)
  clear b0 b1 b2 b3 bf
  obtain ⟨b0, b1, b2, b3, bf⟩ := HX3.out.four
  by_cases h0 : m = 0
  · have HE := Lib.hid (show calledW vs W (.mk 2 n s ts) = headW vs (.mk 2 n s ts) by
      rw [← HLA.out, show ts = [] from List.length_eq_zero_iff.1 (by rw [HM.out]; exact h0)]; simp)
    subst h0
    have hd0 : decide ((0 : Int) > 0) = false := by decide
    go_wp2
    go_end0
    exact ⟨rfl, M3, by rw [HE.out]; exact G3.out, G4.out⟩
  · have hd0 : decide ((m : Int) > 0) = true := decide_eq_true (by omega)
    have HE := Lib.hid (show calledW vs W (.mk 2 n s ts) = headW vs (.mk 2 n s ts) ++ 40 :: (rowW W ts ++ [41]) by
      rw [← HLA.out, if_neg (by intro e; rw [List.isEmpty_iff] at e; rw [← HM.out, e] at h0; exact h0 rfl)])
    have hzz := HZ.out
    rw [HE.out, List.length_append, List.length_cons, List.length_append, List.length_singleton] at hzz
    have HP1 := Lib.hid (put_at G3.out ⟨#[40]⟩ (by rw [open_bl1, List.length_append, List.length_singleton]; omega))
    have HZZ := Lib.hid hzz
    clear hzz
    (go_wp2_with fail; go_fit (HP1.out); rintro e w4 ⟨rfl, M4, g5, g6⟩)
    have HX4 := Lib.hid (HX3.out.turn g6 HMB3.out)
    have HMB4 := Lib.hid ((g6.mm _ HX3.out.lt).trans HMB3.out)
    have HRW := Lib.hid (row_plain HAA.out HL.out g5 (HTS3.out.turn g6) (by have := HZZ.out; rw [open_bl1, List.length_append, List.length_append, List.length_singleton]; omega))
    have G6 := Lib.hid (G4.out.trans g6)
    clear g5 g6 b0 b1 b2 b3 bf
    obtain ⟨b0, b1, b2, b3, bf⟩ := HX4.out.four
    (go_wp2_with fail; go_fit (HRW.out); rintro e w5 ⟨rfl, M5, g7, g8⟩)
    have HP2 := Lib.hid (put_at g7 ⟨#[41]⟩ (by have := HZZ.out; rw [open_bl1, shut_bl1, List.length_append, List.length_append, List.length_append, List.length_singleton, List.length_singleton]; omega))
    have G8 := Lib.hid (G6.out.trans g8)
    clear g7 g8
    (go_wp2_with fail; go_fit (HP2.out); rintro e w6 ⟨rfl, M6, g9, g10⟩)
    have G10 := Lib.hid (G8.out.trans g10)
    have G9 := Lib.hid g9
    clear g9 g10
    go_wp2
    go_end0
    exact ⟨rfl, M6, by have := G9.out; rw [HE.out]; rw [open_bl1, shut_bl1] at this; simpa using this, G10.out⟩
set_option maxHeartbeats 8000000 in
theorem called_plain_1 {W : Tm → List UInt8} {n' wb : Nat} {xs : List O} {vs : List Int} (HA : ArgC 57 W n' wb xs vs) {n : Int} {s : ByteArray} {ts : List Tm} (hl : ∀ x ∈ ts, sizeN x < n' ∧ goodT x = true) {M : Nat → Bool} {w : World} {out : List UInt8} (h : Wr M w wb xs vs out) {v : Value} (hv : TmV (hide M w) (.mk 1 n s ts) v) (hz : out.length + (calledW vs W (.mk 1 n s ts)).length ≤ 1000000000) :
    Calls Tryz.prog 92 #[.pointer (some ⟨wb, 0, none⟩), v, .func (.func 57) #[.pointer (some ⟨wb, 0, none⟩)] #[]] w (WPost M w wb xs vs (out ++ calledW vs W (.mk 1 n s ts))) := by
  obtain ⟨u, rfl, hs, hk64, hn64, hu⟩ := tmV_iff.1 hv
  obtain ⟨au, cu, rfl, hu1, hu2, hu3⟩ := hu.len
  unfold BIG at hu3 hs
  unfold maxLen at hu2
  unfold I64 at hn64
  obtain ⟨m, hm⟩ : ∃ m, ts.length = m := ⟨_, rfl⟩
  have HM := Lib.hid hm
  rw [hm] at hu hu1 hu3
  rw [hm]
  obtain ⟨w1, hw1, hb1, hz1, hx1⟩ := box_new w #[.int .i64 1, .int .i64 n, .string s, .slice au m cu] 27
  obtain ⟨b0, b1, b2, b3, bf⟩ := hx1.four
  have h1 := h.later hb1
  have HTS := Lib.hid (Tms.later hb1 hu)
  have HZ := Lib.hid hz
  have HL := Lib.hid hl
  have HAA := Lib.hid HA
  have HMB := Lib.hid (h.new (Nat.le_refl w.heap.size))
  have HT1 := Lib.hid (show Turn M M M M w w1 from Turn.below hb1)
  have HX1 := Lib.hid hx1
  have HLA := Lib.hid (show headW vs (.mk 1 n s ts) ++ (if ts.isEmpty then [] else 40 :: (rowW W ts ++ [41])) = calledW vs W (.mk 1 n s ts) from rfl)
  have HZH := Lib.hid (show out.length + (headW vs (.mk 1 n s ts)).length ≤ 1000000000 by have := HLA.out; rw [← this, List.length_append] at hz; omega)
  have HQ := Lib.hid (format_any hn64.1 hn64.2 h1.con)
  have H1 := Lib.hid h1
  clear h hv hu hm hl hz hb1 hz1 hx1 HA
  go_enter Tryz.func92, Tryz.ntmps92
  go_wp2_with fail
  (try rw [hw1])
  clear hw1
  (go_wp2_with fail; go_fit (HQ.out); rintro e w2 ⟨rfl, hb2⟩)
  have HP := Lib.hid (put_at (H1.out.later hb2) ⟨(numW n).toArray⟩ (by rw [bl_mk]; exact HZH.out))
  have HB2 := Lib.hid hb2
  clear hb2
  (go_wp2_with fail; go_fit (HP.out); rintro e w3 ⟨rfl, M3, g3, g4⟩)
  have G3 := Lib.hid (show Wr M3 w3 wb xs vs (out ++ headW vs (.mk 1 n s ts)) by rw [bl_mk] at g3; exact g3)
  have G34 := Lib.hid ((show Turn M M M M w1 w2 from Turn.below HB2.out).trans g4)
  clear g3 g4
  have HX3 := Lib.hid (HX1.out.turn G34.out HMB.out)
  have HTS3 := Lib.hid (HTS.out.turn G34.out)
  have HMB3 := Lib.hid ((G34.out.mm _ HX1.out.lt).trans HMB.out)
  have G4 := Lib.hid (HT1.out.trans G34.out)
  clear b0 b1 b2 b3 bf
  obtain ⟨b0, b1, b2, b3, bf⟩ := HX3.out.four
  by_cases h0 : m = 0
  · have HE := Lib.hid (show calledW vs W (.mk 1 n s ts) = headW vs (.mk 1 n s ts) by
      rw [← HLA.out, show ts = [] from List.length_eq_zero_iff.1 (by rw [HM.out]; exact h0)]; simp)
    subst h0
    have hd0 : decide ((0 : Int) > 0) = false := by decide
    go_wp2
    go_end0
    exact ⟨rfl, M3, by rw [HE.out]; exact G3.out, G4.out⟩
  · have hd0 : decide ((m : Int) > 0) = true := decide_eq_true (by omega)
    have HE := Lib.hid (show calledW vs W (.mk 1 n s ts) = headW vs (.mk 1 n s ts) ++ 40 :: (rowW W ts ++ [41]) by
      rw [← HLA.out, if_neg (by intro e; rw [List.isEmpty_iff] at e; rw [← HM.out, e] at h0; exact h0 rfl)])
    have hzz := HZ.out
    rw [HE.out, List.length_append, List.length_cons, List.length_append, List.length_singleton] at hzz
    have HP1 := Lib.hid (put_at G3.out ⟨#[40]⟩ (by rw [open_bl1, List.length_append, List.length_singleton]; omega))
    have HZZ := Lib.hid hzz
    clear hzz
    (go_wp2_with fail; go_fit (HP1.out); rintro e w4 ⟨rfl, M4, g5, g6⟩)
    have HX4 := Lib.hid (HX3.out.turn g6 HMB3.out)
    have HMB4 := Lib.hid ((g6.mm _ HX3.out.lt).trans HMB3.out)
    have HRW := Lib.hid (row_plain HAA.out HL.out g5 (HTS3.out.turn g6) (by have := HZZ.out; rw [open_bl1, List.length_append, List.length_append, List.length_singleton]; omega))
    have G6 := Lib.hid (G4.out.trans g6)
    clear g5 g6 b0 b1 b2 b3 bf
    obtain ⟨b0, b1, b2, b3, bf⟩ := HX4.out.four
    (go_wp2_with fail; go_fit (HRW.out); rintro e w5 ⟨rfl, M5, g7, g8⟩)
    have HP2 := Lib.hid (put_at g7 ⟨#[41]⟩ (by have := HZZ.out; rw [open_bl1, shut_bl1, List.length_append, List.length_append, List.length_append, List.length_singleton, List.length_singleton]; omega))
    have G8 := Lib.hid (G6.out.trans g8)
    clear g7 g8
    (go_wp2_with fail; go_fit (HP2.out); rintro e w6 ⟨rfl, M6, g9, g10⟩)
    have G10 := Lib.hid (G8.out.trans g10)
    have G9 := Lib.hid g9
    clear g9 g10
    go_wp2
    go_end0
    exact ⟨rfl, M6, by have := G9.out; rw [HE.out]; rw [open_bl1, shut_bl1] at this; simpa using this, G10.out⟩
set_option maxHeartbeats 8000000 in
theorem called_plain_0 {W : Tm → List UInt8} {n' wb : Nat} {xs : List O} {vs : List Int} (HA : ArgC 57 W n' wb xs vs) {n : Int} {s : ByteArray} {ts : List Tm} (hl : ∀ x ∈ ts, sizeN x < n' ∧ goodT x = true) {M : Nat → Bool} {w : World} {out : List UInt8} (h : Wr M w wb xs vs out) {v : Value} (hv : TmV (hide M w) (.mk 0 n s ts) v) (hz : out.length + (calledW vs W (.mk 0 n s ts)).length ≤ 1000000000) :
    Calls Tryz.prog 92 #[.pointer (some ⟨wb, 0, none⟩), v, .func (.func 57) #[.pointer (some ⟨wb, 0, none⟩)] #[]] w (WPost M w wb xs vs (out ++ calledW vs W (.mk 0 n s ts))) := by
  obtain ⟨u, rfl, hs, hk64, hn64, hu⟩ := tmV_iff.1 hv
  obtain ⟨au, cu, rfl, hu1, hu2, hu3⟩ := hu.len
  unfold BIG at hu3 hs
  unfold maxLen at hu2
  unfold I64 at hn64
  obtain ⟨m, hm⟩ : ∃ m, ts.length = m := ⟨_, rfl⟩
  have HM := Lib.hid hm
  rw [hm] at hu hu1 hu3
  rw [hm]
  obtain ⟨w1, hw1, hb1, hz1, hx1⟩ := box_new w #[.int .i64 0, .int .i64 n, .string s, .slice au m cu] 27
  obtain ⟨b0, b1, b2, b3, bf⟩ := hx1.four
  have h1 := h.later hb1
  have HTS := Lib.hid (Tms.later hb1 hu)
  have HZ := Lib.hid hz
  have HL := Lib.hid hl
  have HAA := Lib.hid HA
  have HMB := Lib.hid (h.new (Nat.le_refl w.heap.size))
  have HT1 := Lib.hid (show Turn M M M M w w1 from Turn.below hb1)
  have HX1 := Lib.hid hx1
  have HLA := Lib.hid (show headW vs (.mk 0 n s ts) ++ (if ts.isEmpty then [] else 40 :: (rowW W ts ++ [41])) = calledW vs W (.mk 0 n s ts) from rfl)
  have HZH := Lib.hid (show out.length + (headW vs (.mk 0 n s ts)).length ≤ 1000000000 by have := HLA.out; rw [← this, List.length_append] at hz; omega)
  obtain ⟨_, vv, _, _, v1, _, _, _, hnv, _⟩ := h1.parts
  have HIX := Lib.hid (fun wq (hb : Below w1.heap.size w1 wq) => windex_at (hnv.ext hb) n)
  obtain ⟨_, _, hvl, hvl1, hvl2⟩ := hnv.len
  have hib := idx_bound (vs := vs) (n := n)
  unfold maxLen at hvl2
  have HIR := Lib.hid (show -9223372036854775808 ≤ idxW vs n ∧ idxW vs n ≤ 9223372036854775807 by rcases hib with h | h <;> omega)
  have HIT := Lib.hid (fun wq (hb : Below w1.heap.size w1 wq) => itoa_any HIR.out.1 HIR.out.2 (h1.con.ext hb))
  obtain ⟨Z, hZ⟩ : ∃ Z : ByteArray, (⟨(numW (idxW vs n)).toArray⟩ : ByteArray) = Z := ⟨_, rfl⟩
  have hzb : bl Z = numW (idxW vs n) := by rw [← hZ, bl_mk]
  have hzs : Z.size ≤ 1000 := by
    rw [show Z.size = (bl Z).length from (bl_len Z).symm, hzb]
    exact numW_len HIR.out.1 HIR.out.2
  have HZB := Lib.hid (show bl ((⟨#[95]⟩ : ByteArray) ++ Z) = headW vs (.mk 0 n s ts) by
    rw [show bl ((⟨#[95]⟩ : ByteArray) ++ Z) = 95 :: bl Z by simp [bl], hzb]
    rfl)
  rw [hZ] at HIT
  have H1 := Lib.hid h1
  have hzc : ¬ 9223372036854775807 < 1 + Z.size := by omega
  clear hvl hvl1 hvl2 hib hnv hZ hzb
  clear h hv hu hm hl hz hb1 hz1 hx1 HA
  go_enter Tryz.func92, Tryz.ntmps92
  go_wp2_with fail
  (try rw [hw1])
  clear hw1
  refine wp_region_held_drew (S := fun w' => w'.cell? ⟨wb, 1, none⟩ = some vv ∧ w'.cell? ⟨w.heap.size, 1, none⟩ = some (.int .i64 n)) (by kernel_rfl) ⟨v1, b1⟩ (fun hHeld => ?_)
  first | (refine held_t (i := 0) hHeld ?_; apply Exists.intro; refine ⟨fun wq hq => ?_, ?_⟩; (focus ((try dsimp only at hq); go_simp; (first | done | with_reducible rfl | fail)))) | refine held_s (i := 0) hHeld ?_ | fail
  first | (refine held_t (i := 1) hHeld ?_; apply Exists.intro; refine ⟨fun wq hq => ?_, ?_⟩; (focus ((try dsimp only at hq); go_simp; (first | done | with_reducible rfl | fail)))) | refine held_s (i := 1) hHeld ?_ | fail
  first | (refine held_t (i := 2) hHeld ?_; apply Exists.intro; refine ⟨fun wq hq => ?_, ?_⟩; (focus ((try dsimp only at hq); go_simp; (first | done | with_reducible rfl | fail)))) | refine held_s (i := 2) hHeld ?_ | fail
  first | (refine held_t (i := 3) hHeld ?_; apply Exists.intro; refine ⟨fun wq hq => ?_, ?_⟩; (focus ((try dsimp only at hq); go_simp; (first | done | with_reducible rfl | fail)))) | refine held_s (i := 3) hHeld ?_ | fail
  first | (refine held_t (i := 4) hHeld ?_; apply Exists.intro; refine ⟨fun wq hq => ?_, ?_⟩; (focus ((try dsimp only at hq); go_simp; (first | done | with_reducible rfl | fail)))) | refine held_s (i := 4) hHeld ?_ | fail
  first | (refine held_t (i := 5) hHeld ?_; apply Exists.intro; refine ⟨fun wq hq => ?_, ?_⟩; (focus ((try dsimp only at hq); go_simp; (first | done | with_reducible rfl | fail)))) | refine held_s (i := 5) hHeld ?_ | fail
  first | (refine held_t (i := 6) hHeld ?_; apply Exists.intro; refine ⟨fun wq hq => ?_, ?_⟩; (focus ((try dsimp only at hq); go_simp; (first | done | with_reducible rfl | fail)))) | refine held_s (i := 6) hHeld ?_ | fail
  try simp only [Act.put, List.setIfInBounds_toArray, List.set_cons_zero, List.set_cons_succ]
  refine held_c 7 fun K hK => ?_
  go_simp
  (go_at_call 112; refine (HIX.out _ (Below.refl _ _).drew).mono ?_; rintro e w2 ⟨rfl, rfl⟩)
  refine hK.out _ _ (hHeld) (fun hHeld => ?_)
  clear hK K
  try simp only [Act.put, List.setIfInBounds_toArray, List.set_cons_zero, List.set_cons_succ]
  refine held_c 8 fun K hK => ?_
  go_simp
  (go_at_call 137; refine (HIT.out _ (Below.refl _ _).drew).mono ?_; rintro e w2 ⟨rfl, hb2⟩)
  refine hK.out _ _ (⟨cell_later hb2 hHeld.1, cell_later hb2 hHeld.2⟩) (fun hHeld => ?_)
  clear hK K
  try simp only [Act.put, List.setIfInBounds_toArray, List.set_cons_zero, List.set_cons_succ]
  first | (refine held_t (i := 9) hHeld ?_; apply Exists.intro; refine ⟨fun wq hq => ?_, ?_⟩; (focus ((try dsimp only at hq); go_simp; (first | done | with_reducible rfl | fail)))) | refine held_s (i := 9) hHeld ?_ | fail
  try simp only [Act.put, List.setIfInBounds_toArray, List.set_cons_zero, List.set_cons_succ]
  refine held_c 10 fun K hK => ?_
  go_simp
  (go_at_call 91; refine (put_keeps (H1.out.later (Ext.trans' (Below.refl _ _).drew hb2)) _ (by rw [HZB.out]; exact HZH.out)).mono ?_; rintro e w3 ⟨⟨rfl, M3, g3, g4⟩, g5⟩)
  refine hK.out _ _ (⟨(g5 1 (by decide)).trans hHeld.1, g4.cell HMB.out hHeld.2⟩) (fun hHeld => ?_)
  clear hK K
  try simp only [Act.put, List.setIfInBounds_toArray, List.set_cons_zero, List.set_cons_succ]
  refine wpAnyH_done (by kernel_rfl) ?_ _
  have G3 := Lib.hid (show Wr M3 w3 wb xs vs (out ++ headW vs (.mk 0 n s ts)) by rw [HZB.out] at g3; exact g3)
  have G34 := Lib.hid ((show Turn M M M M w1 w2 from Turn.below (Ext.trans' (Below.refl _ _).drew hb2)).trans g4)
  clear g3 g4 g5 hb2 hHeld
  have HX3 := Lib.hid (HX1.out.turn G34.out HMB.out)
  have HTS3 := Lib.hid (HTS.out.turn G34.out)
  have HMB3 := Lib.hid ((G34.out.mm _ HX1.out.lt).trans HMB.out)
  have G4 := Lib.hid (HT1.out.trans G34.out)
  clear b0 b1 b2 b3 bf
  obtain ⟨b0, b1, b2, b3, bf⟩ := HX3.out.four
  by_cases h0 : m = 0
  · have HE := Lib.hid (show calledW vs W (.mk 0 n s ts) = headW vs (.mk 0 n s ts) by
      rw [← HLA.out, show ts = [] from List.length_eq_zero_iff.1 (by rw [HM.out]; exact h0)]; simp)
    subst h0
    have hd0 : decide ((0 : Int) > 0) = false := by decide
    go_wp2
    go_end0
    exact ⟨rfl, M3, by rw [HE.out]; exact G3.out, G4.out⟩
  · have hd0 : decide ((m : Int) > 0) = true := decide_eq_true (by omega)
    have HE := Lib.hid (show calledW vs W (.mk 0 n s ts) = headW vs (.mk 0 n s ts) ++ 40 :: (rowW W ts ++ [41]) by
      rw [← HLA.out, if_neg (by intro e; rw [List.isEmpty_iff] at e; rw [← HM.out, e] at h0; exact h0 rfl)])
    have hzz := HZ.out
    rw [HE.out, List.length_append, List.length_cons, List.length_append, List.length_singleton] at hzz
    have HP1 := Lib.hid (put_at G3.out ⟨#[40]⟩ (by rw [open_bl1, List.length_append, List.length_singleton]; omega))
    have HZZ := Lib.hid hzz
    clear hzz
    (go_wp2_with fail; go_fit (HP1.out); rintro e w4 ⟨rfl, M4, g5, g6⟩)
    have HX4 := Lib.hid (HX3.out.turn g6 HMB3.out)
    have HMB4 := Lib.hid ((g6.mm _ HX3.out.lt).trans HMB3.out)
    have HRW := Lib.hid (row_plain HAA.out HL.out g5 (HTS3.out.turn g6) (by have := HZZ.out; rw [open_bl1, List.length_append, List.length_append, List.length_singleton]; omega))
    have G6 := Lib.hid (G4.out.trans g6)
    clear g5 g6 b0 b1 b2 b3 bf
    obtain ⟨b0, b1, b2, b3, bf⟩ := HX4.out.four
    (go_wp2_with fail; go_fit (HRW.out); rintro e w5 ⟨rfl, M5, g7, g8⟩)
    have HP2 := Lib.hid (put_at g7 ⟨#[41]⟩ (by have := HZZ.out; rw [open_bl1, shut_bl1, List.length_append, List.length_append, List.length_append, List.length_singleton, List.length_singleton]; omega))
    have G8 := Lib.hid (G6.out.trans g8)
    clear g7 g8
    (go_wp2_with fail; go_fit (HP2.out); rintro e w6 ⟨rfl, M6, g9, g10⟩)
    have G10 := Lib.hid (G8.out.trans g10)
    have G9 := Lib.hid g9
    clear g9 g10
    go_wp2
    go_end0
    exact ⟨rfl, M6, by have := G9.out; rw [HE.out]; rw [open_bl1, shut_bl1] at this; simpa using this, G10.out⟩
theorem called_item {W : Tm → List UInt8} {n' wb : Nat} {xs : List O} {vs : List Int} (HA : ArgC 136 W n' wb xs vs) {x : Tm} (hg : goodT x = true) (hl : ∀ y ∈ x.args, sizeN y < n') {M : Nat → Bool} {w : World} {out : List UInt8} (h : Wr M w wb xs vs out) {v : Value} (hv : TmV (hide M w) x v) (hz : out.length + (calledW vs W x).length ≤ 1000000000) :
    Calls Tryz.prog 92 #[.pointer (some ⟨wb, 0, none⟩), v, .func (.func 136) #[.pointer (some ⟨wb, 0, none⟩)] #[]] w (WPost M w wb xs vs (out ++ calledW vs W x)) := by
  cases x with
  | mk k n s ts =>
    have hl2 : ∀ y ∈ ts, sizeN y < n' ∧ goodT y = true := fun y hy => ⟨hl y hy, good_arg hg hy⟩
    have hf := (good_parts hg).2.2
    rw [formedT, Bool.and_eq_true] at hf
    have hp := hf.1
    unfold plainT at hp
    by_cases h0 : k = 0
    · subst h0; exact called_item_0 HA hl2 h hv hz
    · by_cases h1 : k = 1
      · subst h1; exact called_item_1 HA hl2 h hv hz
      · by_cases h2 : k = 2
        · subst h2; exact called_item_2 HA hl2 h hv hz
        · rw [if_neg h0, if_neg h1, if_neg h2] at hp; cases hp
theorem called_plain {W : Tm → List UInt8} {n' wb : Nat} {xs : List O} {vs : List Int} (HA : ArgC 57 W n' wb xs vs) {x : Tm} (hg : goodT x = true) (hl : ∀ y ∈ x.args, sizeN y < n') {M : Nat → Bool} {w : World} {out : List UInt8} (h : Wr M w wb xs vs out) {v : Value} (hv : TmV (hide M w) x v) (hz : out.length + (calledW vs W x).length ≤ 1000000000) :
    Calls Tryz.prog 92 #[.pointer (some ⟨wb, 0, none⟩), v, .func (.func 57) #[.pointer (some ⟨wb, 0, none⟩)] #[]] w (WPost M w wb xs vs (out ++ calledW vs W x)) := by
  cases x with
  | mk k n s ts =>
    have hl2 : ∀ y ∈ ts, sizeN y < n' ∧ goodT y = true := fun y hy => ⟨hl y hy, good_arg hg hy⟩
    have hf := (good_parts hg).2.2
    rw [formedT, Bool.and_eq_true] at hf
    have hp := hf.1
    unfold plainT at hp
    by_cases h0 : k = 0
    · subst h0; exact called_plain_0 HA hl2 h hv hz
    · by_cases h1 : k = 1
      · subst h1; exact called_plain_1 HA hl2 h hv hz
      · by_cases h2 : k = 2
        · subst h2; exact called_plain_2 HA hl2 h hv hz
        · rw [if_neg h0, if_neg h1, if_neg h2] at hp; cases hp
end Go.Proofs.YtobdhcaoeholhaaGreatDoor
/- Package term: Vars. -/
namespace Go.Proofs.YtobdhcaoeholhaaGreatDoor
open Go.RowKit
set_option linter.unusedVariables false

theorem cell_one_new' {w : World} (o : Obj) (v : Value) (ty : TypeId) (j : Nat) (u : Value) (h : [v][j]? = some u) : ((w.alloc o).alloc (.cells #[v] ty)).cell? ((⟨w.heap.size + 1, 0, none⟩ : Addr).add j) = some u := by
  have h1 := cell_new (w.alloc o) #[v] ty j u h
  rwa [show (w.alloc o).heap.size = w.heap.size + 1 by simp] at h1
set_option maxHeartbeats 2000000 in
theorem index_at {w : World} {v : Value} {l : List Int} (h : Nums w v l) (n : Int) : Calls Tryz.prog 112 #[v, .int .i64 n] w fun e w' => (∃ z : Int, e = .returned (.int .i64 z) ∧ (0 ≤ z ↔ n ∈ l)) ∧ w = w' := by
  obtain ⟨a, c, rfl, h1, h2⟩ := h.len
  unfold maxLen at h2
  obtain ⟨m, hm⟩ : ∃ m, l.length = m := ⟨_, rfl⟩
  have HU := Lib.hid h
  have HM := Lib.hid hm
  rw [hm] at h1 h HU ⊢
  clear h hm
  go_enter Tryz.func112, Tryz.ntmps112
  go_wp2_with fail
  go_loop [8] (fun v => ∃ i : Nat, i ≤ m ∧ v = .int .i64 i ∧ Hid (¬ n ∈ l.take i)) (fun v => m - (intOf v).toNat)
  case atStart => exact ⟨0, Nat.zero_le _, rfl, Lib.hid (by simp)⟩
  case round =>
    obtain ⟨i, hi, rfl, HT⟩ := hrel
    by_cases hil : i < m
    · obtain ⟨x, hx⟩ : ∃ x, l[i]? = some x := ⟨_, List.getElem?_eq_getElem (by rw [HM.out]; exact hil)⟩
      obtain ⟨b, off, rfl, _, c0⟩ := HU.out.get hx
      by_cases hxn : n = x
      · subst hxn
        have HMEM := Lib.hid (List.mem_of_getElem? hx)
        clear hx HT
        go_wp2
        go_ret
        exact ⟨⟨i, rfl, fun _ => HMEM.out, fun _ => by omega⟩, rfl⟩
      · have HT2 : Hid (¬ n ∈ l.take (i + 1)) := Lib.hid (by
          rw [List.take_add_one, hx]
          intro hmem
          rcases List.mem_append.1 hmem with hh | hh
          · exact HT.out hh
          · simp at hh
            exact hxn hh)
        have hxn' : (n == x) = false := beq_false_of_ne hxn
        clear hx HT
        go_wp2
        go_round
        case rel => exact ⟨i + 1, by omega, by go_num, HT2⟩
        case measure => simp [intOf]; omega
    · have HNO : Hid (¬ n ∈ l) := Lib.hid (by
        have := HT.out
        rwa [List.take_of_length_le (by rw [HM.out]; omega)] at this)
      clear HT
      go_wp2
      go_ret
      exact ⟨⟨-1, rfl, fun h => by omega, fun h => absurd h HNO.out⟩, rfl⟩
theorem contains_at {w : World} {v : Value} {l : List Int} (h : Nums w v l) (n : Int) : Calls Tryz.prog 76 #[v, .int .i64 n] w fun e w' => e = .returned (.bool (l.contains n)) ∧ w = w' := by
  have I := index_at h n
  by_cases hm : n ∈ l
  · have hr : l.contains n = true := by simpa using hm
    rw [hr]
    have HM := Lib.hid hm
    clear hm hr h
    go_enter Tryz.func76, Tryz.ntmps76
    go_wp2_with fail
    go_fit (I)
    rintro e w' ⟨⟨z, rfl, hz⟩, rfl⟩
    have hz0 : 0 ≤ z := hz.2 HM.out
    clear hz
    go_wp2
    go_ret
    exact ⟨rfl, rfl⟩
  · have hr : l.contains n = false := by simpa using hm
    rw [hr]
    have HM := Lib.hid hm
    clear hm hr h
    go_enter Tryz.func76, Tryz.ntmps76
    go_wp2_with fail
    go_fit (I)
    rintro e w' ⟨⟨z, rfl, hz⟩, rfl⟩
    have hz0 : z < 0 := by
      have : ¬ 0 ≤ z := fun hh => HM.out (hz.1 hh)
      omega
    clear hz
    go_wp2
    go_ret
    exact ⟨ret_bool (decide_eq_false (by omega)), rfl⟩
/-- The box at its place, when a row behind it has grown. -/
theorem box_grown {w w4 : World} {B : Nat} {lv : Value} {k n : Int} {s : ByteArray} {u : Value} {o : Obj} (h : ∀ q, lv.ownBlock = some q → q < w.heap.size) (hg : ((w.alloc (box4 k n s u 27)).alloc o).grownBy w4 lv.ownBlock) :
    w4.cell? ⟨w.heap.size, 3, none⟩ = some u := by
  have h0 := hg.block w.heap.size (by simp; omega) (fun e => by have := h _ e.symm; omega)
  rw [World.cell?_of_block (w := (w.alloc (box4 k n s u 27)).alloc o) h0]
  simp
set_option maxHeartbeats 4000000 in
set_option maxRecDepth 100000 in
theorem addVars_var {W w : World} {n : Int} {s : ByteArray} {a lv : Option Addr} {lw : Value} {c : Nat} {l : List Int} (hb : Below W.heap.size W w) (hr : RowN w W.heap.size lw l) (hl : l.length ≤ 1000000) (hc : c ≤ maxLen) :
    Calls Tryz.prog 47 #[lw, .agg #[.int .i64 0, .int .i64 n, .string s, .slice a 0 c]] w fun e w' => ∃ r, e = .returned r ∧ RowN w' W.heap.size r (if l.contains n then l else l ++ [n]) ∧ Below W.heap.size W w' := by
  have hbb := bel1' w (box4 0 n s (.slice a 0 c) 27)
  have hnums := (show RowN (w.alloc (box4 0 n s (.slice a 0 c) 27)) W.heap.size lw l from row_ext hr hbb).nums
  have C := contains_at hnums n
  obtain ⟨i0, hi0, hz0, hs0, hb0⟩ := info_parts infoI64
  have hlt := hr.lt
  obtain ⟨m, hm⟩ : ∃ m, l.length = m := ⟨_, rfl⟩
  have HBW := Lib.hid hb
  have hWs : W.heap.size ≤ w.heap.size := hb.size
  have HROW := Lib.hid hr
  have HBB := Lib.hid hbb
  cases hcn : l.contains n
  · rw [hcn] at C
    have HR2 : Hid (w.ownsRow W.heap.size 2 1 lw m (l.flatMap numCells)) := Lib.hid (by have := hr; unfold RowN at this; rw [hm] at this; exact this)
    have HM := Lib.hid hm
    have HLT := Lib.hid hlt
    rw [hm] at hl
    obtain ⟨al, cl, rfl, h1⟩ := row_formk HR2.out
    clear hr hb hnums hm hlt hbb hcn
    go_enter Tryz.func47, Tryz.ntmps47
    (go_wp2_with fail; go_fit (C); rintro e w1 ⟨rfl, rfl⟩)
    go_wp2_with (at_builtin; refine wpList_append_k rfl _ _ 43 rfl W.heap.size 2 i0 (.int .i64 0) 1 8 Tryz.underlying43 hi0 hz0 hs0 (by decide) hb0 rfl (.slice al m cl) m (l.flatMap numCells) rfl ((HR2.out.alloc _).alloc _) _ 1 1 [.int .i64 n] rfl rfl (Or.inr ⟨⟨w.heap.size + 1, 0, none⟩, rfl, fun j u hu => by have := cell_one_new' (w := w) (box4 0 n s (.slice a 0 c) 27) (.int .i64 n) 2 j u hu; exact this⟩) (fun u hu => by simp at hu; subst hu; rfl) (by unfold maxLen; omega) (by omega) (by simp; omega) (m + 1) ((l ++ [n]).flatMap numCells) rfl (by rw [List.flatMap_append]; rfl) ?_; intro a4 c4 w4 hown4 hgrow4 hat4; have e3 := box_grown (B := 0) (fun q hq => (HLT.out q hq).2) hgrow4)
    have HFIN : Hid (RowN w4 W.heap.size (.slice a4 (m + 1) c4) (l ++ [n]) ∧ Below W.heap.size W w4) := Lib.hid ⟨by
      unfold RowN
      rw [List.length_append, HM.out]
      exact hown4, ((Ext.trans' HBW.out HBB.out).alloc (by simp; omega) _).grown hgrow4 (by simp; omega) (fun q hq => (HLT.out q hq).1)⟩
    clear hown4 hgrow4 hat4
    go_loop [0, 25] (fun z v => z = .slice a4 (m + 1) c4 ∧ v = .int .i64 0) (fun _ _ => 0)
    case atStart => exact ⟨rfl, rfl⟩
    case round =>
      obtain ⟨rfl, rfl⟩ := hrel
      go_wp2
      go_ret
      exact ⟨_, rfl, HFIN.out⟩
  · rw [hcn] at C
    clear hr hb hnums hm hlt hbb hcn
    go_enter Tryz.func47, Tryz.ntmps47
    (go_wp2_with fail; go_fit (C); rintro e w1 ⟨rfl, rfl⟩)
    go_wp2_with fail
    go_loop [0, 25] (fun z v => z = lw ∧ v = .int .i64 0) (fun _ _ => 0)
    case atStart => exact ⟨rfl, rfl⟩
    case round =>
      obtain ⟨rfl, rfl⟩ := hrel
      go_wp2
      go_ret
      exact ⟨_, rfl, row_ext HROW.out HBB.out, Ext.trans' HBW.out HBB.out⟩
set_option maxHeartbeats 4000000 in
set_option maxRecDepth 100000 in
theorem addVars_at : ∀ (N : Nat) (x : Tm), sizeN x ≤ N → formedT x = true → ∀ (W w : World) (v lv : Value) (l : List Int), TmV W x v → Below W.heap.size W w → RowN w W.heap.size lv l → l.length + sizeN x ≤ 1000000 →
    Calls Tryz.prog 47 #[lv, v] w fun e w' => ∃ r, e = .returned r ∧ RowN w' W.heap.size r (varsT x l) ∧ Below W.heap.size W w'
  | 0, x, h, hf, W, w, v, lv, l, hv, hb, hr, hl => by have := size_pos x; omega
  | N + 1, .mk k n s ts, h, hf, W, w, v, lv, l, hv, hb, hr, hl => by
    obtain ⟨u, rfl, hs, hki, hni, hu⟩ := tmV_iff.1 hv
    obtain ⟨a, c, rfl, h1, h2, h3⟩ := hu.len
    rw [formedT, Bool.and_eq_true] at hf
    by_cases hk : k = 0
    · have e : varsT (.mk k n s ts) l = if l.contains n then l else l ++ [n] := by rw [varsT, if_pos hk]
      rw [e]
      subst hk
      have hts : ts.length = 0 := by
        have := hf.1
        unfold plainT at this
        rw [if_pos rfl] at this
        simp at this
        simp [this.2]
      rw [hts]
      have := size_pos (.mk 0 n s ts)
      exact addVars_var (lv := none) hb hr (by omega) h2
    have e : varsT (.mk k n s ts) l = varsL ts l := by rw [varsT, if_neg hk]
    rw [e]
    have hk' : (k == 0) = false := beq_false_of_ne hk
    unfold BIG at h3
    obtain ⟨m, hm⟩ : ∃ m, ts.length = m := ⟨_, rfl⟩
    have IH := Lib.hid (fun (y : Tm) (hy : y ∈ ts) => addVars_at N y (mem_size h hy) (formed_mem hf.2 hy) W)
    have HL := Lib.hid (show l.length + sizesN ts ≤ 1000000 by rw [sizeN] at hl; omega)
    have HU := Lib.hid hu
    have HM := Lib.hid hm
    rw [hm] at h1 h3 hu HU ⊢
    have HBW := Lib.hid hb
    have HROW := Lib.hid hr
    obtain ⟨R, hR⟩ : ∃ R, varsL ts l = R := ⟨_, rfl⟩
    rw [hR]
    have HR := Lib.hid hR
    clear e hk hv hb hr hl hu hm hR h hf
    go_enter Tryz.func47, Tryz.ntmps47
    go_wp2_with fail
    go_loopw [0, 25] (fun z v wr => ∃ i : Nat, i ≤ m ∧ v = .int .i64 i ∧ Hid (RowN wr W.heap.size z (varsL (ts.take i) l)) ∧ Hid (Below W.heap.size W wr)) (fun _ v _ => m - (intOf v).toNat)
    case atStart => exact ⟨0, Nat.zero_le _, rfl, Lib.hid (by rw [List.take_zero, varsL]; exact row_ext HROW.out (bel1' _ _)), Lib.hid (Ext.trans' HBW.out (bel1' _ _))⟩
    case round =>
      obtain ⟨i, hi, rfl, HZ, HB⟩ := hrel
      by_cases hil : i < m
      · obtain ⟨y, hy⟩ : ∃ y, ts[i]? = some y := ⟨_, List.getElem?_eq_getElem (by rw [HM.out]; exact hil)⟩
        obtain ⟨b, off, k1, n1, s1, u1, rfl, hbb, _, _, _, c0, c1, c2, c3, htu, ht⟩ := HU.out.get hy
        obtain ⟨au, cu, rfl, _⟩ := htu.len
        clear htu
        have d0 := cell_later HB.out c0
        have d1 := cell_later HB.out c1
        have d2 := cell_later HB.out c2
        have d3 := cell_later HB.out c3
        have hz := sizes_drop' hy
        have hz2 := sizes_take' ts (i + 1)
        have hvl := (varss_len (ts.take i) l).1
        have hbx := bel1' wr (box4 k1 n1 s1 (.slice au y.args.length cu) 27)
        have ih := IH.out y (List.mem_of_getElem? hy) _ _ _ _ ht (HB.out.trans (hbx.mono HB.out.size)) (row_ext HZ.out hbx) (by have := HL.out; omega)
        have hst := varss_step hy l
        rw [← hst] at ih
        clear c0 c1 c2 c3 hz hz2 hvl hst ht hy hbx
        (go_wp2_with fail; go_fit (ih); rintro e w2 ⟨r2, rfl, hr2, b2⟩)
        have HZ2 := Lib.hid hr2
        have HB2 := Lib.hid b2
        clear hr2 b2 HZ HB d0 d1 d2 d3
        go_wp2
        go_roundw
        case rel => exact ⟨i + 1, by omega, by go_num, HZ2, HB2⟩
        case measure => simp [intOf]; omega
      · have hR2 : varsL (ts.take i) l = R := by rw [← HR.out, List.take_of_length_le (by rw [HM.out]; omega)]
        have HZ2 := HZ.out
        rw [hR2] at HZ2
        clear hR2 HZ HR
        go_wp2
        go_ret
        exact ⟨_, rfl, HZ2, HB.out⟩
set_option maxHeartbeats 2000000 in
theorem Vars_at (x : Tm) (w : World) (v : Value) (hv : TmV w x v) : Calls Tryz.prog 21 #[v] w fun e w' => ∃ r, e = .returned r ∧ Nums w' r (if goodT x then varsT x [] else []) ∧ Below w.heap.size w w' := by
  have G := fun w (h : TmV w x v) => Good_at x w v h
  have V := fun w1 (hb : Below w.heap.size w w1) (hs : goodT x = true) => addVars_at _ x (Nat.le_refl _) (good_parts hs).2.2 w w1 v (.slice none 0 0) [] hv hb (RowN.nil _ _) (by have := (good_parts hs).1; simp; omega)
  obtain ⟨k, n, s, u, rfl⟩ := hv.four
  have hv0 := TmV.ext (bel1' w (box4 k n s u 27)) _ _ hv
  clear hv
  cases hg : goodT x
  · rw [hg] at G
    clear V hg
    go_enter Tryz.func21, Tryz.ntmps21
    (go_wp2_with fail; go_fit (G _ hv0); rintro e w1 ⟨rfl, b1⟩)
    have B1 := Lib.hid (Ext.trans' (bel1' w _) b1)
    clear b1
    go_wp2
    go_ret
    exact ⟨_, rfl, Nums.nil _, B1.out⟩
  · rw [hg] at G
    have V' := fun w h => V w h hg
    rw [if_pos rfl]
    clear V hg
    go_enter Tryz.func21, Tryz.ntmps21
    (go_wp2_with fail; go_fit (G _ hv0); rintro e w1 ⟨rfl, b1⟩)
    obtain ⟨e0, e1, e2, e3⟩ := box_cells w 27 _ _ _ _ b1
    have B1 := Lib.hid (Ext.trans' (bel1' w _) b1)
    clear b1
    (go_wp2_with fail; go_fit (V' _ B1.out); rintro e w2 ⟨r, rfl, hr, b2⟩)
    have HN := Lib.hid hr.nums
    have B2 := Lib.hid b2
    clear hr b2
    go_wp2
    go_ret
    exact ⟨_, rfl, HN.out, B2.out⟩
end Go.Proofs.YtobdhcaoeholhaaGreatDoor
/- Operators: what Add does to a good table. Nothing here is walked. -/
namespace Go.Proofs.YtobdhcaoeholhaaGreatDoor
open Go.Shelf Go.RowKit

def key (x : O) : List UInt8 × Int := (bl x.n, sideB (bl x.k))
theorem isAt_iff (n : List UInt8) (s : Int) (y : O) : isAt n s y = true ↔ key y = (n, s) := by
  simp [isAt, key]
theorem isAt_no (n : List UInt8) (s : Int) (y : O) : isAt n s y = false ↔ key y ≠ (n, s) := by
  rw [← Bool.not_eq_true, isAt_iff]
theorem place_neg (xs : List O) (n : List UInt8) (s : Int) : placeB xs n s < 0 ↔ ∀ x ∈ xs, key x ≠ (n, s) := by
  rcases place_cases xs n s with ⟨h1, h2⟩ | ⟨k, x, h1, h2, h3, _⟩
  · rw [h1]
    refine ⟨fun _ x hx => ?_, fun _ => by decide⟩
    obtain ⟨j, hj, rfl⟩ := List.getElem_of_mem hx
    exact (isAt_no _ _ _).1 (h2 j _ (List.getElem?_eq_getElem hj))
  · rw [h1]
    refine ⟨fun h => by omega, fun h => absurd ((isAt_iff _ _ _).1 h3) (h x (List.mem_of_getElem? h2))⟩
def mayO (x : O) : Bool := mayB (bl x.n) (bl x.k) x.l
theorem good_iff (xs : List O) : goodB xs = true ↔ xs.length ≤ 128 ∧ (∀ x ∈ xs, mayO x = true) ∧ (xs.map key).Nodup := by
  have hall : ((List.range xs.length).all fun k => okB (xs.take k) xs[k]!) = true ↔ ∀ (k : Nat) (x : O), xs[k]? = some x → okB (xs.take k) x = true := by
    rw [List.all_eq_true]
    constructor
    · intro h k x hx
      have hk := (List.getElem?_eq_some_iff.1 hx).1
      have := h k (List.mem_range.2 hk)
      rwa [List.getElem!_eq_getElem?_getD, hx] at this
    · intro h k hk
      have hk := List.mem_range.1 hk
      exact h k _ (by rw [List.getElem!_eq_getElem?_getD, List.getElem?_eq_getElem hk]; rfl)
  unfold goodB
  rw [Bool.and_eq_true, hall]
  simp only [decide_eq_true_eq]
  refine and_congr_right fun _ => ?_
  have hok : ∀ (pre : List O) (x : O), okB pre x = true ↔ mayO x = true ∧ ∀ y ∈ pre, key y ≠ key x := fun pre x => by
    unfold okB
    rw [Bool.and_eq_true, decide_eq_true_eq, place_neg]
    rfl
  constructor
  · intro h
    refine ⟨fun x hx => ?_, ?_⟩
    · obtain ⟨j, hj, rfl⟩ := List.getElem_of_mem hx
      exact ((hok _ _).1 (h j _ (List.getElem?_eq_getElem hj))).1
    · rw [List.nodup_iff_pairwise_ne, List.pairwise_map, List.pairwise_iff_getElem]
      intro i j hi hj hij
      exact ((hok _ _).1 (h j _ (List.getElem?_eq_getElem hj))).2 _ (List.mem_take_iff_getElem.2 ⟨i, by omega, rfl⟩)
  · rintro ⟨h1, h2⟩ k x hx
    refine (hok _ _).2 ⟨h1 x (List.mem_of_getElem? hx), fun y hy => ?_⟩
    obtain ⟨i, hi, rfl⟩ := List.mem_take_iff_getElem.1 hy
    obtain ⟨hk, rfl⟩ := List.getElem?_eq_some_iff.1 hx
    rw [List.nodup_iff_pairwise_ne, List.pairwise_map, List.pairwise_iff_getElem] at h2
    exact h2 i k (by omega) hk (by omega)
theorem nodup_key {xs : List O} (h : (xs.map key).Nodup) {x y : O} (hx : x ∈ xs) (hy : y ∈ xs) (e : key x = key y) : x = y := by
  obtain ⟨i, hi, rfl⟩ := List.getElem_of_mem hx
  obtain ⟨j, hj, rfl⟩ := List.getElem_of_mem hy
  rw [List.nodup_iff_pairwise_ne, List.pairwise_map, List.pairwise_iff_getElem] at h
  rcases Nat.lt_trichotomy i j with hlt | rfl | hlt
  · exact absurd e (h i j hi hj hlt)
  · rfl
  · exact absurd e.symm (h j i hj hi hlt)
theorem one_mem {xs : List O} (hg : goodB xs = true) {x : O} (hx : x ∈ xs) {n : List UInt8} {s : Int} (e : key x = (n, s)) : oneB xs n s = (x, true) := by
  rcases place_cases xs n s with ⟨h1, h2⟩ | ⟨k, y, h1, h2, h3, _⟩
  · exfalso
    have := (place_neg xs n s).1 (by rw [h1]; decide) x hx
    exact this e
  · have hy := nodup_key ((good_iff xs).1 hg).2.2 (List.mem_of_getElem? h2) hx (by rw [e]; exact (isAt_iff _ _ _).1 h3)
    subst hy
    unfold oneB
    rw [h1, hg]
    have h4 : ¬ ((k : Int) < 0) := by omega
    simp only [h4, decide_false, Bool.not_true, Bool.or_self, Int.toNat_natCast]
    rw [List.getElem!_eq_getElem?_getD, h2]
    rfl
theorem one_none {xs : List O} {n : List UInt8} {s : Int} (h : ∀ x ∈ xs, key x ≠ (n, s)) : oneB xs n s = (default, false) := by
  unfold oneB
  rw [decide_eq_true ((place_neg xs n s).2 h)]
  rfl
end Go.Proofs.YtobdhcaoeholhaaGreatDoor
