import Derived.Test.YtljgkfdnmikpfaaGreatDoorHgfat
import Derived.Test.YtljgkfdnmikpfaaGreatDoorHgfan
import Derived.Test.YtljgkfdnmikpfaaGreatDoorHgfam
import Derived.Test.YtljgkfdnmikpfaaGreatDoorHgfap
set_option linter.unusedVariables false
set_option linter.unusedSimpArgs false
/- The document's own writer: lists. -/
namespace Go.Proofs.YtljgkfdnmikpfaaGreatDoor
open Go.Shelf Go.RowKit
set_option linter.unusedVariables false
set_option maxRecDepth 100000

theorem ratom_at (w : World) (s : ByteArray) : Calls Tryz.prog 143 #[.string s] w fun e w' => e = .returned (.agg #[.int .i64 2, .int .i64 0, .string s, .slice none 0 0]) ∧ Below w.heap.size w w' := by
  go_enter Tryz.func143, Tryz.ntmps143
  go_wp2
  refine bodyPost_ret (v := .agg #[.int .i64 2, .int .i64 0, .string s, .slice none 0 0]) (by rw [results_cell1 rfl]; go_simp) rfl ⟨rfl, ?_⟩
  exact bel1' _ _
/-- What at answers. -/
def ATW (xs : List O) (vs : List Int) (bs : Bool) (n : Int) (x : Tm) : List UInt8 :=
  if bs then besideW (preO xs) (betO xs) (BARE vs (preO xs) (betO xs)) x n else placeW (preO xs) (betO xs) (BARE vs (preO xs) (betO xs)) n x
theorem atw_len {xs : List O} {vs : List Int} {bs : Bool} {n : Int} {x : Tm} (hg : goodT x = true) : (ATW xs vs bs n x).length ≤ 600000 := by
  have h1 := bare_len (vs := vs) (pre := preO xs) (bet := betO xs) _ x (Nat.le_refl _)
  have h2 := (good_parts hg).1
  have h3 := fun m => place_len (pre := preO xs) (bet := betO xs) (m := m) h1
  unfold ATW
  cases bs
  · have := h3 n; rw [if_neg (by decide)]; omega
  · have := h3 (mostW (preO xs) (betO xs) x n); rw [if_pos rfl]; unfold besideW; omega
theorem inV_arg {vs : List Int} {t x : Tm} (h : inV vs t) (hx : x ∈ t.args) : inV vs x := by
  cases t with
  | mk k n s ts => rw [inV] at h; exact inVs_mem h.2 hx
theorem inV_items {vs : List Int} : ∀ (m : Nat) (t : Tm), sizeN t ≤ m → inV vs t → (∀ y ∈ (itemsT t).1, inV vs y) ∧ inV vs (itemsT t).2
  | 0, t, h, _ => by have := size_pos t; omega
  | m + 1, t, h, hv => by
    cases hp : pairT t with
    | none => rw [items_none hp]; exact ⟨fun x hx => (by cases hx), hv⟩
    | some q =>
      obtain ⟨a, b⟩ := q
      obtain ⟨h1, h2, h3, h4⟩ := pair_size hp
      have ha : inV vs a := inV_arg hv (by rw [h2]; simp)
      have hb : inV vs b := inV_arg hv (by rw [h2]; simp)
      have ih := inV_items m b (by omega) hb
      rw [items_some hp]
      refine ⟨fun x hx => ?_, ih.2⟩
      rcases List.mem_cons.1 hx with rfl | hx
      · exact ha
      · exact ih.1 x hx
/-- at, at all terms that are smaller. -/
def IHd (xs : List O) (vs : List Int) (wb : Nat) (vo vv : Value) (N : Nat) : Prop := ∀ (x : Tm), sizeN x < N → goodT x = true → inV vs x → ∀ (n : Int) (bs : Bool), 0 ≤ n → n ≤ 1200 → ∀ (w : World) (v : Value), TmV w x v → WdAt w wb vo vv xs vs →
  Calls Tryz.prog 63 #[.pointer (some ⟨wb, 0, none⟩), v, .int .i64 n, .bool bs] w fun e w' => e = .returned (.string (baS (ATW xs vs bs n x))) ∧ Below w.heap.size w w'
theorem row_le {W : Tm → List UInt8} {k : Nat} {l : List Tm} (h : ∀ x ∈ l, (W x).length ≤ k) : (rowW W l).length ≤ (k + 1) * l.length := lrow_len h
set_option maxHeartbeats 4000000 in
theorem rlist_at {xs : List O} {vs : List Int} {wb : Nat} {vo vv : Value} {N : Nat} (ih : IHd xs vs wb vo vv N) (hg : goodB xs = true) {w : World} (h : WdAt w wb vo vv xs vs) {x : Tm} {v : Value} (hv : TmV w x v) (hx : goodT x = true) (hN : sizeN x ≤ N) (hp : (pairT x).isSome = true) (hin : inV vs x) :
    Calls Tryz.prog 102 #[.pointer (some ⟨wb, 0, none⟩), v] w fun e w' => e = .returned (.string (baS (listW (preO xs) (betO xs) (BARE vs (preO xs) (betO xs)) x))) ∧ Below w.heap.size w w' := by
  obtain ⟨R, hR⟩ : ∃ R, baS (listW (preO xs) (betO xs) (BARE vs (preO xs) (betO xs)) x) = R := ⟨_, rfl⟩
  rw [hR]
  have HR := Lib.hid hR
  clear hR
  obtain ⟨hi1, hi2⟩ := items_good x hx
  obtain ⟨hs1, hs2⟩ := items_size _ x (Nat.le_refl _)
  obtain ⟨hv1, hv2⟩ := inV_items _ x (Nat.le_refl _) hin
  have hs2' : sizeN (itemsT x).2 < sizeN x := by
    rcases hs2 with h | ⟨h, _⟩
    · exact h
    · obtain ⟨q, hq⟩ := Option.isSome_iff_exists.1 hp
      rw [items_some (show pairT x = some (q.1, q.2) from hq)] at h
      cases h
  have HIT := Lib.hid (show ∀ y ∈ (itemsT x).1, goodT y = true ∧ sizeN y < N ∧ inV vs y from fun y hy => ⟨hi1 y hy, by have := hs1 y hy; omega, hv1 y hy⟩)
  have HTL := Lib.hid (show goodT (itemsT x).2 = true ∧ sizeN (itemsT x).2 < N ∧ inV vs (itemsT x).2 from ⟨hi2, by omega, hv2⟩)
  have hlenI : (itemsT x).1.length ≤ 2000 := by have := (good_parts hx).1; have := items_sum _ x (Nat.le_refl _); omega
  obtain ⟨k, n, s, a, m, c, rfl⟩ := hv.full
  obtain ⟨w1, hw1, hb1, hz1, hx1⟩ := box_new w #[.int .i64 k, .int .i64 n, .string s, .slice a m c] 66
  have HI := Lib.hid (ritems1_at x w1 _ (TmV.ext hb1 _ _ hv) hx)
  obtain ⟨b0, b1, b2, b3, bf⟩ := hx1.four
  have HB1 := Lib.hid hb1
  have HW := Lib.hid h
  have HIH := Lib.hid ih
  obtain ⟨L, hL⟩ : ∃ L, (itemsT x).1 = L := ⟨_, rfl⟩
  obtain ⟨T, hT⟩ : ∃ T, (itemsT x).2 = T := ⟨_, rfl⟩
  have HLR := Lib.hid (show R = baS (91 :: (rowW (ATW xs vs false 999) L ++ ((if sameT T (aT [91, 93]) then [] else 124 :: ATW xs vs false 999 T) ++ [93]))) from by rw [← HR.out, ← hL, ← hT]; rfl)
  rw [hL, hT] at HI
  rw [hL] at HIT hlenI
  rw [hT] at HTL
  clear h hv hb1 hx1 hz1 ih hi1 hi2 hs1 hs2 hs2' hL hT HR hp hx hN hv1 hv2 hin
  go_enter Tryz.func102, Tryz.ntmps102
  go_wp2_with fail
  (try rw [hw1])
  clear hw1
  (go_wp2_with fail; go_fit (HI.out); rintro e w2 ⟨lv, tv, rfl, hl, ht, hb2⟩)
  obtain ⟨al, cl, rfl, hl1, hl2, _⟩ := hl.len
  obtain ⟨kt, nt, st, at', mt, ct, rfl⟩ := ht.full
  obtain ⟨ml, hml⟩ : ∃ ml, L.length = ml := ⟨_, rfl⟩
  have HML := Lib.hid hml
  obtain ⟨w3, hw3, hb3, hz3, hx3⟩ := box_new w2 #[.int .i64 kt, .int .i64 nt, .string st, .slice at' mt ct] 66
  have HB3 := Lib.hid (Ext.trans' HB1.out (Ext.trans' hb2 hb3))
  have HLs := Lib.hid (hl.ext hb3)
  have HTs := Lib.hid (TmV.ext hb3 _ _ ht)
  have HX3 := Lib.hid hx3
  have HW3 := Lib.hid (HW.out.ext HB3.out)
  rw [hml] at hl1 hlenI HLs ⊢
  unfold maxLen at hl2
  clear hl ht hb2 hb3 hz3 hx3 hml HW HI b0 b1 b2 b3 bf
  go_wp2_with fail
  (try rw [hw3])
  clear hw3
  have HLEN := Lib.hid (show ∀ k, (rowW (ATW xs vs false 999) (L.take k)).length ≤ 600001 * 2000 from fun k => by
    have h1 := row_le (W := ATW xs vs false 999) (k := 600000) (l := L.take k) (fun y hy => atw_len (HIT.out y (List.mem_of_mem_take hy)).1)
    have h2 : (L.take k).length ≤ 2000 := by rw [List.length_take, HML.out]; omega
    have := Nat.mul_le_mul_left 600001 h2
    omega)
  go_loopw [7, 8] (fun o v wr => ∃ (k : Nat) (t : ByteArray), k ≤ ml ∧ v = .int .i64 k ∧ o = .string t ∧ Hid (bl t = 91 :: rowW (ATW xs vs false 999) (L.take k)) ∧ Hid (Below w3.heap.size w3 wr)) (fun _ v _ => ml - (intOf v).toNat)
  case atStart => exact ⟨0, ⟨#[91]⟩, Nat.zero_le _, rfl, rfl, Lib.hid rfl, Lib.hid (Below.refl _ _)⟩
  case round =>
    obtain ⟨k0, t, hk0, rfl, rfl, HT, HB⟩ := hrel
    have hts : t.size ≤ 1300000000 := by
      have h1 := HLEN.out k0
      have h2 : (bl t).length = t.size := bl_len t
      rw [HT.out, List.length_cons] at h2
      omega
    by_cases hlt : k0 < ml
    · obtain ⟨y, hy⟩ : ∃ y, L[k0]? = some y := ⟨_, List.getElem?_eq_getElem (by rw [HML.out]; exact hlt)⟩
      have hyi := HIT.out y (List.mem_of_getElem? hy)
      obtain ⟨b, off, k1, n1, s1, u1, rfl, hab, rfl, rfl, rfl, d0, d1, d2, d3, hu1, htv⟩ := (HLs.out.ext HB.out).get hy
      obtain ⟨au, cu, rfl, _⟩ := hu1.len
      have hC := HIH.out y hyi.2.1 hyi.1 hyi.2.2 999 false (by omega) (by omega) wr _ htv (HW3.out.ext HB.out)
      have hlen := atw_len (xs := xs) (vs := vs) (bs := false) (n := 999) hyi.1
      have hsn := row_snoc (ATW xs vs false 999) y (L.take k0)
      have htk : L.take (k0 + 1) = L.take k0 ++ [y] := by rw [List.take_add_one, hy]; rfl
      rw [← htk] at hsn
      obtain ⟨q, hq⟩ : ∃ q, baS (ATW xs vs false 999 y) = q := ⟨_, rfl⟩
      rw [hq] at hC
      have hqz : q.size ≤ 600000 := by rw [← hq, size_bl, bl_baS]; exact hlen
      have hq' : ATW xs vs false 999 y = bl q := by rw [← hq, bl_baS]
      rw [hq'] at hsn
      have hss1 : ¬ 9223372036854775807 < t.size + 1 := by omega
      have hss2 : ¬ 9223372036854775807 < t.size + q.size := by omega
      have hss3 : ¬ 9223372036854775807 < t.size + 1 + q.size := by omega
      have hklt : (k0 : Int) < (ml : Int) := by omega
      by_cases hz : k0 = 0
      · have HT2 := Lib.hid (show bl (t ++ q) = 91 :: rowW (ATW xs vs false 999) (L.take (k0 + 1)) from by rw [bl_cat, HT.out, hsn, hz]; rfl)
        have hk0n : ¬ (0 : Int) < (k0 : Int) := by omega
        clear hq hq' hsn htk hlen hyi hy htv hu1 hz
        (go_wp2_with fail; go_fit (hC); rintro e w4 ⟨rfl, hb4⟩)
        have HB4 := Lib.hid (Ext.trans' HB.out hb4)
        clear hb4 hC d0 d1 d2 d3
        go_wp2
        go_roundw
        case rel => exact ⟨k0 + 1, t ++ q, by omega, by go_num, rfl, HT2, HB4⟩
        case measure => simp [intOf]; omega
      · have hne : ¬ L.take k0 = [] := fun e => by
          have := congrArg List.length e
          rw [List.length_take, HML.out, List.length_nil] at this
          omega
        rw [if_neg hne] at hsn
        have HT2 := Lib.hid (show bl ((t ++ ⟨#[44]⟩) ++ q) = 91 :: rowW (ATW xs vs false 999) (L.take (k0 + 1)) from by rw [bl_cat, bl_cat, HT.out, hsn]; rfl)
        have hk0p : (0 : Int) < (k0 : Int) := by omega
        have hz44 : (t ++ (⟨#[44]⟩ : ByteArray)).size = t.size + 1 := by rw [ByteArray.size_append]; rfl
        have hss4 : ¬ 9223372036854775807 < (t ++ (⟨#[44]⟩ : ByteArray)).size + q.size := by rw [hz44]; omega
        clear hq hq' hsn htk hlen hyi hy htv hu1 hne hz44
        (go_wp2_with fail; go_fit (hC); rintro e w4 ⟨rfl, hb4⟩)
        have HB4 := Lib.hid (Ext.trans' HB.out hb4)
        clear hb4 hC d0 d1 d2 d3
        go_wp2
        go_roundw
        case rel => exact ⟨k0 + 1, (t ++ ⟨#[44]⟩) ++ q, by omega, by go_num, rfl, HT2, HB4⟩
        case measure => simp [intOf]; omega
    · obtain rfl : k0 = ml := by omega
      have htk : L.take k0 = L := List.take_of_length_le (by rw [HML.out]; exact Nat.le_refl _)
      have hT := HT.out
      rw [htk] at hT
      have HT2 := Lib.hid hT
      have HXr := Lib.hid (HX3.out.ext HB.out)
      have HTr := Lib.hid (TmV.ext HB.out _ _ HTs.out)
      have HWr := Lib.hid (HW3.out.ext HB.out)
      have HBr := Lib.hid (Ext.trans' HB3.out HB.out)
      clear hT htk HT HX3 HTs HW3 HLs HB HLEN
      obtain ⟨c0, c1, c2, c3, cf⟩ := HXr.out.four
      go_upto_region 9 with fail
      refine wp_region_held_drew (S := fun w' => (w'.cell? ⟨w2.heap.size, 0, none⟩ = some (.int .i64 kt) ∧ w'.cell? ⟨w2.heap.size, 1, none⟩ = some (.int .i64 nt) ∧ w'.cell? ⟨w2.heap.size, 2, none⟩ = some (.string st) ∧ w'.cell? ⟨w2.heap.size, 3, none⟩ = some (.slice at' mt ct)) ∧ Below wr.heap.size wr w') (by kernel_rfl) ⟨⟨c0, c1, c2, c3⟩, (Below.refl _ _).drew⟩ (fun hHeld => ?_)
      first | (refine held_t (i := 0) hHeld ?_; apply Exists.intro; refine ⟨fun wq hq => ?_, ?_⟩; (focus ((try dsimp only at hq); go_simp; (first | done | with_reducible rfl | fail)))) | refine held_s (i := 0) hHeld ?_ | fail
      try simp only [Act.put, List.setIfInBounds_toArray, List.set_cons_zero, List.set_cons_succ]
      refine held_c 1 fun K hK => ?_
      go_simp
      (go_at_call 143; refine (ratom_at _ ⟨#[91, 93]⟩).mono ?_; rintro e wA ⟨rfl, hbA⟩)
      refine hK.out _ _ (⟨⟨cell_later hbA hHeld.1.1, cell_later hbA hHeld.1.2.1, cell_later hbA hHeld.1.2.2.1, cell_later hbA hHeld.1.2.2.2⟩, Ext.trans' hHeld.2 hbA⟩) (fun hHeld => ?_)
      clear hK K
      try simp only [Act.put, List.setIfInBounds_toArray, List.set_cons_zero, List.set_cons_succ]
      refine held_c 2 fun K hK => ?_
      go_simp
      (go_at_call 50; refine (rsame_at _ T (Nat.le_refl _) (aT [91, 93]) _ _ _ (TmV.ext hHeld.2 _ _ HTr.out) (leaf_tm _ i64_2 i64_0 (by decide))).mono ?_; rintro e wS ⟨rfl, hbS⟩)
      refine hK.out _ _ (⟨⟨cell_later hbS hHeld.1.1, cell_later hbS hHeld.1.2.1, cell_later hbS hHeld.1.2.2.1, cell_later hbS hHeld.1.2.2.2⟩, Ext.trans' hHeld.2 hbS⟩) (fun hHeld => ?_)
      clear hK K
      try simp only [Act.put, List.setIfInBounds_toArray, List.set_cons_zero, List.set_cons_succ]
      first | (refine held_t (i := 3) hHeld ?_; apply Exists.intro; refine ⟨fun wq hq => ?_, ?_⟩; (focus ((try dsimp only at hq); go_simp; (first | done | with_reducible rfl | fail)))) | refine held_s (i := 3) hHeld ?_ | fail
      try simp only [Act.put, List.setIfInBounds_toArray, List.set_cons_zero, List.set_cons_succ]
      refine wpAnyH_done (by kernel_rfl) ?_ _
      obtain ⟨⟨c0, c1, c2, c3⟩, hBS⟩ := hHeld
      have HBS := Lib.hid (Ext.trans' HBr.out hBS)
      have hlr := HLR.out
      cases hsm : sameT T (aT [91, 93])
      · rw [hsm, if_neg (by decide)] at hlr
        have hC := HIH.out T HTL.out.2.1 HTL.out.1 HTL.out.2.2 999 false (by omega) (by omega) wS _ (TmV.ext hBS _ _ HTr.out) (HWr.out.ext hBS)
        have hlen := atw_len (xs := xs) (vs := vs) (bs := false) (n := 999) HTL.out.1
        obtain ⟨q, hq⟩ : ∃ q, baS (ATW xs vs false 999 T) = q := ⟨_, rfl⟩
        rw [hq] at hC
        have hqz : q.size ≤ 600000 := by rw [← hq, size_bl, bl_baS]; exact hlen
        have hq' : ATW xs vs false 999 T = bl q := by rw [← hq, bl_baS]
        have HRR := Lib.hid (show ((t ++ ⟨#[124]⟩) ++ q) ++ ⟨#[93]⟩ = R from bl_eq (by rw [hlr, bl_cat, bl_cat, bl_cat, HT2.out, bl_baS, hq']; simp))
        have hz1 : (t ++ (⟨#[124]⟩ : ByteArray)).size = t.size + 1 := by rw [ByteArray.size_append]; rfl
        have hz2 : (t ++ (⟨#[124]⟩ : ByteArray) ++ q).size = t.size + 1 + q.size := by rw [ByteArray.size_append, hz1]
        have hss1 : ¬ 9223372036854775807 < t.size + 1 := by omega
        have hss2 : ¬ 9223372036854775807 < (t ++ (⟨#[124]⟩ : ByteArray)).size + q.size := by rw [hz1]; omega
        have hss3 : ¬ 9223372036854775807 < (t ++ (⟨#[124]⟩ : ByteArray) ++ q).size + 1 := by rw [hz2]; omega
        have hss4 : ¬ 9223372036854775807 < t.size + 1 + q.size := by omega
        have hss5 : ¬ 9223372036854775807 < t.size + 1 + q.size + 1 := by omega
        clear hq hq' hlr hlen hsm hz1 hz2 hBS
        (go_wp2_with fail; go_fit (hC); rintro e w4 ⟨rfl, hb4⟩)
        have HB4 := Lib.hid (Ext.trans' HBS.out hb4)
        clear hb4 hC c0 c1 c2 c3
        go_wp2
        go_ret
        exact ⟨ret_str HRR.out, HB4.out⟩
      · rw [hsm, if_pos rfl] at hlr
        have HRR := Lib.hid (show t ++ ⟨#[93]⟩ = R from bl_eq (by rw [hlr, bl_cat, HT2.out, bl_baS]; simp))
        have hss1 : ¬ 9223372036854775807 < t.size + 1 := by omega
        clear hlr hsm hBS
        go_wp2
        go_ret
        exact ⟨ret_str HRR.out, HBS.out⟩
end Go.Proofs.YtljgkfdnmikpfaaGreatDoor
/- The document's own writer: what stands left of an operator. Pure. -/
namespace Go.Proofs.YtljgkfdnmikpfaaGreatDoor
open Go.Shelf Go.RowKit
set_option linter.unusedVariables false
set_option maxRecDepth 100000

def yfxB (xs : List O) (x : Tm) : Bool := x.args.length == 2 && bl (betO xs (bl x.s)).1.k == yfxL
theorem op_l {xs : List O} (x : Tm) : 0 ≤ (opW (preO xs) (betO xs) x).1.l ∧ (opW (preO xs) (betO xs) x).1.l ≤ 1200 := by
  have hT := tab_of xs
  have hp : ∀ n, 0 ≤ (preO xs n).1.l ∧ (preO xs n).1.l ≤ 1200 := fun n => by
    cases h : (preO xs n).2 with
    | true => have := hT.pre1 n h; omega
    | false => rw [hT.pre0 n h]; decide
  have hb : ∀ n, 0 ≤ (betO xs n).1.l ∧ (betO xs n).1.l ≤ 1200 := fun n => by
    cases h : (betO xs n).2 with
    | true => have := hT.bet1 n h; omega
    | false => rw [hT.bet0 n h]; decide
  cases x with
  | mk k n s ts =>
  cases ts with
  | nil => rw [op_none]; decide
  | cons a r =>
  cases r with
  | nil =>
    rw [opW_one]
    split
    · exact hp _
    · decide
  | cons b r =>
  cases r with
  | nil =>
    rw [opW_two]
    split
    · decide
    · exact hb _
  | cons c r => rw [op_three]; decide
theorem op_yfx {xs : List O} {x : Tm} (h : (bl (opW (preO xs) (betO xs) x).1.k == yfxL) = true) : yfxB xs x = true := by
  have hT := tab_of xs
  cases x with
  | mk k n s ts =>
  cases ts with
  | nil => rw [op_none] at h; exact absurd h (by decide)
  | cons a r =>
  cases r with
  | nil =>
    rw [opW_one] at h
    split at h
    · rename_i hc
      rw [Bool.and_eq_true] at hc
      have h1 := (hT.pre1 _ hc.1).2.1
      rw [eq_of_beq h] at h1
      exact absurd h1 (by decide)
    · exact absurd h (by decide)
  | cons b r =>
  cases r with
  | nil =>
    rw [opW_two] at h
    split at h
    · exact absurd h (by decide)
    · exact h
  | cons c r => rw [op_three] at h; exact absurd h (by decide)
theorem yfx_op {xs : List O} {x : Tm} (h : yfxB xs x = true) (hl : (opW (preO xs) (betO xs) x).1.l ≠ 0) : (bl (opW (preO xs) (betO xs) x).1.k == yfxL) = true := by
  unfold yfxB at h
  rw [Bool.and_eq_true] at h
  cases x with
  | mk k n s ts =>
  have h2 : ts.length = 2 := eq_of_beq h.1
  cases ts with
  | nil => cases h2
  | cons a r =>
  cases r with
  | nil => cases h2
  | cons b r =>
  cases r with
  | nil =>
    rw [opW_two] at hl ⊢
    split
    · rename_i hc; rw [if_pos hc] at hl; exact absurd rfl hl
    · exact h.2
  | cons c r => simp at h2
/-- Its level, if it has args. -/
theorem lev_args {xs : List O} {x : Tm} (h : x.args.isEmpty = false) : levW (preO xs) (betO xs) x = (opW (preO xs) (betO xs) x).1.l := by
  unfold levW
  rw [h, Bool.and_false, if_neg (by decide)]
theorem lev_nonneg {xs : List O} (x : Tm) : 0 ≤ levW (preO xs) (betO xs) x := by
  have hT := tab_of xs
  have h1 := (op_l (xs := xs) x).1
  unfold levW
  split
  · have hp : 0 ≤ (preO xs (bl x.s)).1.l := by
      cases h : (preO xs (bl x.s)).2 with
      | true => have := hT.pre1 _ h; omega
      | false => rw [hT.pre0 _ h]; decide
    omega
  · exact h1
theorem op_empty {xs : List O} {x : Tm} (h : x.args.isEmpty = true) : (opW (preO xs) (betO xs) x).1.l = 0 := by
  cases x with
  | mk k n s ts =>
  cases ts with
  | nil => rfl
  | cons a r => cases h
theorem place_low {pre bet : List UInt8 → O × Bool} {B : Tm → List UInt8} {m : Int} {x : Tm} (h : levW pre bet x ≤ m) : placeW pre bet B m x = B x := by unfold placeW; rw [if_pos h]
theorem place_high {pre bet : List UInt8 → O × Bool} {B : Tm → List UInt8} {m : Int} {x : Tm} (h : ¬ levW pre bet x ≤ m) : placeW pre bet B m x = 40 :: (B x ++ [41]) := by unfold placeW; rw [if_neg h]
theorem formed_int {a : Tm} (hf : formedT a = true) (he : a.args.isEmpty = false) : (a.k == 1) = false := by
  cases a with
  | mk k n s ts =>
  cases ts with
  | nil => cases he
  | cons b r =>
    have := formed_kind hf
    subst this
    rfl
theorem left_eq {xs : List O} {B : Tm → List UInt8} {o : O} {a : Tm} (hf : formedT a = true) (hk : sideB (bl o.k) = 2) (h1 : 1 ≤ o.l) (h2 : o.l ≤ 1200) :
    besideW (preO xs) (betO xs) B a (leftW (preO xs) (betO xs) o a) = if (bl o.k == yfxL && (decide ((opW (preO xs) (betO xs) a).1.l = o.l) && !(yfxB xs a))) = true then 40 :: (besideW (preO xs) (betO xs) B a (sidesB (bl o.k) o.l).1 ++ [41]) else besideW (preO xs) (betO xs) B a (sidesB (bl o.k) o.l).1 := by
  unfold leftW
  cases hy : (bl o.k == yfxL) with
  | false => simp only [Bool.false_and, Bool.false_eq_true, ↓reduceIte]
  | true =>
  have hs : (sidesB (bl o.k) o.l).1 = o.l := by rw [eq_of_beq hy]; rfl
  rw [hs, Bool.true_and, Bool.true_and, w64 (by omega) h2]
  have hn := lev_nonneg (xs := xs) a
  unfold besideW
  obtain ⟨P, hP⟩ : ∃ P, (!(bl (opW (preO xs) (betO xs) a).1.k == yfxL)) = P := ⟨_, rfl⟩
  rw [hP]
  by_cases he : a.args.isEmpty = true
  · have hC : (decide ((opW (preO xs) (betO xs) a).1.l = o.l) && !(yfxB xs a)) = false := by rw [op_empty he, decide_eq_false (show ¬ (0 : Int) = o.l by omega), Bool.false_and]
    rw [hC]
    simp only [Bool.false_eq_true, ↓reduceIte]
    by_cases hc : (a.args.isEmpty && decide (0 < levW (preO xs) (betO xs) a) || (a.k == 1 && decide (a.n < 0))) = true
    · have hm : ∀ m, mostW (preO xs) (betO xs) a m = -1 := fun m => by unfold mostW; rw [if_pos hc]
      rw [hm, hm]
    · have hm : ∀ m, mostW (preO xs) (betO xs) a m = m := fun m => by unfold mostW; rw [if_neg hc]
      have hl0 : levW (preO xs) (betO xs) a = 0 := by
        have : ¬ 0 < levW (preO xs) (betO xs) a := fun h => hc (by rw [he, decide_eq_true h]; rfl)
        omega
      rw [hm, hm, place_low (m := o.l) (by omega)]
      cases P
      · simp only [Bool.false_eq_true, ↓reduceIte]; rw [place_low (by omega)]
      · simp only [↓reduceIte]; rw [place_low (by omega)]
  · have he' : a.args.isEmpty = false := by simpa using he
    have hc : ¬ (a.args.isEmpty && decide (0 < levW (preO xs) (betO xs) a) || (a.k == 1 && decide (a.n < 0))) = true := by
      rw [he', formed_int hf he']; simp
    have hm : ∀ m, mostW (preO xs) (betO xs) a m = m := fun m => by unfold mostW; rw [if_neg hc]
    rw [hm, hm]
    have hlv := lev_args (xs := xs) he'
    by_cases hl : (opW (preO xs) (betO xs) a).1.l = o.l
    · rw [decide_eq_true hl, Bool.true_and]
      cases hya : yfxB xs a with
      | true =>
        have := yfx_op hya (by omega)
        rw [this] at hP
        subst hP
        rfl
      | false =>
        have : (bl (opW (preO xs) (betO xs) a).1.k == yfxL) = false := by
          cases h : (bl (opW (preO xs) (betO xs) a).1.k == yfxL) with
          | false => rfl
          | true => rw [op_yfx h] at hya; cases hya
        rw [this] at hP
        subst hP
        simp only [Bool.not_false, ↓reduceIte]
        rw [place_high (m := o.l - 1) (by omega), place_low (m := o.l) (by omega)]
    · rw [decide_eq_false hl, Bool.false_and]
      simp only [Bool.false_eq_true, ↓reduceIte]
      have hiff : (levW (preO xs) (betO xs) a ≤ o.l - 1) ↔ levW (preO xs) (betO xs) a ≤ o.l := by omega
      cases P
      · rfl
      · simp only [↓reduceIte]
        by_cases hle : levW (preO xs) (betO xs) a ≤ o.l
        · rw [place_low hle, place_low (hiff.2 hle)]
        · rw [place_high hle, place_high (fun h => hle (hiff.1 h))]
end Go.Proofs.YtljgkfdnmikpfaaGreatDoor
