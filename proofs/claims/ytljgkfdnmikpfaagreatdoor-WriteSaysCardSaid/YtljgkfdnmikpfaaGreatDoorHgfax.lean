import Derived.Test.YtljgkfdnmikpfaaGreatDoorHgfaw
import Derived.Test.YtljgkfdnmikpfaaGreatDoorHgfac
import Derived.Test.YtljgkfdnmikpfaaGreatDoorHgfad
import Derived.Test.YtljgkfdnmikpfaaGreatDoorHgfao
import Derived.Test.YtljgkfdnmikpfaaGreatDoorHgfab
import Derived.Laws.StructEq
import Derived.Test.YtljgkfdnmikpfaaGreatDoorHgfak
import Derived.Test.YtljgkfdnmikpfaaGreatDoorHgfap
import Derived.Test.YtljgkfdnmikpfaaGreatDoorHgfag
import Derived.Test.YtljgkfdnmikpfaaGreatDoorHgfah
set_option linter.unusedVariables false
set_option linter.unusedSimpArgs false
/- The document's own writer: at, where there are args: walked: called. -/
namespace Go.Proofs.YtljgkfdnmikpfaaGreatDoor
open Go.Shelf Go.RowKit
set_option linter.unusedVariables false
set_option maxRecDepth 100000

theorem szs_len : ∀ ts : List Tm, ts.length ≤ sizesN ts
  | [] => Nat.zero_le _
  | x :: r => by
    have := szs_len r
    have := size_pos x
    rw [sizesN, List.length_cons]
    omega
set_option maxHeartbeats 8000000 in
theorem rat_call {xs : List O} {vs : List Int} {wb : Nat} {vo vv : Value} {N : Nat} (ih : IHd xs vs wb vo vv N) (hg : goodB xs = true) {w : World} (h : WdAt w wb vo vv xs vs) {n : Int} {s : ByteArray} {ts : List Tm} {v : Value} (hv : TmV w (.mk 2 n s ts) v) (hx : goodT (.mk 2 n s ts) = true) (hN : sizeN (.mk 2 n s ts) ≤ N) (hin : inV vs (.mk 2 n s ts)) (hne : ts ≠ []) (h46 : ¬ (bl s = [46] ∧ ts.length = 2)) (h12 : ¬ (bl s = [123, 125] ∧ ts.length = 1)) (ho : (opW (preO xs) (betO xs) (.mk 2 n s ts)).2 = false) (q : Int) (bs : Bool) (hq : 0 ≤ q) :
    Calls Tryz.prog 63 #[.pointer (some ⟨wb, 0, none⟩), v, .int .i64 q, .bool bs] w fun e w' => e = .returned (.string (baS (ATW xs vs bs q (.mk 2 n s ts)))) ∧ Below w.heap.size w w' := by
  have hf := (good_parts hx).2.2
  have hl : (opW (preO xs) (betO xs) (.mk 2 n s ts)).1.l = 0 := by
    have hT := tab_of xs
    cases ts with
    | nil => exact absurd rfl hne
    | cons a r =>
    cases r with
    | nil =>
      rw [opW_one] at ho ⊢
      split at ho
      · rename_i hc; rw [Bool.and_eq_true] at hc; rw [hc.1] at ho; cases ho
      · rename_i hc; rw [if_neg hc]; rfl
    | cons b r =>
    cases r with
    | nil =>
      rw [opW_two] at ho ⊢
      split at ho
      · rename_i hc; rw [if_pos hc]; rfl
      · rename_i hc; rw [if_neg hc, hT.bet0 _ ho]; rfl
    | cons d r => rw [op_three]; rfl
  rw [atw_args hf (by cases ts with | nil => exact absurd rfl hne | cons a r => rfl), hl, if_pos hq, bare_no hf ho h46 h12 hne]
  obtain ⟨R, hR⟩ : ∃ R, baS (quoteB (bl s) ++ (40 :: (rowW (ATW xs vs false 999) ts ++ [41]))) = R := ⟨_, rfl⟩
  rw [hR]
  obtain ⟨m, hm⟩ : ∃ m, ts.length = m := ⟨_, rfl⟩
  have hm1 : 1 ≤ m := by rw [← hm]; exact List.length_pos_iff.2 hne
  have hm2000 : m ≤ 2000 := by
    have h1 := (good_parts hx).1
    have h2 := szs_len ts
    rw [sizeN] at h1
    omega
  obtain ⟨u, rfl, hsz, _, _, hu⟩ := tmV_iff.1 hv
  obtain ⟨aa, c, rfl, hl1, hl2, _⟩ := hu.len
  obtain ⟨w1, hw1, hb1, hz1, hx1⟩ := box_new w #[.int .i64 2, .int .i64 n, .string s, .slice aa ts.length c] 66
  have HW1 := Lib.hid (h.ext hb1)
  have HV1 := Lib.hid (TmV.ext hb1 _ _ hv)
  have HU := Lib.hid (hu.ext hb1)
  have HB1 := Lib.hid hb1
  obtain ⟨b0, b1, b2, b3, bf⟩ := hx1.four
  have HOP := Lib.hid (rop_at ih hg HW1.out HV1.out hx hN hin hne h46)
  rw [ho, if_neg (by decide), hl] at HOP
  have HAR := Lib.hid (show ∀ y ∈ ts, goodT y = true ∧ sizeN y < N ∧ inV vs y from fun y hy => ⟨good_arg hx hy, Nat.lt_of_lt_of_le (arg_size (x := .mk 2 n s ts) hy) hN, inV_arg hin hy⟩)
  have HIH := Lib.hid ih
  have hqs : (quoteB (bl s)).length ≤ 130 := head_len [] (.mk 2 0 s [])
  obtain ⟨Q, hQ⟩ : ∃ Q, baS (quoteB (bl s)) = Q := ⟨_, rfl⟩
  have hQs : Q.size ≤ 130 := by rw [← hQ, size_bl, bl_baS]; exact hqs
  have HQU : Hid (∀ wq, Calls Tryz.prog 101 #[.string s] wq fun e w' => e = .returned (.string Q) ∧ Below wq.heap.size wq w') := Lib.hid (fun wq => by rw [← hQ]; exact rquote_any s wq hsz)
  have HR := Lib.hid (show R = baS (bl Q ++ (40 :: (rowW (ATW xs vs false 999) ts ++ [41]))) from by rw [← hR, ← hQ, bl_baS])
  have HML := Lib.hid hm
  rw [hm] at b3 hw1 h46 h12 HOP ⊢
  unfold maxLen at hl2
  have HLEN := Lib.hid (show ∀ k, (argP (ATW xs vs false 999) ts k).length ≤ 600001 * 2000 + 1 from fun k => by
    unfold argP
    split
    · simp
    · have h1 := row_le (W := ATW xs vs false 999) (k := 600000) (l := ts.take k) (fun y hy => atw_len (HAR.out y (List.mem_of_mem_take hy)).1)
      have h2 : (ts.take k).length ≤ 2000 := by rw [List.length_take, HML.out]; omega
      have := Nat.mul_le_mul_left 600001 h2
      rw [List.length_cons]
      omega)
  have hm0 : ((m : Int) == 0) = false := beq_false_of_ne (by omega)
  have htest : ((s.toList == [46]) = false ∧ (s.toList == [123, 125]) = false) ∨ ((s.toList == [46]) = true ∧ ((m : Int) == 2) = false ∧ (s.toList == [123, 125]) = false) ∨ ((s.toList == [46]) = false ∧ (s.toList == [123, 125]) = true ∧ ((m : Int) == 1) = false) := by
    rw [name_test, name_test]
    by_cases h1 : bl s = [46]
    · refine Or.inr (Or.inl ⟨by rw [h1]; rfl, beq_false_of_ne (fun e => h46 ⟨h1, by omega⟩), by rw [h1]; rfl⟩)
    · by_cases h2 : bl s = [123, 125]
      · exact Or.inr (Or.inr ⟨beq_false_of_ne h1, by rw [h2]; rfl, beq_false_of_ne (fun e => h12 ⟨h2, by omega⟩)⟩)
      · exact Or.inl ⟨beq_false_of_ne h1, beq_false_of_ne h2⟩
  clear h hv hu hb1 hx1 hz1 hl1 hQ hf ih hx hN hin hg HV1 hsz hqs hl hm ho hne h46 h12 hR
  rcases htest with ⟨t1, t2⟩ | ⟨t1, t2, t3⟩ | ⟨t1, t2, t3⟩
  all_goals
    go_enter Tryz.func63, Tryz.ntmps63
    go_wp2_with fail
    (try rw [show w.alloc (.cells #[.int .i64 2, .int .i64 n, .string s, .slice aa m c] 66) = w1 from hw1])
    (try clear hw1)
    (go_wp2_with fail; go_fit (HOP.out); rintro e w2 ⟨rfl, hb2⟩)
    have b2 := cell_later hb2 b2
    have b3 := cell_later hb2 b3
    (go_wp2_with fail; go_fit (HQU.out _); rintro e w3 ⟨rfl, hb3⟩)
    have b3 := cell_later hb3 b3
    have HB3 := Lib.hid (Ext.trans' HB1.out (Ext.trans' hb2 hb3))
    have HU3 := Lib.hid ((HU.out.ext hb2).ext hb3)
    have HW3 := Lib.hid ((HW1.out.ext hb2).ext hb3)
    clear hb2 hb3 HOP HQU
    have HS3 := Lib.hid b3
    go_wp2_with fail
    rw [HML.out] at HU3
    go_loopw [10, 12] (fun o v wr => ∃ (k : Nat) (t : ByteArray), k ≤ m ∧ v = .int .i64 k ∧ o = .string t ∧ Hid (bl t = bl Q ++ argP (ATW xs vs false 999) ts k) ∧ Hid (Below w3.heap.size w3 wr)) (fun _ v _ => m - (intOf v).toNat)
    case atStart => exact ⟨0, Q, Nat.zero_le _, rfl, rfl, Lib.hid (by unfold argP; simp), Lib.hid (Below.refl _ _)⟩
    case round =>
      obtain ⟨k0, t, hk0, rfl, rfl, HT, HB⟩ := hrel
      have hts : t.size ≤ 1300000000 := by
        have h1 := HLEN.out k0
        have h2 : (bl t).length = t.size := bl_len t
        have h3 : (bl Q).length = Q.size := bl_len Q
        rw [HT.out, List.length_append] at h2
        omega
      have b3 := cell_later HB.out HS3.out
      by_cases hlt : k0 < m
      · obtain ⟨y, hy⟩ : ∃ y, ts[k0]? = some y := ⟨_, List.getElem?_eq_getElem (by rw [HML.out]; exact hlt)⟩
        have hyi := HAR.out y (List.mem_of_getElem? hy)
        obtain ⟨b, off, k1, n1, s1, u1, rfl, hab, rfl, rfl, rfl, d0, d1, d2, d3, hu1, htv⟩ := (HU3.out.ext HB.out).get hy
        obtain ⟨au, cu, rfl, _⟩ := hu1.len
        have hC := HIH.out y hyi.2.1 hyi.1 hyi.2.2 999 false (by omega) (by omega) wr _ htv (HW3.out.ext HB.out)
        have hlen := atw_len (xs := xs) (vs := vs) (bs := false) (n := 999) hyi.1
        have hnx := argP_next (W := ATW xs vs false 999) hy
        obtain ⟨p, hp⟩ : ∃ p, baS (ATW xs vs false 999 y) = p := ⟨_, rfl⟩
        rw [hp] at hC
        have hpz : p.size ≤ 600000 := by rw [← hp, size_bl, bl_baS]; exact hlen
        have hp' : ATW xs vs false 999 y = bl p := by rw [← hp, bl_baS]
        rw [hp'] at hnx
        have hklt : (k0 : Int) < (m : Int) := by omega
        have hz40 : (t ++ (⟨#[40]⟩ : ByteArray)).size = t.size + 1 := by rw [ByteArray.size_append]; rfl
        have hz44 : (t ++ (⟨#[44]⟩ : ByteArray)).size = t.size + 1 := by rw [ByteArray.size_append]; rfl
        have hss1 : ¬ 9223372036854775807 < t.size + 1 := by omega
        have hss2 : ¬ 9223372036854775807 < (t ++ (⟨#[40]⟩ : ByteArray)).size + p.size := by rw [hz40]; omega
        have hss3 : ¬ 9223372036854775807 < (t ++ (⟨#[44]⟩ : ByteArray)).size + p.size := by rw [hz44]; omega
        have hss4 : ¬ 9223372036854775807 < t.size + 1 + p.size := by omega
        by_cases hz : k0 = 0
        · have HT2 := Lib.hid (show bl ((t ++ ⟨#[40]⟩) ++ p) = bl Q ++ argP (ATW xs vs false 999) ts (k0 + 1) from by rw [bl_cat, bl_cat, HT.out, hnx, if_pos hz]; simp; rfl)
          have hk00 : ((k0 : Int) == 0) = true := beq_iff_eq.2 (by omega)
          clear hp hp' hnx hlen hyi hy htv hu1 hz hz40 hz44
          (go_wp2_with fail; go_fit (hC); rintro e w4 ⟨rfl, hb4⟩)
          have HB4 := Lib.hid (Ext.trans' HB.out hb4)
          clear hb4 hC d0 d1 d2 d3
          go_wp2
          go_roundw
          case rel => exact ⟨k0 + 1, (t ++ ⟨#[40]⟩) ++ p, by omega, by go_num, rfl, HT2, HB4⟩
          case measure => simp [intOf]; omega
        · have HT2 := Lib.hid (show bl ((t ++ ⟨#[44]⟩) ++ p) = bl Q ++ argP (ATW xs vs false 999) ts (k0 + 1) from by rw [bl_cat, bl_cat, HT.out, hnx, if_neg hz]; simp; rfl)
          have hk00 : ((k0 : Int) == 0) = false := beq_false_of_ne (by omega)
          clear hp hp' hnx hlen hyi hy htv hu1 hz hz40 hz44
          (go_wp2_with fail; go_fit (hC); rintro e w4 ⟨rfl, hb4⟩)
          have HB4 := Lib.hid (Ext.trans' HB.out hb4)
          clear hb4 hC d0 d1 d2 d3
          go_wp2
          go_roundw
          case rel => exact ⟨k0 + 1, (t ++ ⟨#[44]⟩) ++ p, by omega, by go_num, rfl, HT2, HB4⟩
          case measure => simp [intOf]; omega
      · obtain rfl : k0 = m := by omega
        have hap : argP (ATW xs vs false 999) ts k0 = 40 :: rowW (ATW xs vs false 999) ts := by
          unfold argP
          rw [if_neg (by omega), List.take_of_length_le (by rw [HML.out]; exact Nat.le_refl _)]
        have hT := HT.out
        rw [hap] at hT
        have HRR := Lib.hid (show t ++ ⟨#[41]⟩ = R from bl_eq (by show bl (t ++ ⟨#[41]⟩) = bl R; rw [bl_cat, hT, HR.out, bl_baS]; simp))
        have HBE := Lib.hid (Ext.trans' HB3.out HB.out)
        have hss1 : ¬ 9223372036854775807 < t.size + 1 := by omega
        clear hT hap HT HB HR
        go_wp2
        go_ret
        exact ⟨ret_str HRR.out, HBE.out⟩
end Go.Proofs.YtljgkfdnmikpfaaGreatDoor
/- A row of terms that is laid anew. Nothing here speaks of one program but for the types. -/
namespace Go.Proofs.YtljgkfdnmikpfaaGreatDoor
open Go.RowKit
set_option linter.unusedVariables false

theorem laidT_tms {w : World} {cs : Array Value} {ty : TypeId} (ps : List TmP) (hcs : cs.toList = ps.flatMap pCells) (hp : ∀ p ∈ ps, TmV (w.alloc (.cells cs ty)) p.1 (pVal p)) (hl : ps.length * 56 ≤ BIG) {n : Nat} (hn : ps.length = n) {ts : List Tm} (ht : ps.map (·.1) = ts) :
    Tms (w.alloc (.cells cs ty)) (.slice (some ⟨w.heap.size, 0, none⟩) n n) ts := by
  subst hn ht
  refine ⟨some ⟨w.heap.size, 0, none⟩, ps.length, by rw [List.length_map], by rw [List.length_map]; exact Nat.le_refl _, by unfold BIG at hl; unfold maxLen; omega, by rw [List.length_map]; exact hl, Or.inr ⟨_, _, rfl, by simp, TmRow.mk fun i x hx => ?_⟩⟩
  rw [List.getElem?_map] at hx
  obtain ⟨p, hpi, rfl⟩ := Option.map_eq_some_iff.1 hx
  have hv := hp p (List.mem_of_getElem? hpi)
  have key : ∀ j u, j < 4 → (pCells p)[j]? = some u → (w.alloc (.cells cs ty)).cell? ⟨w.heap.size, 0 + i * 4 + j, none⟩ = some u := fun j u hj hu => by
    have := cell_new w cs ty (i * 4 + j) u (by rw [hcs, flat_get pCells_len ps i p hpi j hj]; exact hu)
    rw [add_plain] at this
    rw [Nat.add_assoc]; exact this
  exact ⟨_, _, _, _, key 0 _ (by omega) rfl, key 1 _ (by omega) rfl, key 2 _ (by omega) rfl, key 3 _ (by omega) rfl, hv⟩
/-- Two terms beside each other. -/
theorem laid_two {w : World} {k1 n1 k2 n2 : Int} {s1 s2 : ByteArray} {u1 u2 : Value} {x y : Tm} {ty : TypeId} (h1 : TmV w x (.agg #[.int .i64 k1, .int .i64 n1, .string s1, u1])) (h2 : TmV w y (.agg #[.int .i64 k2, .int .i64 n2, .string s2, u2])) :
    Tms (w.alloc (.cells #[.int .i64 k1, .int .i64 n1, .string s1, u1, .int .i64 k2, .int .i64 n2, .string s2, u2] ty)) (.slice (some ⟨w.heap.size, 0, none⟩) 2 2) [x, y] := by
  obtain ⟨v1, e1⟩ := h1.pair
  obtain ⟨v2, e2⟩ := h2.pair
  unfold pVal at e1 e2
  simp only [Value.agg.injEq, Array.mk.injEq, List.cons.injEq, Value.int.injEq, Value.string.injEq, and_true, true_and] at e1 e2
  obtain ⟨rfl, rfl, rfl, rfl⟩ := e1
  obtain ⟨rfl, rfl, rfl, rfl⟩ := e2
  have hb := bel1' w (.cells #[.int .i64 x.k, .int .i64 x.n, .string x.s, u1, .int .i64 y.k, .int .i64 y.n, .string y.s, u2] ty)
  refine laidT_tms [(x, u1), (y, u2)] rfl (fun p hp => ?_) (by unfold BIG; simp) rfl rfl
  rcases List.mem_cons.1 hp with rfl | hp
  · exact TmV.ext hb _ _ h1
  · rcases List.mem_cons.1 hp with rfl | hp
    · exact TmV.ext hb _ _ h2
    · cases hp
end Go.Proofs.YtljgkfdnmikpfaaGreatDoor
/- The laws of writing: awake. -/
namespace Go.Proofs.YtljgkfdnmikpfaaGreatDoor
open Go.Shelf Go.RowKit
set_option linter.unusedVariables false
set_option maxRecDepth 100000

def aw9S : Tm := .mk 2 0 ⟨#[43]⟩ [.mk 2 0 ⟨#[97]⟩ [], .mk 2 0 ⟨#[42]⟩ [.mk 2 0 ⟨#[98]⟩ [], .mk 2 0 ⟨#[99]⟩ []]]
def aw9F : Tm := .mk 2 0 ⟨#[102]⟩ [.mk 0 7 ⟨#[]⟩ [], .mk 1 (-1) ⟨#[]⟩ []]
theorem aw9_text : termTx opsB aw9S = .tuple #[.string ⟨#[97, 32, 43, 32, 98, 32, 42, 32, 99]⟩, .int .i64 0] := by kernel_rfl
theorem aw9_plain : textX (goodT aw9F) (PLAIN (varsT aw9F []) aw9F) = .tuple #[.string ⟨#[102, 40, 95, 48, 44, 45, 49, 41]⟩, .int .i64 0] := by kernel_rfl
theorem i64_m1 : I64 (-1) := by unfold I64; omega
theorem i64_7 : I64 7 := by unfold I64; omega
set_option maxHeartbeats 4000000 in
theorem awake9_at {w : World} (hc : Con w) : Calls Tryz.prog 24 #[] w fun e w' => e = .returned (.bool true) ∧ Below w.heap.size w w' := by
  have HC := Lib.hid hc
  have HPl := Lib.hid (plain_walk w)
  clear hc
  go_enter Tryz.func24, Tryz.ntmps24
  (go_wp2_with fail; go_fit (HPl.out); rintro e w1 ⟨v, rfl, ho, hb1⟩)
  have HO1 := Lib.hid ho
  have HB1 := Lib.hid hb1
  clear ho hb1
  (go_wp2_with fail; go_fit (atom_at _ ⟨#[97]⟩); rintro e w2 ⟨rfl, hb2⟩)
  (go_wp2_with fail; go_fit (atom_at _ ⟨#[98]⟩); rintro e w3 ⟨rfl, hb3⟩)
  (go_wp2_with fail; go_fit (atom_at _ ⟨#[99]⟩); rintro e w4 ⟨rfl, hb4⟩)
  have hbT : ∀ s : ByteArray, s.size ≤ 1000 → TmV w4 (.mk 2 0 s []) (.agg #[.int .i64 2, .int .i64 0, .string s, .slice none 0 0]) := fun s hs => leaf_tm w4 i64_2 i64_0 (by unfold BIG; omega)
  have HT5 := Lib.hid (laid_two (ty := 27) (hbT ⟨#[98]⟩ (by decide)) (hbT ⟨#[99]⟩ (by decide)))
  have HB4 := Lib.hid (Ext.trans' hb2 (Ext.trans' hb3 hb4))
  have HC5 := Lib.hid (comp_at ⟨#[42]⟩ (by decide) HT5.out)
  clear hb2 hb3 hb4 hbT
  (go_wp2_with fail; go_fit (HC5.out); rintro e w5 ⟨a5, c5, rfl, htv, hb5⟩)
  have HV5 := Lib.hid htv
  have hl5 : ([.mk 2 0 ⟨#[98]⟩ [], .mk 2 0 ⟨#[99]⟩ []] : List Tm).length = 2 := rfl
  have HT6 := Lib.hid (laid_two (ty := 27) (leaf_tm w5 (s := ⟨#[97]⟩) i64_2 i64_0 (by decide)) HV5.out)
  have HC6 := Lib.hid (comp_at ⟨#[43]⟩ (by decide) HT6.out)
  have HB5 := Lib.hid (Ext.trans' HB4.out (Ext.trans' (bel1' _ _) hb5))
  clear htv hb5
  (go_wp2_with fail; go_fit (HC6.out); rintro e w6 ⟨a6, c6, rfl, htv, hb6⟩)
  have HB6 := Lib.hid (Ext.trans' HB5.out (Ext.trans' (bel1' _ _) hb6))
  have hWT := wterm_at (HC.out.ext (Ext.trans' HB1.out HB6.out)) (HO1.out.ext HB6.out) htv
  rw [show termTx opsB (Tm.mk 2 0 ⟨#[43]⟩ [.mk 2 0 ⟨#[97]⟩ [], .mk 2 0 ⟨#[42]⟩ [.mk 2 0 ⟨#[98]⟩ [], .mk 2 0 ⟨#[99]⟩ []]]) = _ from aw9_text] at hWT
  have HWT := Lib.hid hWT
  clear htv hb6 hWT
  (go_wp2_with fail; go_fit (HWT.out); rintro e w7 ⟨rfl, hb7⟩)
  have HB7 := Lib.hid (Ext.trans' HB1.out (Ext.trans' HB6.out hb7))
  clear hb7
  (go_wp2_with fail; go_fit (var_at _ 7); rintro e w8 ⟨rfl, hb8⟩)
  (go_wp2_with fail; go_fit (int_at _ (-1)); rintro e w9 ⟨rfl, hb9⟩)
  have HT9 := Lib.hid (laid_two (ty := 27) (leaf_tm w9 (k := 0) (n := 7) (s := ⟨#[]⟩) i64_0 i64_7 (by decide)) (leaf_tm w9 (k := 1) (n := -1) (s := ⟨#[]⟩) i64_1 i64_m1 (by decide)))
  have HC9 := Lib.hid (comp_at ⟨#[102]⟩ (by decide) HT9.out)
  have HB9 := Lib.hid (Ext.trans' HB7.out (Ext.trans' hb8 hb9))
  clear hb8 hb9
  (go_wp2_with fail; go_fit (HC9.out); rintro e w10 ⟨a10, c10, rfl, htv, hb10⟩)
  have HB10 := Lib.hid (Ext.trans' HB9.out (Ext.trans' (bel1' _ _) hb10))
  have hWP := wplain_at (HC.out.ext HB10.out) htv
  rw [show textX (goodT (Tm.mk 2 0 ⟨#[102]⟩ [.mk 0 7 ⟨#[]⟩ [], .mk 1 (-1) ⟨#[]⟩ []])) (PLAIN (varsT (Tm.mk 2 0 ⟨#[102]⟩ [.mk 0 7 ⟨#[]⟩ [], .mk 1 (-1) ⟨#[]⟩ []]) []) (Tm.mk 2 0 ⟨#[102]⟩ [.mk 0 7 ⟨#[]⟩ [], .mk 1 (-1) ⟨#[]⟩ []])) = _ from aw9_plain] at hWP
  have HWP := Lib.hid hWP
  clear htv hb10 hWP
  (go_wp2_with fail; go_fit (HWP.out); rintro e w11 ⟨rfl, hb11⟩)
  have HB11 := Lib.hid (Ext.trans' HB10.out hb11)
  clear hb11
  go_wp2
  go_ret
  exact ⟨rfl, HB11.out⟩
end Go.Proofs.YtljgkfdnmikpfaaGreatDoor
/- Terms: how deep one is asked of. -/
namespace Go.Proofs.YtljgkfdnmikpfaaGreatDoor
open Go.RowKit
set_option linter.unusedVariables false

mutual
def deepT : Tm → Int → Bool
  | .mk _ _ _ ts, left => if left < 1 ∨ 12 < ts.length then true else deepsT ts (left - 1)
def deepsT : List Tm → Int → Bool
  | [], _ => false
  | x :: r, left => deepT x left || deepsT r left
end
end Go.Proofs.YtljgkfdnmikpfaaGreatDoor
/- Stage 9's laws: how deep a term is asked of. -/
namespace Go.Proofs.YtljgkfdnmikpfaaGreatDoor
open Go.RowKit
set_option linter.unusedVariables false

set_option maxHeartbeats 2000000 in
theorem deep9_at : ∀ (N : Nat) (x : Tm), sizeN x ≤ N → ∀ (left : Int), I64 left → ∀ (w : World) (v : Value), TmV w x v →
    Calls Tryz.prog 30 #[v, .int .i64 left] w fun e w' => e = .returned (.bool (deepT x left)) ∧ Below w.heap.size w w'
  | 0, x, h, left, hl, w, v, hv => by have := size_pos x; omega
  | N + 1, .mk k n s ts, h, left, hl, w, v, hv => by
    obtain ⟨u, rfl, hs, hk, hn, hu⟩ := tmV_iff.1 hv
    obtain ⟨a, c, rfl, h1, h2, h3⟩ := hu.len
    unfold BIG at h3
    unfold I64 at hl
    have hD : deepT (.mk k n s ts) left = if left < 1 ∨ 12 < ts.length then true else deepsT ts (left - 1) := by rw [deepT]
    by_cases hlt : left < 1
    · rw [hD, if_pos (Or.inl hlt)]
      clear hD
      go_enter Tryz.func30, Tryz.ntmps30
      go_wp2
      go_ret
      exact ⟨rfl, bel1' _ _⟩
    obtain ⟨m, hm⟩ : ∃ m, ts.length = m := ⟨_, rfl⟩
    by_cases h12 : 12 < m
    · rw [hD, if_pos (Or.inr (by rw [hm]; exact h12))]
      rw [hm] at h1 h3 ⊢
      clear hD hv hu hm
      go_enter Tryz.func30, Tryz.ntmps30
      go_wp2
      go_ret
      exact ⟨rfl, bel1' _ _⟩
    rw [hD, if_neg (by rw [hm]; omega)]
    have hI : I64 (left - 1) := by unfold I64; omega
    have IH := Lib.hid (fun (y : Tm) (hy : y ∈ ts) => deep9_at N y (mem_size h hy) (left - 1) hI)
    have HU := Lib.hid hu
    have HM := Lib.hid hm
    rw [hm] at h1 h3 hu HU ⊢
    obtain ⟨r, hr⟩ : ∃ r, deepsT ts (left - 1) = r := ⟨_, rfl⟩
    rw [hr]
    have HR := Lib.hid hr
    clear hD hv hu hm hr h
    go_enter Tryz.func30, Tryz.ntmps30
    go_wp2_with fail
    go_loopw [5] (fun v wr => ∃ i : Nat, i ≤ m ∧ v = .int .i64 i ∧ Hid (deepsT (ts.drop i) (left - 1) = r) ∧ Hid (Below (w.alloc (.cells #[.int .i64 k, .int .i64 n, .string s, .slice a m c] 27)).heap.size (w.alloc (.cells #[.int .i64 k, .int .i64 n, .string s, .slice a m c] 27)) wr)) (fun v _ => m - (intOf v).toNat)
    case atStart => exact ⟨0, Nat.zero_le _, rfl, Lib.hid (by rw [List.drop_zero]; exact HR.out), Lib.hid (Below.refl _ _)⟩
    case round =>
      obtain ⟨i, hi, rfl, HD, HB⟩ := hrel
      obtain ⟨e0, e1, e2, e3⟩ := box_cells w 27 _ _ _ _ HB.out
      by_cases hil : i < m
      · obtain ⟨y, hy⟩ : ∃ y, ts[i]? = some y := ⟨_, List.getElem?_eq_getElem (by rw [HM.out]; exact hil)⟩
        have hdr : ts.drop i = y :: ts.drop (i + 1) := by
          obtain ⟨hlt', rfl⟩ := List.getElem?_eq_some_iff.1 hy
          exact List.drop_eq_getElem_cons hlt'
        have hd := HD.out
        rw [hdr, deepsT] at hd
        have HBW := Lib.hid (Ext.trans' (bel1' w _) HB.out)
        obtain ⟨b, off, k', n', s', u', rfl, hbb, _, _, _, c0, c1, c2, c3, _, ht⟩ := (HU.out.ext HBW.out).get hy
        have ih := IH.out y (List.mem_of_getElem? hy) wr _ ht
        clear hdr HD ht
        cases hq : deepT y (left - 1)
        · rw [hq, Bool.false_or] at hd
          rw [hq] at ih
          have HD := Lib.hid hd
          clear hq hd hy
          (go_wp2_with fail; go_fit (ih); rintro e w2 ⟨rfl, b2⟩)
          have B2 := Lib.hid (Ext.trans' HB.out b2)
          clear b2
          go_wp2
          go_roundw
          case rel => exact ⟨i + 1, by omega, by go_num, HD, B2⟩
          case measure => simp [intOf]; omega
        · rw [hq, Bool.true_or] at hd
          rw [hq] at ih
          subst hd
          clear hq hy HR
          (go_wp2_with fail; go_fit (ih); rintro e w2 ⟨rfl, b2⟩)
          have B2 := Lib.hid (Ext.trans' HBW.out b2)
          clear b2
          go_wp2
          go_ret
          exact ⟨rfl, B2.out⟩
      · have hd := HD.out
        rw [List.drop_eq_nil_of_le (by rw [HM.out]; omega), deepsT] at hd
        subst hd
        clear HR HD
        go_wp2
        go_ret
        exact ⟨rfl, Ext.trans' (bel1' w _) HB.out⟩
end Go.Proofs.YtljgkfdnmikpfaaGreatDoor
/- Stage 9's laws: their own copy of a term. -/
namespace Go.Proofs.YtljgkfdnmikpfaaGreatDoor
open Go.Shelf Go.RowKit
set_option linter.unusedVariables false

set_option maxRecDepth 100000 in
set_option maxHeartbeats 8000000 in
theorem own9_step (N : Nat) (ih : ∀ t, sizeN t < N → ∀ (D : Nat → Bool) (w : World) (v : Value), Old D w → TmV w t v → Calls Tryz.prog 33 #[v] w fun e w' => ∃ v', e = .returned v' ∧ TmV (hide D w') t v' ∧ Below w.heap.size w w')
    (t : Tm) (ht : sizeN t < N + 1) (D : Nat → Bool) (w : World) (v : Value) (hD : Old D w) (hv : TmV w t v) :
    Calls Tryz.prog 33 #[v] w fun e w' => ∃ v', e = .returned v' ∧ TmV (hide D w') t v' ∧ Below w.heap.size w w' := by
  cases t with
  | mk k n s ts =>
  obtain ⟨u, rfl, hs, hk64, hn64, hu⟩ := tmV_iff.1 hv
  obtain ⟨au, cu, rfl, hu1, hu2, hu3⟩ := hu.len
  obtain ⟨m, hm⟩ : ∃ m, ts.length = m := ⟨_, rfl⟩
  rw [hm] at hu hu1 hu3
  rw [hm]
  unfold BIG at hu3
  unfold maxLen at hu2
  obtain ⟨w1, hw1, hb1, hz1, hx1⟩ := box_new w #[.int .i64 k, .int .i64 n, .string s, .slice au m cu] 27
  obtain ⟨w2, hw2, hb2, hz2, hx2⟩ := box_new w1 #[.int .i64 0, .int .i64 0, .string ⟨#[]⟩, .slice none 0 0] 66
  obtain ⟨w3, hw3, hb3, hz3, hx3⟩ := box_new w2 #[.int .i64 k, .int .i64 n, .string s, .slice none 0 0] 66
  have hB3 := Ext.trans' (Ext.trans' hb1 hb2) hb3
  have hBB := (hb1.size)
  have hRR : w.heap.size ≤ w2.heap.size := Nat.le_trans hb1.size hb2.size
  have HT3 := Lib.hid ((Turn.into (D := D) (M := noM) (Ext.trans' hb1 hb2) hBB).trans (Turn.into (M := noM) hb3 (Nat.le_refl _)))
  have HO3 := Lib.hid (((okd_no hD).box (Ext.trans' hb1 hb2).size hx2.lt).box hb3.size hx3.lt)
  obtain ⟨y0, y1, y2, y3, yf⟩ := (hx1.ext hb2).four
  have HX1 := Lib.hid ((hx1.ext hb2).ext hb3)
  have HX2 := Lib.hid (hx2.ext hb3)
  have HX3 := Lib.hid hx3
  have HU := Lib.hid hu
  have HM := Lib.hid hm
  have HD := Lib.hid hD
  have HSZ := Lib.hid (show ∀ x ∈ ts, sizeN x < N from fun x hx => by have := sizes_mem hx; rw [sizeN] at ht; omega)
  have HIH := Lib.hid ih
  have HK := Lib.hid (And.intro hs (And.intro hk64 hn64))
  obtain ⟨i0, hi0, hz0, hs0, hb0⟩ := info_parts infoTermR
  have h12 : w.heap.size ≠ w1.heap.size := by omega
  have h13 : w.heap.size ≠ w2.heap.size := by omega
  have h23 : w1.heap.size ≠ w2.heap.size := by omega
  have hR : w.heap.size ≤ w2.heap.size := hRR
  have h23w : w2.heap.size < w3.heap.size := by omega
  have h13w : w1.heap.size < w3.heap.size := by omega
  have hBq : w.heap.size ≤ w1.heap.size := hBB
  clear hb1 hb2 hb3 hx1 hx2 hx3 hz1 hz2 hz3 hv hu hD ih ht hm hB3 hs hk64 hn64 hBB hRR
  have HW3 := Lib.hid hw3
  clear hw3
  go_enter Tryz.func33, Tryz.ntmps33
  go_wp2_with fail
  (try rw [hw1])
  (try rw [hw2])
  clear hw1 hw2
  go_wp2_with fail
  (try rw [HW3.out])
  clear y0 y1 y2 y3 yf HW3
  go_loopw [4] (fun i wr => ∃ (D1 : Nat → Bool) (j c : Nat) (a : Option Addr) (ps : List TmP), j ≤ m ∧ i = .int .i64 j ∧ ps.length = j ∧ Hid (ps.map (·.1) = ts.take j) ∧ Hid (Box wr w2.heap.size [.int .i64 k, .int .i64 n, .string s, .slice a j c]) ∧ Hid (RowY D1 noM wr w3.heap.size (.slice a j c) ps) ∧ Hid (Turn D noM D1 noM w wr) ∧ Hid (Okd D1 noM wr) ∧ Hid (D1 w2.heap.size = true ∧ D1 w1.heap.size = true) ∧ Hid (w3.heap.size ≤ wr.heap.size) ∧ Hid (Box wr w.heap.size [.int .i64 k, .int .i64 n, .string s, .slice au m cu]) ∧ Hid (Box wr w1.heap.size [.int .i64 0, .int .i64 0, .string ⟨#[]⟩, .slice none 0 0]))
    (fun i _ => m - (intOf i).toNat)
  case atStart => exact ⟨plusB (plusB D w1.heap.size) w2.heap.size, 0, 0, none, [], Nat.zero_le _, rfl, rfl, Lib.hid rfl, HX3, Lib.hid (RowY.none _ _ _ _), HT3, HO3, Lib.hid ⟨plusB_self _ _, plusB_of (plusB_self _ _)⟩, Lib.hid (Nat.le_refl _), HX1, HX2⟩
  case round =>
    obtain ⟨D1, j, c, a, ps, hj, rfl, hpl, HPS, HXR, HRW, HT, HO, HDR, HZ, HX1, HX2⟩ := hrel
    have HPL := Lib.hid hpl
    obtain ⟨r0, r1, r2, r3, rf⟩ := HXR.out.four
    obtain ⟨t0, t1, t2, t3, tf⟩ := HX1.out.four
    have HBl := Lib.hid (HT.out.bel (Nat.le_refl _) (fun k _ => rfl))
    clear hpl
    by_cases hlt : j < m
    · obtain ⟨x, hx⟩ : ∃ x, ts[j]? = some x := ⟨_, List.getElem?_eq_getElem (by rw [HM.out]; exact hlt)⟩
      obtain ⟨b, off, xk, xn, xs', xu, rfl, hbb, ek, en, es, c0, c1, c2, c3, _, htx⟩ := (HU.out.ext HBl.out).get hx
      have HSX := Lib.hid (HSZ.out x (List.mem_of_getElem? hx))
      have HTX := Lib.hid htx
      have HTK := Lib.hid (take_next hx)
      have HC := Lib.hid (fun (wq : World) (hq : Below wr.heap.size wr wq) => HIH.out x HSX.out D1 wq _ (HO.out.2.mono hq.size) (TmV.ext hq _ _ HTX.out))
      have hbw0 : b < w.heap.size := by
        have := HU.out
        obtain ⟨a', c', e', _, _, _, h4⟩ := this
        cases e'
        rcases h4 with rfl | ⟨b', off', e2, h5, _⟩
        · simp at hx
        · cases e2; exact h5
      have hbR : b ≠ w2.heap.size := by omega
      clear hx htx ek en es
      have hjj : (j : Int) < m := by omega
      go_wp2_with fail
      refine wp_region_held_drew (S := fun w' => (w'.cell? ⟨w.heap.size, 3, none⟩ = some (.slice (some ⟨b, off, none⟩) m cu) ∧ w'.cell? ⟨b, off + j * 4, none⟩ = some (.int .i64 xk) ∧ w'.cell? ⟨b, off + j * 4 + 1, none⟩ = some (.int .i64 xn) ∧ w'.cell? ⟨b, off + j * 4 + 2, none⟩ = some (.string xs') ∧ w'.cell? ⟨b, off + j * 4 + 3, none⟩ = some xu)) (by kernel_rfl) ⟨t3, c0, c1, c2, c3⟩ (fun hHeld => ?_)
      have HROW := Lib.hid (fun (wq : World) (hq : Below wr.heap.size wr wq) (o : Obj) => (show (wq.alloc o).ownsRow w3.heap.size 66 4 (.slice a j c) j (ps.flatMap pCells) from by
        have h := (HRW.out.turn (M := noM) (Turn.below (Ext.trans' hq (bel1' wq o))) HO.out.1).1
        unfold RowP at h
        rw [HPL.out] at h
        exact h))
      have h2w : w2.heap.size < w3.heap.size := h23w
      have h1w : w1.heap.size < w3.heap.size := h13w
      have h0w : w.heap.size < w3.heap.size := by omega
      have hbw : b < w3.heap.size := by omega
      first | (refine held_t (i := 0) hHeld ?_; apply Exists.intro; refine ⟨fun wq hq => ?_, ?_⟩; (focus ((try dsimp only at hq); go_simp; (first | done | with_reducible rfl | fail)))) | refine held_s (i := 0) hHeld ?_ | fail
      first | (refine held_t (i := 2) hHeld ?_; apply Exists.intro; refine ⟨fun wq hq => ?_, ?_⟩; (focus ((try dsimp only at hq); go_simp; (first | done | with_reducible rfl | fail)))) | refine held_s (i := 2) hHeld ?_ | fail
      first | (refine held_t (i := 3) hHeld ?_; apply Exists.intro; refine ⟨fun wq hq => ?_, ?_⟩; (focus ((try dsimp only at hq); go_simp; (first | done | with_reducible rfl | fail)))) | refine held_s (i := 3) hHeld ?_ | fail
      first | (refine held_t (i := 4) hHeld ?_; apply Exists.intro; refine ⟨fun wq hq => ?_, ?_⟩; (focus ((try dsimp only at hq); go_simp; (first | done | with_reducible rfl | fail)))) | refine held_s (i := 4) hHeld ?_ | fail
      first | (refine held_t (i := 5) hHeld ?_; apply Exists.intro; refine ⟨fun wq hq => ?_, ?_⟩; (focus ((try dsimp only at hq); go_simp; (first | done | with_reducible rfl | fail)))) | refine held_s (i := 5) hHeld ?_ | fail
      first | (refine held_t (i := 6) hHeld ?_; apply Exists.intro; refine ⟨fun wq hq => ?_, ?_⟩; (focus ((try dsimp only at hq); go_simp; (first | done | with_reducible rfl | fail)))) | refine held_s (i := 6) hHeld ?_ | fail
      try simp only [Act.put, List.setIfInBounds_toArray, List.set_cons_zero, List.set_cons_succ]
      refine wpAnyH_ready (rs := [1, 7]) (by kernel_rfl) (by simp) ?_
      refine AllReadyH.cons (by simp only [List.getElem?_toArray, List.getElem?_cons_zero, List.getElem?_cons_succ]; rfl) (fun K hK => ?_) (AllReadyH.cons (by simp only [List.getElem?_toArray, List.getElem?_cons_zero, List.getElem?_cons_succ]; rfl) (fun K hK => ?_) AllReadyH.nil)
      · go_simp
        skip
        refine hK.out _ _ (hHeld) (fun hHeld => ?_)
        clear hK K
        try simp only [Act.put, List.setIfInBounds_toArray, List.set_cons_zero, List.set_cons_succ]
        refine held_c 7 fun K hK => ?_
        go_simp
        (go_at_call 33; refine (HC.out _ ((Below.refl _ _).drew)).mono ?_; rintro e w5 ⟨v5, rfl, hv5, hb5⟩; obtain ⟨k5, n5, s5, a5, m5, c5, rfl, ek, en, es, ep⟩ := four_of hv5; have HEP := Lib.hid ep; have HEK := Lib.hid (And.intro ek (And.intro en es)); have HV5 := Lib.hid hv5; have HB5 := Lib.hid (Ext.trans' (Below.refl wr.heap.size wr).drew hb5); obtain ⟨r0, r1, r2, r3, rf⟩ := (HXR.out.ext HB5.out).four; have r3' : ∀ o, (w5.alloc o).cell? ⟨w2.heap.size, 3, none⟩ = some (.slice a j c) := (fun o => Lib.cell?_alloc_some _ r3); clear ek en es ep hv5)
        refine hK.out _ _ (⟨cell_later HB5.out t3, cell_later HB5.out c0, cell_later HB5.out c1, cell_later HB5.out c2, cell_later HB5.out c3⟩) (fun hHeld => ?_)
        clear hK K
        try simp only [Act.put, List.setIfInBounds_toArray, List.set_cons_zero, List.set_cons_succ]
        refine held_c 8 fun K hK => ?_
        go_simp
        skip
        refine hK.out _ _ (⟨cell_later (bel1' _ _) hHeld.1, cell_later (bel1' _ _) hHeld.2.1, cell_later (bel1' _ _) hHeld.2.2.1, cell_later (bel1' _ _) hHeld.2.2.2.1, cell_later (bel1' _ _) hHeld.2.2.2.2⟩) (fun hHeld => ?_)
        clear hK K
        try simp only [Act.put, List.setIfInBounds_toArray, List.set_cons_zero, List.set_cons_succ]
        refine held_c 9 fun K hK => ?_
        (refine step_append_k (by rfl) _ _ _ (by rfl) w3.heap.size 66 i0 (.agg #[.int .i64 0, .int .i64 0, .string ⟨#[]⟩, .slice none 0 0]) 4 56 Tryz.underlying64 hi0 hz0 hs0 (by decide) hb0 rfl (.slice a j c) j (ps.flatMap pCells) (by rfl) (HROW.out w5 HB5.out _) (some ⟨w5.heap.size, 0, none⟩) 1 1 [.int .i64 k5, .int .i64 n5, .string s5, .slice a5 m5 c5] (by rfl) (by rfl) (Or.inr ⟨_, rfl, fun jj uu hu => cell_new w5 #[.int .i64 k5, .int .i64 n5, .string s5, .slice a5 m5 c5] _ jj uu hu⟩) (by simp [Value.oneCell']) (by unfold maxLen; omega) (by omega) (by have := HB5.out.size; have := HZ.out; simp; omega) (j + 1) (ps.flatMap pCells ++ [.int .i64 k5, .int .i64 n5, .string s5, .slice a5 m5 c5]) rfl rfl ?_; intro a7 c7 w7 hown7 hgrow7 hat7; have hkeep : ∀ g, g < w3.heap.size → w7.heap[g]? = w5.heap[g]? := (fun g hg => (hgrow7.block g (by have := HB5.out.size; have := HZ.out; simp; omega) (fun e => by have := (row_in HRW.out.1 e.symm).1; omega)).trans ((bel1' w5 _).block g (by have := HB5.out.size; have := HZ.out; omega))); have HKP := Lib.hid hkeep; have HGR := Lib.hid hgrow7; have HOW := Lib.hid hown7; have HAT := Lib.hid hat7; have r3 : w7.cell? ⟨w2.heap.size, 3, none⟩ = some (.slice a j c) := (by rw [World.cell?_of_block (hkeep _ h2w)]; exact r3); have rf : w7.frozen? ⟨w2.heap.size, 3, none⟩ = false := (by rw [World.frozen?_of_block (hkeep _ h2w)]; exact rf 3); clear hkeep hgrow7 hown7 hat7)
        refine hK.out _ _ (⟨by rw [World.cell?_of_block (HKP.out _ h0w)]; exact cell_later HB5.out t3, by rw [World.cell?_of_block (HKP.out _ hbw)]; exact cell_later HB5.out c0, by rw [World.cell?_of_block (HKP.out _ hbw)]; exact cell_later HB5.out c1, by rw [World.cell?_of_block (HKP.out _ hbw)]; exact cell_later HB5.out c2, by rw [World.cell?_of_block (HKP.out _ hbw)]; exact cell_later HB5.out c3⟩) (fun hHeld => ?_)
        clear hK K
        try simp only [Act.put, List.setIfInBounds_toArray, List.set_cons_zero, List.set_cons_succ]
        first | (refine held_t (i := 10) hHeld ?_; apply Exists.intro; refine ⟨fun wq hq => ?_, ?_⟩; (focus ((try dsimp only at hq); go_simp; (first | done | with_reducible rfl | fail)))) | refine held_s (i := 10) hHeld ?_ | fail
        try simp only [Act.put, List.setIfInBounds_toArray, List.set_cons_zero, List.set_cons_succ]
        refine held_c 11 fun K hK => ?_
        go_simp
        skip
        refine hK.out _ _ (⟨far_one hHeld.1 h13, far_one hHeld.2.1 hbR, far_one hHeld.2.2.1 hbR, far_one hHeld.2.2.2.1 hbR, far_one hHeld.2.2.2.2 hbR⟩) (fun hHeld => ?_)
        clear hK K
        try simp only [Act.put, List.setIfInBounds_toArray, List.set_cons_zero, List.set_cons_succ]
        refine wpAnyH_done (by kernel_rfl) ?_ _
        have hW5 : Below wr.heap.size wr (w5.alloc (.cells #[.int .i64 k5, .int .i64 n5, .string s5, .slice a5 m5 c5] 66)) := Ext.trans' HB5.out (bel1' w5 _)
        have hRW := HRW.out.turn (Turn.below hW5) HO.out.1
        have hpc : pCells (x, .slice a5 m5 c5) = [.int .i64 k5, .int .i64 n5, .string s5, .slice a5 m5 c5] := by unfold pCells; rw [← HEK.out.1, ← HEK.out.2.1, ← HEK.out.2.2]
        have htW : TmV (hide D1 (w5.alloc (.cells #[.int .i64 k5, .int .i64 n5, .string s5, .slice a5 m5 c5] 66))) x (pVal (x, .slice a5 m5 c5)) := by rw [← HEP.out]; exact TmV.later (bel1' w5 _) HV5.out
        have hR7 := hRW.more htW (HO.out.later hW5.size) HGR.out HAT.out (by rw [HPL.out, hpc]; exact HOW.out)
        have hown : ∀ g, (Value.slice a7 (j + 1) c7).ownBlock = some g → g ≠ w2.heap.size := fun g hg e => by have := (row_in HOW.out hg).1; omega
        have HR8 := Lib.hid (hR7.put ⟨w2.heap.size, 3, none⟩ (.slice a7 (j + 1) c7) (withB_of HDR.out.1) hown)
        have HT8 := Lib.hid (((HT.out.trans (Turn.below hW5)).grown HGR.out (fun g hg => by have := (row_in hRW.1 hg).1; omega) HAT.out).set ⟨w2.heap.size, 3, none⟩ (.slice a7 (j + 1) c7) (Or.inl hR))
        have HO8 := Lib.hid (show Okd (withB D1 (.slice a7 (j + 1) c7)) noM (w7.setCell ⟨w2.heap.size, 3, none⟩ (.slice a7 (j + 1) c7)) from ⟨fun k hk => absurd hk (by simp), fun k hk => by
          rw [withB_no (fun e => by have := (row_in HOW.out e).2; simp [World.setCell] at hk; omega)]
          exact HO.out.2 k (by have h1 := HGR.out.size; have h2 := hW5.size; simp [World.setCell] at hk; omega)⟩)
        have HB8 := Lib.hid (((HXR.out.ext HB5.out).block (HKP.out _ h2w) (by have h1 := HGR.out.size; have h2 := hW5.size; have h3 := HXR.out.lt; omega)).set (k := 3) (u := .slice a7 (j + 1) c7) (by simp))
        have HY1 := Lib.hid (((HX1.out.ext HB5.out).block (HKP.out _ h0w) (by have h1 := HGR.out.size; have h2 := hW5.size; have h3 := HX1.out.lt; omega)).far (c := w2.heap.size) (k := 3) (u := .slice a7 (j + 1) c7) h13)
        have HY2 := Lib.hid (((HX2.out.ext HB5.out).block (HKP.out _ h1w) (by have h1 := HGR.out.size; have h2 := hW5.size; have h3 := HX2.out.lt; omega)).far (c := w2.heap.size) (k := 3) (u := .slice a7 (j + 1) c7) h23)
        have HZ8 := Lib.hid (show w3.heap.size ≤ (w7.setCell ⟨w2.heap.size, 3, none⟩ (.slice a7 (j + 1) c7)).heap.size by have h1 := HGR.out.size; have h2 := hW5.size; have := HZ.out; simp [World.setCell]; omega)
        have HP8 := Lib.hid (show (ps ++ [(x, Value.slice a5 m5 c5)]).map (·.1) = ts.take (j + 1) by rw [List.map_append, HTK.out, HPS.out]; rfl)
        clear hRW hpc htW hR7 hown hW5 r0 r1 r2 r3 rf r3' t0 t1 t2 t3 tf c0 c1 c2 c3 hHeld
        go_wp2
        go_roundw
        case rel => exact ⟨_, j + 1, c7, a7, _, hlt, by go_num, by rw [List.length_append, HPL.out]; rfl, HP8, HB8, HR8, HT8, HO8, Lib.hid ⟨withB_of HDR.out.1, withB_of HDR.out.2⟩, HZ8, HY1, HY2⟩
        case measure => simp [intOf]; omega
      · go_simp
        (go_at_call 33; refine (HC.out _ ((Below.refl _ _).drew)).mono ?_; rintro e w5 ⟨v5, rfl, hv5, hb5⟩; obtain ⟨k5, n5, s5, a5, m5, c5, rfl, ek, en, es, ep⟩ := four_of hv5; have HEP := Lib.hid ep; have HEK := Lib.hid (And.intro ek (And.intro en es)); have HV5 := Lib.hid hv5; have HB5 := Lib.hid (Ext.trans' (Below.refl wr.heap.size wr).drew hb5); obtain ⟨r0, r1, r2, r3, rf⟩ := (HXR.out.ext HB5.out).four; have r3' : ∀ o, (w5.alloc o).cell? ⟨w2.heap.size, 3, none⟩ = some (.slice a j c) := (fun o => Lib.cell?_alloc_some _ r3); clear ek en es ep hv5)
        refine hK.out _ _ (⟨cell_later HB5.out t3, cell_later HB5.out c0, cell_later HB5.out c1, cell_later HB5.out c2, cell_later HB5.out c3⟩) (fun hHeld => ?_)
        clear hK K
        try simp only [Act.put, List.setIfInBounds_toArray, List.set_cons_zero, List.set_cons_succ]
        refine wpAnyH_ready (rs := [1, 8]) (by kernel_rfl) (by simp) ?_
        refine AllReadyH.cons (by simp only [List.getElem?_toArray, List.getElem?_cons_zero, List.getElem?_cons_succ]; rfl) (fun K hK => ?_) (AllReadyH.cons (by simp only [List.getElem?_toArray, List.getElem?_cons_zero, List.getElem?_cons_succ]; rfl) (fun K hK => ?_) AllReadyH.nil)
        · go_simp
          skip
          refine hK.out _ _ (hHeld) (fun hHeld => ?_)
          clear hK K
          try simp only [Act.put, List.setIfInBounds_toArray, List.set_cons_zero, List.set_cons_succ]
          refine held_c 8 fun K hK => ?_
          go_simp
          skip
          refine hK.out _ _ (⟨cell_later (bel1' _ _) hHeld.1, cell_later (bel1' _ _) hHeld.2.1, cell_later (bel1' _ _) hHeld.2.2.1, cell_later (bel1' _ _) hHeld.2.2.2.1, cell_later (bel1' _ _) hHeld.2.2.2.2⟩) (fun hHeld => ?_)
          clear hK K
          try simp only [Act.put, List.setIfInBounds_toArray, List.set_cons_zero, List.set_cons_succ]
          refine held_c 9 fun K hK => ?_
          (refine step_append_k (by rfl) _ _ _ (by rfl) w3.heap.size 66 i0 (.agg #[.int .i64 0, .int .i64 0, .string ⟨#[]⟩, .slice none 0 0]) 4 56 Tryz.underlying64 hi0 hz0 hs0 (by decide) hb0 rfl (.slice a j c) j (ps.flatMap pCells) (by rfl) (HROW.out w5 HB5.out _) (some ⟨w5.heap.size, 0, none⟩) 1 1 [.int .i64 k5, .int .i64 n5, .string s5, .slice a5 m5 c5] (by rfl) (by rfl) (Or.inr ⟨_, rfl, fun jj uu hu => cell_new w5 #[.int .i64 k5, .int .i64 n5, .string s5, .slice a5 m5 c5] _ jj uu hu⟩) (by simp [Value.oneCell']) (by unfold maxLen; omega) (by omega) (by have := HB5.out.size; have := HZ.out; simp; omega) (j + 1) (ps.flatMap pCells ++ [.int .i64 k5, .int .i64 n5, .string s5, .slice a5 m5 c5]) rfl rfl ?_; intro a7 c7 w7 hown7 hgrow7 hat7; have hkeep : ∀ g, g < w3.heap.size → w7.heap[g]? = w5.heap[g]? := (fun g hg => (hgrow7.block g (by have := HB5.out.size; have := HZ.out; simp; omega) (fun e => by have := (row_in HRW.out.1 e.symm).1; omega)).trans ((bel1' w5 _).block g (by have := HB5.out.size; have := HZ.out; omega))); have HKP := Lib.hid hkeep; have HGR := Lib.hid hgrow7; have HOW := Lib.hid hown7; have HAT := Lib.hid hat7; have r3 : w7.cell? ⟨w2.heap.size, 3, none⟩ = some (.slice a j c) := (by rw [World.cell?_of_block (hkeep _ h2w)]; exact r3); have rf : w7.frozen? ⟨w2.heap.size, 3, none⟩ = false := (by rw [World.frozen?_of_block (hkeep _ h2w)]; exact rf 3); clear hkeep hgrow7 hown7 hat7)
          refine hK.out _ _ (⟨by rw [World.cell?_of_block (HKP.out _ h0w)]; exact cell_later HB5.out t3, by rw [World.cell?_of_block (HKP.out _ hbw)]; exact cell_later HB5.out c0, by rw [World.cell?_of_block (HKP.out _ hbw)]; exact cell_later HB5.out c1, by rw [World.cell?_of_block (HKP.out _ hbw)]; exact cell_later HB5.out c2, by rw [World.cell?_of_block (HKP.out _ hbw)]; exact cell_later HB5.out c3⟩) (fun hHeld => ?_)
          clear hK K
          try simp only [Act.put, List.setIfInBounds_toArray, List.set_cons_zero, List.set_cons_succ]
          first | (refine held_t (i := 10) hHeld ?_; apply Exists.intro; refine ⟨fun wq hq => ?_, ?_⟩; (focus ((try dsimp only at hq); go_simp; (first | done | with_reducible rfl | fail)))) | refine held_s (i := 10) hHeld ?_ | fail
          try simp only [Act.put, List.setIfInBounds_toArray, List.set_cons_zero, List.set_cons_succ]
          refine held_c 11 fun K hK => ?_
          go_simp
          skip
          refine hK.out _ _ (⟨far_one hHeld.1 h13, far_one hHeld.2.1 hbR, far_one hHeld.2.2.1 hbR, far_one hHeld.2.2.2.1 hbR, far_one hHeld.2.2.2.2 hbR⟩) (fun hHeld => ?_)
          clear hK K
          try simp only [Act.put, List.setIfInBounds_toArray, List.set_cons_zero, List.set_cons_succ]
          refine wpAnyH_done (by kernel_rfl) ?_ _
          have hW5 : Below wr.heap.size wr (w5.alloc (.cells #[.int .i64 k5, .int .i64 n5, .string s5, .slice a5 m5 c5] 66)) := Ext.trans' HB5.out (bel1' w5 _)
          have hRW := HRW.out.turn (Turn.below hW5) HO.out.1
          have hpc : pCells (x, .slice a5 m5 c5) = [.int .i64 k5, .int .i64 n5, .string s5, .slice a5 m5 c5] := by unfold pCells; rw [← HEK.out.1, ← HEK.out.2.1, ← HEK.out.2.2]
          have htW : TmV (hide D1 (w5.alloc (.cells #[.int .i64 k5, .int .i64 n5, .string s5, .slice a5 m5 c5] 66))) x (pVal (x, .slice a5 m5 c5)) := by rw [← HEP.out]; exact TmV.later (bel1' w5 _) HV5.out
          have hR7 := hRW.more htW (HO.out.later hW5.size) HGR.out HAT.out (by rw [HPL.out, hpc]; exact HOW.out)
          have hown : ∀ g, (Value.slice a7 (j + 1) c7).ownBlock = some g → g ≠ w2.heap.size := fun g hg e => by have := (row_in HOW.out hg).1; omega
          have HR8 := Lib.hid (hR7.put ⟨w2.heap.size, 3, none⟩ (.slice a7 (j + 1) c7) (withB_of HDR.out.1) hown)
          have HT8 := Lib.hid (((HT.out.trans (Turn.below hW5)).grown HGR.out (fun g hg => by have := (row_in hRW.1 hg).1; omega) HAT.out).set ⟨w2.heap.size, 3, none⟩ (.slice a7 (j + 1) c7) (Or.inl hR))
          have HO8 := Lib.hid (show Okd (withB D1 (.slice a7 (j + 1) c7)) noM (w7.setCell ⟨w2.heap.size, 3, none⟩ (.slice a7 (j + 1) c7)) from ⟨fun k hk => absurd hk (by simp), fun k hk => by
            rw [withB_no (fun e => by have := (row_in HOW.out e).2; simp [World.setCell] at hk; omega)]
            exact HO.out.2 k (by have h1 := HGR.out.size; have h2 := hW5.size; simp [World.setCell] at hk; omega)⟩)
          have HB8 := Lib.hid (((HXR.out.ext HB5.out).block (HKP.out _ h2w) (by have h1 := HGR.out.size; have h2 := hW5.size; have h3 := HXR.out.lt; omega)).set (k := 3) (u := .slice a7 (j + 1) c7) (by simp))
          have HY1 := Lib.hid (((HX1.out.ext HB5.out).block (HKP.out _ h0w) (by have h1 := HGR.out.size; have h2 := hW5.size; have h3 := HX1.out.lt; omega)).far (c := w2.heap.size) (k := 3) (u := .slice a7 (j + 1) c7) h13)
          have HY2 := Lib.hid (((HX2.out.ext HB5.out).block (HKP.out _ h1w) (by have h1 := HGR.out.size; have h2 := hW5.size; have h3 := HX2.out.lt; omega)).far (c := w2.heap.size) (k := 3) (u := .slice a7 (j + 1) c7) h23)
          have HZ8 := Lib.hid (show w3.heap.size ≤ (w7.setCell ⟨w2.heap.size, 3, none⟩ (.slice a7 (j + 1) c7)).heap.size by have h1 := HGR.out.size; have h2 := hW5.size; have := HZ.out; simp [World.setCell]; omega)
          have HP8 := Lib.hid (show (ps ++ [(x, Value.slice a5 m5 c5)]).map (·.1) = ts.take (j + 1) by rw [List.map_append, HTK.out, HPS.out]; rfl)
          clear hRW hpc htW hR7 hown hW5 r0 r1 r2 r3 rf r3' t0 t1 t2 t3 tf c0 c1 c2 c3 hHeld
          go_wp2
          go_roundw
          case rel => exact ⟨_, j + 1, c7, a7, _, hlt, by go_num, by rw [List.length_append, HPL.out]; rfl, HP8, HB8, HR8, HT8, HO8, Lib.hid ⟨withB_of HDR.out.1, withB_of HDR.out.2⟩, HZ8, HY1, HY2⟩
          case measure => simp [intOf]; omega
        · go_simp
          skip
          refine hK.out _ _ (⟨cell_later (bel1' _ _) hHeld.1, cell_later (bel1' _ _) hHeld.2.1, cell_later (bel1' _ _) hHeld.2.2.1, cell_later (bel1' _ _) hHeld.2.2.2.1, cell_later (bel1' _ _) hHeld.2.2.2.2⟩) (fun hHeld => ?_)
          clear hK K
          try simp only [Act.put, List.setIfInBounds_toArray, List.set_cons_zero, List.set_cons_succ]
          refine held_c 1 fun K hK => ?_
          go_simp
          skip
          refine hK.out _ _ (hHeld) (fun hHeld => ?_)
          clear hK K
          try simp only [Act.put, List.setIfInBounds_toArray, List.set_cons_zero, List.set_cons_succ]
          refine held_c 9 fun K hK => ?_
          (refine step_append_k (by rfl) _ _ _ (by rfl) w3.heap.size 66 i0 (.agg #[.int .i64 0, .int .i64 0, .string ⟨#[]⟩, .slice none 0 0]) 4 56 Tryz.underlying64 hi0 hz0 hs0 (by decide) hb0 rfl (.slice a j c) j (ps.flatMap pCells) (by rfl) (HROW.out w5 HB5.out _) (some ⟨w5.heap.size, 0, none⟩) 1 1 [.int .i64 k5, .int .i64 n5, .string s5, .slice a5 m5 c5] (by rfl) (by rfl) (Or.inr ⟨_, rfl, fun jj uu hu => cell_new w5 #[.int .i64 k5, .int .i64 n5, .string s5, .slice a5 m5 c5] _ jj uu hu⟩) (by simp [Value.oneCell']) (by unfold maxLen; omega) (by omega) (by have := HB5.out.size; have := HZ.out; simp; omega) (j + 1) (ps.flatMap pCells ++ [.int .i64 k5, .int .i64 n5, .string s5, .slice a5 m5 c5]) rfl rfl ?_; intro a7 c7 w7 hown7 hgrow7 hat7; have hkeep : ∀ g, g < w3.heap.size → w7.heap[g]? = w5.heap[g]? := (fun g hg => (hgrow7.block g (by have := HB5.out.size; have := HZ.out; simp; omega) (fun e => by have := (row_in HRW.out.1 e.symm).1; omega)).trans ((bel1' w5 _).block g (by have := HB5.out.size; have := HZ.out; omega))); have HKP := Lib.hid hkeep; have HGR := Lib.hid hgrow7; have HOW := Lib.hid hown7; have HAT := Lib.hid hat7; have r3 : w7.cell? ⟨w2.heap.size, 3, none⟩ = some (.slice a j c) := (by rw [World.cell?_of_block (hkeep _ h2w)]; exact r3); have rf : w7.frozen? ⟨w2.heap.size, 3, none⟩ = false := (by rw [World.frozen?_of_block (hkeep _ h2w)]; exact rf 3); clear hkeep hgrow7 hown7 hat7)
          refine hK.out _ _ (⟨by rw [World.cell?_of_block (HKP.out _ h0w)]; exact cell_later HB5.out t3, by rw [World.cell?_of_block (HKP.out _ hbw)]; exact cell_later HB5.out c0, by rw [World.cell?_of_block (HKP.out _ hbw)]; exact cell_later HB5.out c1, by rw [World.cell?_of_block (HKP.out _ hbw)]; exact cell_later HB5.out c2, by rw [World.cell?_of_block (HKP.out _ hbw)]; exact cell_later HB5.out c3⟩) (fun hHeld => ?_)
          clear hK K
          try simp only [Act.put, List.setIfInBounds_toArray, List.set_cons_zero, List.set_cons_succ]
          first | (refine held_t (i := 10) hHeld ?_; apply Exists.intro; refine ⟨fun wq hq => ?_, ?_⟩; (focus ((try dsimp only at hq); go_simp; (first | done | with_reducible rfl | fail)))) | refine held_s (i := 10) hHeld ?_ | fail
          try simp only [Act.put, List.setIfInBounds_toArray, List.set_cons_zero, List.set_cons_succ]
          refine held_c 11 fun K hK => ?_
          go_simp
          skip
          refine hK.out _ _ (⟨far_one hHeld.1 h13, far_one hHeld.2.1 hbR, far_one hHeld.2.2.1 hbR, far_one hHeld.2.2.2.1 hbR, far_one hHeld.2.2.2.2 hbR⟩) (fun hHeld => ?_)
          clear hK K
          try simp only [Act.put, List.setIfInBounds_toArray, List.set_cons_zero, List.set_cons_succ]
          refine wpAnyH_done (by kernel_rfl) ?_ _
          have hW5 : Below wr.heap.size wr (w5.alloc (.cells #[.int .i64 k5, .int .i64 n5, .string s5, .slice a5 m5 c5] 66)) := Ext.trans' HB5.out (bel1' w5 _)
          have hRW := HRW.out.turn (Turn.below hW5) HO.out.1
          have hpc : pCells (x, .slice a5 m5 c5) = [.int .i64 k5, .int .i64 n5, .string s5, .slice a5 m5 c5] := by unfold pCells; rw [← HEK.out.1, ← HEK.out.2.1, ← HEK.out.2.2]
          have htW : TmV (hide D1 (w5.alloc (.cells #[.int .i64 k5, .int .i64 n5, .string s5, .slice a5 m5 c5] 66))) x (pVal (x, .slice a5 m5 c5)) := by rw [← HEP.out]; exact TmV.later (bel1' w5 _) HV5.out
          have hR7 := hRW.more htW (HO.out.later hW5.size) HGR.out HAT.out (by rw [HPL.out, hpc]; exact HOW.out)
          have hown : ∀ g, (Value.slice a7 (j + 1) c7).ownBlock = some g → g ≠ w2.heap.size := fun g hg e => by have := (row_in HOW.out hg).1; omega
          have HR8 := Lib.hid (hR7.put ⟨w2.heap.size, 3, none⟩ (.slice a7 (j + 1) c7) (withB_of HDR.out.1) hown)
          have HT8 := Lib.hid (((HT.out.trans (Turn.below hW5)).grown HGR.out (fun g hg => by have := (row_in hRW.1 hg).1; omega) HAT.out).set ⟨w2.heap.size, 3, none⟩ (.slice a7 (j + 1) c7) (Or.inl hR))
          have HO8 := Lib.hid (show Okd (withB D1 (.slice a7 (j + 1) c7)) noM (w7.setCell ⟨w2.heap.size, 3, none⟩ (.slice a7 (j + 1) c7)) from ⟨fun k hk => absurd hk (by simp), fun k hk => by
            rw [withB_no (fun e => by have := (row_in HOW.out e).2; simp [World.setCell] at hk; omega)]
            exact HO.out.2 k (by have h1 := HGR.out.size; have h2 := hW5.size; simp [World.setCell] at hk; omega)⟩)
          have HB8 := Lib.hid (((HXR.out.ext HB5.out).block (HKP.out _ h2w) (by have h1 := HGR.out.size; have h2 := hW5.size; have h3 := HXR.out.lt; omega)).set (k := 3) (u := .slice a7 (j + 1) c7) (by simp))
          have HY1 := Lib.hid (((HX1.out.ext HB5.out).block (HKP.out _ h0w) (by have h1 := HGR.out.size; have h2 := hW5.size; have h3 := HX1.out.lt; omega)).far (c := w2.heap.size) (k := 3) (u := .slice a7 (j + 1) c7) h13)
          have HY2 := Lib.hid (((HX2.out.ext HB5.out).block (HKP.out _ h1w) (by have h1 := HGR.out.size; have h2 := hW5.size; have h3 := HX2.out.lt; omega)).far (c := w2.heap.size) (k := 3) (u := .slice a7 (j + 1) c7) h23)
          have HZ8 := Lib.hid (show w3.heap.size ≤ (w7.setCell ⟨w2.heap.size, 3, none⟩ (.slice a7 (j + 1) c7)).heap.size by have h1 := HGR.out.size; have h2 := hW5.size; have := HZ.out; simp [World.setCell]; omega)
          have HP8 := Lib.hid (show (ps ++ [(x, Value.slice a5 m5 c5)]).map (·.1) = ts.take (j + 1) by rw [List.map_append, HTK.out, HPS.out]; rfl)
          clear hRW hpc htW hR7 hown hW5 r0 r1 r2 r3 rf r3' t0 t1 t2 t3 tf c0 c1 c2 c3 hHeld
          go_wp2
          go_roundw
          case rel => exact ⟨_, j + 1, c7, a7, _, hlt, by go_num, by rw [List.length_append, HPL.out]; rfl, HP8, HB8, HR8, HT8, HO8, Lib.hid ⟨withB_of HDR.out.1, withB_of HDR.out.2⟩, HZ8, HY1, HY2⟩
          case measure => simp [intOf]; omega
    · have hjm : j = m := by omega
      subst hjm
      obtain ⟨q0, q1, q2, q3, qf⟩ := HX2.out.four
      go_wp2
      refine bodyPost_ret (v := .agg #[.int .i64 k, .int .i64 n, .string s, .slice a j c]) (by rw [results_cell1 rfl]; go_simp) rfl ⟨_, rfl, ?_, ?_⟩
      · have hT := HT.out.set4 (b := w1.heap.size) (Or.inl hBq) (.int .i64 k) (.int .i64 n) (.string s) (.slice a j c)
        have hT4 := HRW.out
        have hRp : RowY D1 noM (set4 wr w1.heap.size (.int .i64 k) (.int .i64 n) (.string s) (.slice a j c)) w3.heap.size (.slice a j c) ps := by
          have hn : ∀ g, (Value.slice a j c).ownBlock = some g → g ≠ w1.heap.size := fun g hg e => by have := (row_in hT4.1 hg).1; omega
          exact (((hT4.put ⟨w1.heap.size, 0, none⟩ _ HDR.out.2 hn).put ⟨w1.heap.size, 1, none⟩ _ HDR.out.2 hn).put ⟨w1.heap.size, 2, none⟩ _ HDR.out.2 hn).put ⟨w1.heap.size, 3, none⟩ _ HDR.out.2 hn
        have hF := RowY.fin (Nat.le_trans hR (Nat.le_of_lt h23w)) hRp hT (HO.out.put4 _ _ _ _ _) (by rw [HPL.out]; unfold BIG; omega)
        rw [fin_no HD.out, HPS.out, List.take_of_length_le (by rw [HM.out]; exact Nat.le_refl _)] at hF
        exact tmV_iff.2 ⟨_, rfl, HK.out.1, HK.out.2.1, HK.out.2.2, hF⟩
      · exact Below.set4 HBl.out hBq _ _ _ _
theorem own9_at (t : Tm) (D : Nat → Bool) (w : World) (v : Value) (hD : Old D w) (hv : TmV w t v) : Calls Tryz.prog 33 #[v] w fun e w' => ∃ v', e = .returned v' ∧ TmV (hide D w') t v' ∧ Below w.heap.size w w' := by
  suffices h : ∀ N (t : Tm), sizeN t < N → ∀ (D : Nat → Bool) (w : World) (v : Value), Old D w → TmV w t v → Calls Tryz.prog 33 #[v] w fun e w' => ∃ v', e = .returned v' ∧ TmV (hide D w') t v' ∧ Below w.heap.size w w' from
    h _ t (Nat.lt_succ_self _) D w v hD hv
  intro N
  induction N with
  | zero => intro t ht; omega
  | succ N ih => intro t ht D w v hD hv; exact own9_step N ih t ht D w v hD hv
end Go.Proofs.YtljgkfdnmikpfaaGreatDoor
/- What is written is read as it was: the law's walk. -/
namespace Go.Proofs.YtljgkfdnmikpfaaGreatDoor
open Go.Shelf Go.RowKit
set_option linter.unusedVariables false
set_option maxRecDepth 100000

theorem textX_ok {t : List UInt8} (h : t.length ≤ 4096) : textX true t = .tuple #[.string ⟨t.toArray⟩, .int .i64 0] := by
  unfold textX
  rw [if_pos rfl, if_neg (by omega), if_neg (by omega)]
theorem textX_far {t : List UInt8} (h : 4096 < t.length) : textX true t = .tuple #[.string ⟨#[]⟩, .int .i64 3] := by
  unfold textX
  rw [if_pos rfl, if_pos h, if_pos h]
theorem textX_no (t : List UInt8) : textX false t = .tuple #[.string ⟨#[]⟩, .int .i64 1] := rfl
theorem both_true {a b : Bool} (h : (a && b) = true) : a = true ∧ b = true := by simpa using h
end Go.Proofs.YtljgkfdnmikpfaaGreatDoor
