/- Package label: Parse, Text. -/
import Derived.Test.YtpmjpnapokhkaaaLabB
namespace Go.Proofs.Ytpmjpnapokhkaaa
open Go.RowKit

theorem infoStr : (Try.prog.info? 9).map (fun i => (i.zero, i.size, i.bytes)) = some (some (.string ByteArray.empty), 1, 16) := by kernel_rfl
theorem parse_no {n : List (List UInt8)} {s : List UInt8} (h : Lib.hasPrefix s [123] = false ∨ goodNames n = false) : parse n s = (0, false) := by
  unfold parse; rcases h with h | h <;> simp [h]
theorem parse_go {n : List (List UInt8)} {s t r : List UInt8} {l : Nat} (h1 : Lib.hasPrefix s [123] = true) (h2 : goodNames n = true) (ht : Lib.trimPrefix s [123] = t) (h : parseFrom n 0 t 0 = (r, l)) :
    parse n s = if r == [125] then (l, true) else (0, false) := by
  unfold parse; simp [h1, h2, ht, h]
theorem parseFrom_step {n : List (List UInt8)} {k : Nat} {x rest : List UInt8} {l : Nat} (h : n[k]? = some x) :
    parseFrom (n.drop k) k rest l = if (cut rest x (l == 0)).2 then parseFrom (n.drop (k + 1)) (k + 1) (cut rest x (l == 0)).1 (l ||| 2 ^ k) else parseFrom (n.drop (k + 1)) (k + 1) rest l := by
  obtain ⟨hk, rfl⟩ := List.getElem?_eq_some_iff.1 h
  rw [List.drop_eq_getElem_cons hk]
  rfl

set_option maxHeartbeats 400000 in
theorem parse_any {v : Value} {ss : List ByteArray} {w : World} (s : ByteArray) (hs : s.size ≤ 140737488351232) (h : Strs w v ss) :
    Calls Try.prog 5 #[v, .string s] w fun e w' => e = .returned (.tuple #[.int .u64 (parse (ss.map bl) (bl s)).1, .bool (parse (ss.map bl) (bl s)).2]) ∧ w = w' := by
  obtain ⟨P, hP⟩ : ∃ P, parse (ss.map bl) (bl s) = P := ⟨_, rfl⟩
  obtain ⟨pl, pb⟩ := P
  rw [hP]
  have HPP := Lib.hid hP; clear hP
  have hg := @good_any v ss w h
  have HG := Lib.hid hg; clear hg
  obtain ⟨r, hr⟩ := trim_exists (bl s) [123]
  have hrs : r.size ≤ s.size := by rw [← bl_len, ← bl_len, ← hr]; exact Lib.trimPrefix_le _ _
  have HR := Lib.hid hr; clear hr
  have hp123 : bl (⟨#[123]⟩ : ByteArray) = [123] := rfl
  have HP := Lib.hid hp123; clear hp123
  obtain ⟨a, cap, rfl, hlcap, hm, hz, hss, hcells⟩ := h
  have HSS := Lib.hid hss; clear hss
  have hlen : (ss.map bl).length = ss.length := by simp
  have HL := Lib.hid hlen; clear hlen
  cases h0 : Lib.hasPrefix (bl s) [123]
  · have H0 := Lib.hid h0; clear h0
    obtain ⟨rfl, rfl⟩ := Prod.mk.inj (HPP.out.symm.trans (parse_no (Or.inl H0.out)))
    go_enter Try.func5, Try.ntmps5
    go_wp2_with (go_at_call 18; go_fit (cutPrefix_at _ _ r false _ (by rw [HP.out]; exact HR.out) (by rw [HP.out]; exact H0.out)); rintro e w' ⟨rfl, rfl⟩)
    go_ret2
    exact ⟨rfl, rfl⟩
  have H0 := Lib.hid h0; clear h0
  cases h1 : goodNames (ss.map bl)
  · obtain ⟨rfl, rfl⟩ := Prod.mk.inj (HPP.out.symm.trans (parse_no (Or.inr h1)))
    go_enter Try.func5, Try.ntmps5
    go_wp2_with (first | (go_at_call 18; go_fit (cutPrefix_at _ _ r true _ (by rw [HP.out]; exact HR.out) (by rw [HP.out]; exact H0.out)); rintro e w' ⟨rfl, rfl⟩) | (go_at_call 8; refine HG.out.mono ?_; rintro e w' ⟨rfl, rfl⟩))
    go_ret2
    exact ⟨rfl, rfl⟩
  have hn64 : ss.length ≤ 64 := by have := (goodNames_len h1).2; rw [HL.out] at this; exact this
  have hn1 : 1 ≤ ss.length := by have := (goodNames_len h1).1; rw [HL.out] at this; exact this
  have hnm : ∀ x ∈ ss, x.size ≤ 16 := fun x hx => (goodName_len (goodNames_name h1 (List.mem_map_of_mem hx))).2
  have HNM := Lib.hid hnm; clear hnm
  rcases hcells with rfl | ⟨b, off, rfl, hb, hc⟩
  · simp at hn1
  have HC := Lib.hid hc; clear hc
  obtain ⟨R, hR⟩ : ∃ R, parseFrom (ss.map bl) 0 (bl r) 0 = R := ⟨_, rfl⟩
  obtain ⟨rR, lR⟩ := R
  have HPG := Lib.hid (HPP.out.symm.trans (parse_go H0.out h1 HR.out hR)); clear HPP
  have HRR := Lib.hid hR; clear hR
  go_enter Try.func5, Try.ntmps5
  go_wp2_with (first | (go_at_call 18; go_fit (cutPrefix_at _ _ r true _ (by rw [HP.out]; exact HR.out) (by rw [HP.out]; exact H0.out)); rintro e w' ⟨rfl, rfl⟩) | (go_at_call 8; refine HG.out.mono ?_; rintro e w' ⟨rfl, rfl⟩))
  go_loop [6, 8, 27] (fun t l i => ∃ (k : Nat) (q : ByteArray) (m : Nat), k ≤ ss.length ∧ i = .int .i64 k ∧ t = .string q ∧ l = .int .u64 m ∧ q.size ≤ 140737488351232 ∧ m < 2 ^ k ∧ parseFrom ((ss.map bl).drop k) k (bl q) m = (rR, lR)) (fun _ _ i => ss.length - (intOf i).toNat)
  case atStart => exact ⟨0, r, 0, Nat.zero_le _, rfl, rfl, rfl, by omega, by decide, HRR.out⟩
  case round =>
    obtain ⟨k, q, m, hk, rfl, rfl, rfl, hq, hm, hpf⟩ := hrel
    have HPF := Lib.hid hpf; clear hpf
    have HM := Lib.hid hm; clear hm
    by_cases hlt : k < ss.length
    · obtain ⟨x, hx⟩ : ∃ x, ss[k]? = some x := ⟨_, List.getElem?_eq_getElem hlt⟩
      have hcx := HC.out k x hx
      have hsx := HNM.out x (List.mem_of_getElem? hx)
      have hst := @parseFrom_step (ss.map bl) k (bl x) (bl q) m (by simp [hx])
      have HX := Lib.hid hst; clear hst hx
      have hml : m < 18446744073709551616 := by
        have h1 : m < 2 ^ k := HM.out
        have : (2 : Nat) ^ k ≤ 2 ^ 64 := Nat.pow_le_pow_right (by decide) (by omega)
        have : (2 : Nat) ^ 64 = 18446744073709551616 := by decide
        omega
      have hpk : 2 ^ k < 18446744073709551616 := by
        have : (2 : Nat) ^ k ≤ 2 ^ 63 := Nat.pow_le_pow_right (by decide) (by omega)
        have : (2 : Nat) ^ 63 < 18446744073709551616 := by decide
        omega
      have hor := u64_or_nat m (2 ^ k) hml hpk
      have hnx : m ||| 2 ^ k < 2 ^ (k + 1) := Nat.or_lt_two_pow (Nat.lt_of_lt_of_le HM.out (Nat.pow_le_pow_right (by decide) (Nat.le_succ k))) (Nat.pow_lt_pow_right (by decide) (Nat.lt_succ_self k))
      have HNX := Lib.hid (And.intro hnx (Nat.lt_of_lt_of_le HM.out (Nat.pow_le_pow_right (by decide) (Nat.le_succ k)) : m < 2 ^ (k + 1))); clear hnx
      obtain ⟨y, hy, hys, hcut⟩ := cutName_any q x (m == 0) w hq (by omega)
      have HCT := Lib.hid hcut; clear hcut
      have HY := Lib.hid hy; clear hy
      have HPK := Lib.hid hpk; clear hpk
      have hfst : (((m : Nat) : Int) == 0) = (m == 0) := by rw [Bool.eq_iff_iff]; simp
      have HF := Lib.hid hfst; clear hfst
      have hbit := fun w => bit_any k w (by omega)
      have HB := Lib.hid hbit; clear hbit
      have hjn : ∀ (c : Bool) (yy : List UInt8), cut (bl q) (bl x) (m == 0) = (yy, c) → parseFrom (List.drop (k + 1) (ss.map bl)) (k + 1) (if c then yy else bl q) (if c then m ||| 2 ^ k else m) = (rR, lR) := fun c yy e => by
        have h := HX.out; rw [e, HPF.out] at h; cases c <;> exact h.symm
      have HJ := Lib.hid hjn; clear hjn HX
      obtain ⟨C, hC⟩ : ∃ C, cut (bl q) (bl x) (m == 0) = C := ⟨_, rfl⟩
      obtain ⟨yy, c⟩ := C
      have HJ' := Lib.hid (HJ.out c yy hC); clear HJ
      rw [hC] at HCT HY
      clear hC
      generalize 2 ^ k = pk at *
      cases c
      · go_wp2_with (go_at_call 19; rw [HF.out]; refine HCT.out.mono ?_; rintro e w' ⟨rfl, rfl⟩)
        go_round
        case rel => exact ⟨k + 1, q, m, by omega, by go_num, rfl, rfl, hq, HNX.out.2, HJ'.out⟩
        case measure => simp [intOf]; omega
      · go_wp2_with (first | (go_at_call 19; rw [HF.out]; refine HCT.out.mono ?_; rintro e w' ⟨rfl, rfl⟩) | (go_at_call 20; refine (HB.out _).mono ?_; rintro e w' ⟨rfl, rfl⟩))
        go_round
        case rel => exact ⟨k + 1, y, m ||| pk, by omega, by go_num, rfl, rfl, hys, HNX.out.1, by have := HJ'.out; rw [← HY.out] at this; exact this⟩
        case measure => simp [intOf]; omega
    · have hkn : k = ss.length := by omega
      have hfin := Lib.hid (show (bl q, m) = (rR, lR) by have := HPF.out; rw [hkn, List.drop_of_length_le (by simp)] at this; exact this)
      clear hkn
      cases h3 : (q.toList == [125])
      · have hv : (rR == [125]) = false := by have := (Prod.mk.inj hfin.out).1; rw [← this]; rw [Lib.toList_data] at h3; exact h3
        obtain ⟨rfl, rfl⟩ := Prod.mk.inj (show (pl, pb) = (0, false) by have := HPG.out; rw [hv] at this; exact this)
        clear hv HPG
        go_wp2
        go_ret2
        exact ⟨rfl, rfl⟩
      · have hv : (rR == [125]) = true := by have := (Prod.mk.inj hfin.out).1; rw [← this]; rw [Lib.toList_data] at h3; exact h3
        obtain ⟨rfl, rfl⟩ := Prod.mk.inj (show (pl, pb) = (m, true) by have := HPG.out; rw [hv, ← (Prod.mk.inj hfin.out).2] at this; exact this)
        clear hv HPG hfin
        go_wp2
        go_ret2
        exact ⟨rfl, rfl⟩

theorem sel_step {n : List (List UInt8)} {k l : Nat} {x : List UInt8} (h : n[k]? = some x) : sel (n.drop k) l k = if l.testBit k then x :: sel (n.drop (k + 1)) l (k + 1) else sel (n.drop (k + 1)) l (k + 1) := by
  obtain ⟨hk, rfl⟩ := List.getElem?_eq_some_iff.1 h
  rw [List.drop_eq_getElem_cons hk]
  rfl
theorem sel_len : ∀ (n : List (List UInt8)) (l i : Nat), (sel n l i).length ≤ n.length
  | [], _, _ => Nat.le_refl _
  | a :: r, l, i => by have := sel_len r l (i + 1); simp only [sel]; split <;> simp <;> omega
theorem sel_mem : ∀ (n : List (List UInt8)) (l i : Nat), ∀ x ∈ sel n l i, x ∈ n
  | [], _, _, x, h => h
  | a :: r, l, i, x, h => by
    simp only [sel] at h
    split at h
    · rcases List.mem_cons.1 h with rfl | h
      · simp
      · exact List.mem_cons_of_mem _ (sel_mem r l (i + 1) x h)
    · exact List.mem_cons_of_mem _ (sel_mem r l (i + 1) x h)
theorem join_len (xs : List (List UInt8)) (sep : List UInt8) (q : Nat) (h : ∀ x ∈ xs, x.length ≤ q) : (Lib.join xs sep).length ≤ xs.length * (q + sep.length) := by
  unfold Lib.join
  induction xs with
  | nil => simp
  | cons a r ih =>
    have ha := h a (by simp)
    have ih := ih (fun x hx => h x (by simp [hx]))
    cases r with
    | nil => simp; omega
    | cons b r => simp only [List.intercalate_cons_cons, List.length_append, List.length_cons, Nat.add_mul] at ih ⊢; omega

theorem text_no {n : List (List UInt8)} {l : Nat} (h : fits n l = false) : text n l = [] := by simp [text, h]
theorem text_yes {n : List (List UInt8)} {l : Nat} (h : fits n l = true) : text n l = 123 :: (Lib.join (sel n l 0) [44] ++ [125]) := by simp [text, h]

set_option maxHeartbeats 800000 in
theorem text_any {v : Value} {ss : List ByteArray} {w : World} (l : Nat) (hl : l < 18446744073709551616) (h : Strs w v ss) :
    Calls Try.prog 11 #[v, .int .u64 l] w fun e w' => e = .returned (.string ⟨(text (ss.map bl) l).toArray⟩) ∧ Below w.heap.size w w' := by
  have hf := @fits_any v ss w l hl h
  have HF := Lib.hid hf; clear hf
  obtain ⟨a, cap, rfl, hlcap, hm, hz, hss, hcells⟩ := h
  have HSS := Lib.hid hss; clear hss
  have hlen : (ss.map bl).length = ss.length := by simp
  have HL := Lib.hid hlen; clear hlen
  obtain ⟨i0, hi, hz0, hz1, hz2⟩ := info_parts infoStr
  cases h0 : fits (ss.map bl) l
  · rw [text_no h0]
    go_enter Try.func11, Try.ntmps11
    go_wp2_with (go_at_call 9; refine HF.out.mono ?_; rintro e w' ⟨rfl, rfl⟩)
    go_ret
    exact ⟨rfl, Below.refl _ _⟩
  rw [text_yes h0]
  have h1 : goodNames (ss.map bl) = true := by simp [fits] at h0; exact h0.1
  have hn64 : ss.length ≤ 64 := by have := (goodNames_len h1).2; rw [HL.out] at this; exact this
  have hn1 : 1 ≤ ss.length := by have := (goodNames_len h1).1; rw [HL.out] at this; exact this
  have hnm : ∀ x ∈ ss, x.size ≤ 16 := fun x hx => (goodName_len (goodNames_name h1 (List.mem_map_of_mem hx))).2
  have HNM := Lib.hid hnm; clear hnm
  clear h1
  rcases hcells with rfl | ⟨b, off, rfl, hb, hc⟩
  · simp at hn1
  have HC := Lib.hid hc; clear hc
  go_enter Try.func11, Try.ntmps11
  go_wp2_with (go_at_call 9; refine HF.out.mono ?_; rintro e w' ⟨rfl, rfl⟩)
  go_loopw [5, 14] (fun t i wr => ∃ (k : Nat) (ao : Option Addr) (cv : Nat) (ts : List ByteArray), k ≤ ss.length ∧ i = .int .i64 k ∧ t = .slice ao ts.length cv ∧ wr.ownsRow w.heap.size 9 1 t ts.length (ts.map Value.string) ∧ Below w.heap.size w wr ∧
      ts.map bl ++ sel ((ss.map bl).drop k) l k = sel (ss.map bl) l 0) (fun _ i _ => ss.length - (intOf i).toNat)
  case atStart => exact ⟨0, none, 0, [], Nat.zero_le _, rfl, rfl, World.ownsRow_nil _ _ _ _, Below.refl _ _, rfl⟩
  case round =>
    obtain ⟨k, ao, cv, ts, hk, rfl, rfl, hown, hnx, hsel⟩ := hrel
    have hsize := hnx.size
    have hts : ts.length ≤ ss.length := by
      have h1 := congrArg List.length hsel
      have h2 := sel_len (ss.map bl) l 0
      simp at h1 h2; omega
    have HSEL := Lib.hid hsel; clear hsel
    by_cases hlt : k < ss.length
    · obtain ⟨x, hx⟩ : ∃ x, ss[k]? = some x := ⟨_, List.getElem?_eq_getElem hlt⟩
      have hcx := cell_later hnx (HC.out k x hx)
      have hst := @sel_step (ss.map bl) k l (bl x) (by simp [hx])
      have HX := Lib.hid hst; clear hst hx
      cases h2 : l.testBit k
      · have hn := Lib.hid (show ts.map bl ++ sel ((ss.map bl).drop (k + 1)) l (k + 1) = sel (ss.map bl) l 0 by have := HSEL.out; rw [HX.out, h2] at this; exact this)
        go_wp2_with (go_at_call 27; go_fit (has_any _ _ _ hl (by omega)); rintro e w' ⟨rfl, rfl⟩)
        go_roundw
        case rel => exact ⟨k + 1, ao, cv, ts, by omega, by go_num, rfl, hown, hnx, hn.out⟩
        case measure => simp [intOf]; omega
      · have hn := Lib.hid (show (ts ++ [x]).map bl ++ sel ((ss.map bl).drop (k + 1)) l (k + 1) = sel (ss.map bl) l 0 by have := HSEL.out; rw [HX.out, h2] at this; simpa using this)
        go_wp2_with (first
          | (go_at_call 27; go_fit (has_any _ _ _ hl (by omega)); rintro e w' ⟨rfl, rfl⟩)
          | (at_builtin; refine wpList_append_own _ rfl _ _ 22 rfl w.heap.size 9 i0 (.string ByteArray.empty) 1 16 Try.underlying22 hi hz0 hz1 hz2 rfl (by decide) _ _ _ rfl (hown.alloc _) ⟨wr.heap.size, 0, none⟩ 1 1 [.string x] rfl rfl (cell_one_new _ _ _) (fun x hx => by simp at hx; subst hx; rfl) (by unfold maxLen; omega) (by omega) (by simp; omega) ?_; intro v' w3 hown' hgrow3 hnil3))
        go_roundw
        case rel =>
          obtain ⟨g3, cap3, hv3⟩ : ∃ g3 cap3, v' = .slice (some ⟨g3, 0, none⟩) (ts.length + 1) cap3 := by
            rcases hown'.2 with ⟨_, h⟩ | ⟨g3, cap3, _, h, _⟩
            · omega
            · exact ⟨g3, cap3, h⟩
          exact ⟨k + 1, some ⟨g3, 0, none⟩, cap3, ts ++ [x], by omega, by go_num, by rw [hv3]; simp, by rw [List.map_append, List.length_append]; exact hown', (hnx.alloc hsize _).grown hgrow3 (by simp; omega) (fun q hq => (hown.lt q hq).1), hn.out⟩
        case measure => simp [intOf]; omega
    · have hkn : k = ss.length := by omega
      have hfin := Lib.hid (show ts.map bl = sel (ss.map bl) l 0 by have := HSEL.out; rw [hkn, List.drop_of_length_le (by simp)] at this; simpa [sel] using this)
      clear hkn HSEL
      have hbig : (Lib.join (ts.map (·.data.toList)) [44]).length ≤ 140737488355328 := by
        have h1 := join_len (ts.map bl) [44] 16 (fun x hx => by
          rw [hfin.out] at hx
          obtain ⟨y, hy, rfl⟩ := List.mem_map.1 (sel_mem _ _ _ x hx)
          exact HNM.out y hy)
        simp at h1; exact Nat.le_trans h1 (by omega)
      have HBIG := Lib.hid hbig; clear hbig
      have hend : ∀ t : ByteArray, t = ⟨(Lib.join (ts.map (·.data.toList)) [44]).toArray⟩ → (⟨#[123]⟩ : ByteArray) ++ t ++ ⟨#[125]⟩ = ⟨(123 :: (Lib.join (sel (ss.map bl) l 0) [44] ++ [125])).toArray⟩ := fun t h => by
        rw [← hfin.out, h]; apply bl_inj; simp [bl]
      have HEND := Lib.hid hend; clear hend hfin
      have hjs : (⟨(Lib.join (ts.map (·.data.toList)) [44]).toArray⟩ : ByteArray).size ≤ 140737488355328 := by
        have := HBIG.out; rw [← bl_len]; exact this
      obtain ⟨J, hJ⟩ : ∃ J : ByteArray, J = ⟨(Lib.join (ts.map (·.data.toList)) [44]).toArray⟩ := ⟨_, rfl⟩
      rw [← hJ] at hjs
      have HJ := Lib.hid hJ; clear hJ
      rcases owned_strs hown with h0 | ⟨g, rfl, hg1, hg2, hg3, hg4, hg5⟩
      · have hjn : Calls Try.prog 28 #[.slice ao ts.length cv, .string ⟨#[44]⟩] wr fun e w' => e = .returned (.string J) ∧ Below wr.heap.size wr w' :=
          by rw [HJ.out, h0]; exact (Try.strings_Join_none ao cv _ wr).mono fun e w' ⟨h1, h2⟩ => ⟨h1, by rw [h2]; exact Below.refl _ _⟩
        have HJN := Lib.hid hjn; clear hjn h0
        go_wp2_with (go_at_call 28; refine HJN.out.mono ?_; rintro e w4 ⟨rfl, hb4⟩)
        go_ret
        exact ⟨ret_str (HEND.out _ HJ.out), hnx.trans (hb4.mono hsize)⟩
      · have hjn : Calls Try.prog 28 #[.slice (some ⟨g, 0, none⟩) ts.length cv, .string ⟨#[44]⟩] wr fun e w' => e = .returned (.string J) ∧ Below wr.heap.size wr w' := by
          rw [HJ.out]; exact Try.strings_Join g 0 cv ts ⟨#[44]⟩ wr hg5 hg2 (by omega) hg3 HBIG.out
        have HJN := Lib.hid hjn; clear hjn hg5
        go_wp2_with (go_at_call 28; refine HJN.out.mono ?_; rintro e w4 ⟨rfl, hb4⟩)
        go_ret
        exact ⟨ret_str (HEND.out _ HJ.out), hnx.trans (hb4.mono hsize)⟩
end Go.Proofs.Ytpmjpnapokhkaaa
