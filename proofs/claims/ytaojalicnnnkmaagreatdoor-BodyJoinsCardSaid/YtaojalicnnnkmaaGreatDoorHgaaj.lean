import Derived.Test.YtaojalicnnnkmaaGreatDoorHgaai
import Derived.Test.YtaojalicnnnkmaaGreatDoorHgaab
import Derived.Deep.RegionHeld3
import Derived.Test.YtaojalicnnnkmaaGreatDoorHgaaa
import Derived.Test.YtaojalicnnnkmaaGreatDoorHgaah
import Derived.Deep.Quiet
import Derived.Deep.Cut
import Derived.Deep.CutRange
import Derived.Deep.DeepCutAuto
import Derived.Deep.QuietTactic
import Derived.BigQuiet
set_option linter.unusedVariables false
set_option linter.unusedSimpArgs false
/- The project's reader: items. -/
namespace Go.Proofs.YtaojalicnnnkmaaGreatDoor
open Go.Shelf Go.RowKit
set_option linter.unusedVariables false

theorem four_of {w : World} {t : Tm} {v : Value} (h : TmV w t v) : ∃ k n s a m c, v = .agg #[.int .i64 k, .int .i64 n, .string s, .slice a m c] ∧ t.k = k ∧ t.n = n ∧ t.s = s ∧ v = pVal (t, .slice a m c) := by
  cases t with
  | mk k n s ts =>
    obtain ⟨u, rfl, _, _, _, hu⟩ := tmV_iff.1 h
    obtain ⟨a, c, rfl, _⟩ := hu.len
    exact ⟨k, n, s, a, _, c, rfl, rfl, rfl, rfl, rfl⟩
/-- What is still to come, behind what was read. -/
def behindI (acc : List Tm) (X : Out (List Tm)) : Out (List Tm) := match X with
  | none => none
  | some (l, s) => some (acc ++ l, s)
set_option maxHeartbeats 4000000 in
theorem ritems_at {xs : List O} {n : Nat} (ih : IHT xs n) {D M : Nat → Bool} {w : World} {rb : Nat} {s : RS} (h : St D M w rb xs s) (hlt : s.rest.length < n) :
    Calls Tryz.prog 116 #[.pointer (some ⟨rb, 0, none⟩)] w (IPost D M w rb xs (ITEMS (preO xs) (betO xs) s)) := by
  obtain ⟨X, hX⟩ : ∃ X, ITEMS (preO xs) (betO xs) s = X := ⟨_, rfl⟩
  rw [hX]
  have hX0 : behindI [] (ITEMS (preO xs) (betO xs) s) = X := by rw [hX]; cases X <;> rfl
  obtain ⟨i0, hi0, hz0, hs0, hb0⟩ := info_parts infoTerm
  have HX0 := Lib.hid hX0
  have HS := Lib.hid h
  have HM0 := Lib.hid h.md
  have hlen := h.nice.1
  have HI := Lib.hid ih
  have HLT := Lib.hid hlt
  clear h hX hX0 ih hlt
  go_enter Tryz.func116, Tryz.ntmps116
  go_wp2_with fail
  go_loopw [4] (fun v wr => ∃ (D1 M1 : Nat → Bool) (s1 : RS) (ps : List TmP) (a : Option Addr) (m c : Nat), v = .slice a m c ∧ ps.length = m ∧ m + s1.rest.length ≤ 2000 ∧ Hid (s1.rest.length < n) ∧ Hid (St D1 M1 wr rb xs s1) ∧ Hid (Row D1 M1 wr w.heap.size v ps) ∧ Hid (Turn D M D1 M1 w wr) ∧ Hid (behindI (ps.map (·.1)) (ITEMS (preO xs) (betO xs) s1) = X))
    (fun v wr => 2001 - (match v with | .slice _ m _ => m | _ => 0))
  case atStart => exact ⟨D, M, s, [], none, 0, 0, rfl, rfl, by omega, HLT, HS, Lib.hid (Row.none _ _ _ _), Lib.hid (Turn.refl _ _ _), HX0⟩
  case round =>
    obtain ⟨D1, M1, s1, ps, a, m, c, rfl, hpm, hms, HL1, HS1, HR1, HT1, HXX⟩ := hrel
    have HC := Lib.hid (HI.out D1 M1 wr rb s1 999 HS1.out HL1.out)
    have HPM := Lib.hid hpm
    clear hpm
    (go_wp2_with fail; go_fit (HC.out); rintro e w1 ⟨D2, M2, t, v, lv, ok, rfl, htv, ht2, hok2, hokx, hsome⟩)
    obtain ⟨k4, n4, s4, a4, m4, c4, rfl, ek, en, es, ep⟩ := four_of htv
    have HTV := Lib.hid htv
    have HEP := Lib.hid ep
    have HEK := Lib.hid (And.intro ek (And.intro en es))
    have HT2 := Lib.hid ht2
    have HK2 := Lib.hid hok2
    have HR2 := Lib.hid (HR1.out.turn ht2 HS1.out.md)
    have HSM := Lib.hid hsome
    obtain ⟨w2, hw2, hb2, hz2, hx2⟩ := box_new w1 #[.int .i64 k4, .int .i64 n4, .string s4, .slice a4 m4 c4] 31
    have HB2 := Lib.hid hb2
    obtain ⟨d0, d1, d2, d3, df⟩ := hx2.four
    clear htv ek en es ep ht2 hok2 hsome hb2 hx2 hz2 HC
    cases hX1 : TERMX xs 999 s1 with
    | none =>
      have hok : ok = false := by rw [hokx, hX1]; rfl
      subst hok
      have HN := Lib.hid (show X = none by rw [← HXX.out, ITEMS_none hX1]; rfl)
      clear hX1 hokx
      go_wp2_with fail
      (try rw [hw2])
      clear hw2
      go_wp2
      go_ret2
      have hT := HT1.out.trans (HT2.out.trans (Turn.below HB2.out))
      have hO : Okd D2 M2 w2 := ⟨HK2.out.1, HK2.out.2.mono HB2.out.size⟩
      exact ⟨_, M2, [], _, false, rfl, Tms.nil _, fin_turn hT, fin_okd hT hO HM0.out, by rw [HN.out]; rfl, fun p s' hp => by rw [HN.out] at hp; cases hp⟩
    | some q =>
      obtain ⟨⟨tq, lq⟩, s2⟩ := q
      have hok : ok = true := by rw [hokx, hX1]; rfl
      subst hok
      obtain ⟨rfl, rfl, hs2⟩ := HSM.out _ _ hX1
      have hsh := TERM_shr _ _ _ _ hX1
      have hm2000 : m ≤ 2000 := by omega
      have HW := Lib.hid (HR2.out.turn (Turn.below (Ext.trans' HB2.out (bel1' w2 (.cells #[.int .i64 k4, .int .i64 n4, .string s4, .slice a4 m4 c4] 31)))) HK2.out.1)
      have HS2 := Lib.hid (hs2.later (Ext.trans' HB2.out (bel1' w2 (.cells #[.int .i64 k4, .int .i64 n4, .string s4, .slice a4 m4 c4] 31))))
      have HX1 := Lib.hid hX1
      have hwz : w.heap.size ≤ (w2.alloc (.cells #[.int .i64 k4, .int .i64 n4, .string s4, .slice a4 m4 c4] 31)).heap.size := by have h1 := HT1.out.size; have h2 := HT2.out.size; have h3 := HB2.out.size; simp; omega
      have HSH := Lib.hid hsh
      have hrow : (w2.alloc (.cells #[.int .i64 k4, .int .i64 n4, .string s4, .slice a4 m4 c4] 31)).ownsRow w.heap.size 31 4 (.slice a m c) m (ps.flatMap pCells) := by have h := HW.out.1; unfold RowP at h; rw [HPM.out] at h; exact h
      have HROW := Lib.hid hrow
      clear hX1 hokx hs2 hsh hrow
      go_wp2_with (first
        | (at_builtin; (try rw [hw2]); refine wpList_append_k rfl _ _ 29 rfl w.heap.size 31 i0 (.agg #[.int .i64 0, .int .i64 0, .string ⟨#[]⟩, .slice none 0 0]) 4 56 Tryz.underlying29 hi0 hz0 hs0 (by decide) hb0 rfl (.slice a m c) m (ps.flatMap pCells) rfl HROW.out (some ⟨w2.heap.size, 0, none⟩) 1 1 [.int .i64 k4, .int .i64 n4, .string s4, .slice a4 m4 c4] rfl rfl (Or.inr ⟨_, rfl, fun j u hu => cell_new w2 #[.int .i64 k4, .int .i64 n4, .string s4, .slice a4 m4 c4] _ j u hu⟩) (by simp [Value.oneCell']) (by unfold maxLen; omega) (by omega) hwz (m + 1) (ps.flatMap pCells ++ [.int .i64 k4, .int .i64 n4, .string s4, .slice a4 m4 c4]) rfl rfl ?_; intro a7 c7 w7 hown7 hgrow7 hat7))
      have hWo : Okd D2 M2 (w2.alloc (.cells #[.int .i64 k4, .int .i64 n4, .string s4, .slice a4 m4 c4] 31)) := HS2.out.okd
      have hTW := HT1.out.trans (HT2.out.trans (Turn.below (Ext.trans' HB2.out (bel1' w2 (.cells #[.int .i64 k4, .int .i64 n4, .string s4, .slice a4 m4 c4] 31)))))
      have hpc : pCells (t, .slice a4 m4 c4) = [.int .i64 k4, .int .i64 n4, .string s4, .slice a4 m4 c4] := by unfold pCells; rw [← HEK.out.1, ← HEK.out.2.1, ← HEK.out.2.2]
      have htW : TmV (hide D2 (w2.alloc (.cells #[.int .i64 k4, .int .i64 n4, .string s4, .slice a4 m4 c4] 31))) t (pVal (t, .slice a4 m4 c4)) := by
        rw [← HEP.out]; exact TmV.later (Ext.trans' HB2.out (bel1' w2 _)) HTV.out
      have hS7 := HS2.out.grown hgrow7 HW.out.2.1 hat7 hown7
      have hR7 := HW.out.more htW hWo hgrow7 hat7 (by rw [HPM.out, hpc]; exact hown7)
      have hT7 := hTW.grown hgrow7 (fun g hg => (row_in HROW.out hg).1) hat7
      have HTK := Lib.hid (takes_at hS7 [44])
      have HS7 := Lib.hid hS7
      have HR7 := Lib.hid hR7
      have HT7 := Lib.hid hT7
      clear hWo hTW hpc htW hS7 hR7 hT7 hown7 hgrow7 hat7 hwz d0 d1 d2 d3 df hw2
      obtain ⟨D3, hD3⟩ : ∃ D3, withB D2 (.slice a7 (m + 1) c7) = D3 := ⟨_, rfl⟩
      rw [hD3] at HTK HS7 HR7 HT7
      clear hD3
      cases hmk : isMark [44] (headR s2) with
      | false =>
        rw [hmk] at HTK
        have hno := takesR_no hmk
        rw [hno.2] at HTK
        have HN := Lib.hid (show X = some (ps.map (·.1) ++ [t], s2) by rw [← HXX.out, ITEMS_last HX1.out hno.1]; rfl)
        clear hno hmk
        (go_wp2_with fail; go_fit (HTK.out); rintro e w8 ⟨rfl, hS8, hT8⟩)
        have HS8 := Lib.hid hS8
        have HT8 := Lib.hid hT8
        clear hS8 hT8
        go_wp2
        go_ret2
        have hT := HT7.out.trans HT8.out
        have hR := HR7.out.turn HT8.out HS7.out.md
        have hF := hR.fin hT HS8.out.okd (by rw [List.length_append, HPM.out, List.length_singleton]; omega)
        rw [List.map_append] at hF
        exact ⟨_, M2, _, _, true, rfl, hF, fin_turn hT, fin_okd hT HS8.out.okd HM0.out, by rw [HN.out]; rfl, fun p s' hp => by
          rw [HN.out] at hp
          cases hp
          exact ⟨rfl, HS8.out.fin hT HM0.out⟩⟩
      | true =>
        rw [hmk] at HTK
        have hy := takesR_yes hmk
        have hmore := ITEMS_more HX1.out hy
        have hxx : behindI ((ps ++ [(t, Value.slice a4 m4 c4)]).map (·.1)) (ITEMS (preO xs) (betO xs) (takesS [44] s2)) = X := by
          rw [← HXX.out, hmore.1, List.map_append]
          cases ITEMS (preO xs) (betO xs) (takesS [44] s2) with
          | none => rfl
          | some r => simp [behindI]
        have hl3 := hmore.2
        have HXX3 := Lib.hid hxx
        have HL3 := Lib.hid (show (takesS [44] s2).rest.length < n by have := HL1.out; omega)
        have hms3 : m + 1 + (takesS [44] s2).rest.length ≤ 2000 := by omega
        clear hy hmore hxx hmk hl3
        (go_wp2_with fail; go_fit (HTK.out); rintro e w8 ⟨rfl, hS8, hT8⟩)
        have HS8 := Lib.hid hS8
        have HT8 := Lib.hid (HT7.out.trans hT8)
        have HR8 := Lib.hid (HR7.out.turn hT8 HS7.out.md)
        clear hS8 hT8
        go_wp2
        go_roundw
        case rel => exact ⟨D3, M2, _, ps ++ [(t, Value.slice a4 m4 c4)], a7, m + 1, c7, rfl, by rw [List.length_append, HPM.out]; rfl, hms3, HL3, HS8, HR8, HT8, HXX3⟩
        case measure => simp; omega
end Go.Proofs.YtaojalicnnnkmaaGreatDoor
/- The project's reader: what is left in the end; list. -/
namespace Go.Proofs.YtaojalicnnnkmaaGreatDoor
open Go.Shelf Go.RowKit
set_option linter.unusedVariables false
theorem TmV.put4 {D : Nat → Bool} {w : World} {t : Tm} {v : Value} (h : TmV (hide D w) t v) {b : Nat} (hd : D b = true) (u0 u1 u2 u3 : Value) : TmV (hide D (set4 w b u0 u1 u2 u3)) t v :=
  TmV.stay ((((Stays.set ⟨b, 0, none⟩ u0 hd).trans (Stays.set ⟨b, 1, none⟩ u1 hd)).trans (Stays.set ⟨b, 2, none⟩ u2 hd)).trans (Stays.set ⟨b, 3, none⟩ u3 hd)) t v h
theorem Tms.put4 {D : Nat → Bool} {w : World} {t : List Tm} {v : Value} (h : Tms (hide D w) v t) {b : Nat} (hd : D b = true) (u0 u1 u2 u3 : Value) : Tms (hide D (set4 w b u0 u1 u2 u3)) v t :=
  h.stay ((((Stays.set ⟨b, 0, none⟩ u0 hd).trans (Stays.set ⟨b, 1, none⟩ u1 hd)).trans (Stays.set ⟨b, 2, none⟩ u2 hd)).trans (Stays.set ⟨b, 3, none⟩ u3 hd))
theorem Okd.later {D M : Nat → Bool} {w w' : World} (h : Okd D M w) (hb : w.heap.size ≤ w'.heap.size) : Okd D M w' := ⟨h.1, h.2.mono hb⟩
theorem Okd.put4 {D M : Nat → Bool} {w : World} (h : Okd D M w) (b : Nat) (u0 u1 u2 u3 : Value) : Okd D M (set4 w b u0 u1 u2 u3) := h.later (by simp [World.setCell])
theorem Okd.box {D M : Nat → Bool} {w w' : World} (h : Okd D M w) (hb : w.heap.size ≤ w'.heap.size) {b : Nat} (hlt : b < w'.heap.size) : Okd (plusB D b) M w' :=
  ⟨fun k hk => plusB_of (h.1 k hk), fun k hk => (plusB_ne (by omega)).trans (h.2 k (Nat.le_trans hb hk))⟩
theorem Turn.into2 {D M D1 M1 : Nat → Bool} {w w1 w2 : World} (ht : Turn D M D1 M1 w w1) (hb : Below w1.heap.size w1 w2) {b : Nat} (hn : w1.heap.size ≤ b) : Turn D M (plusB D1 b) M1 w w2 := ht.trans (Turn.into hb hn)
theorem TmV.box {D : Nat → Bool} {w w' : World} {t : Tm} {v : Value} (h : TmV (hide D w) t v) (hb : Below w.heap.size w w') {b : Nat} (hn : w.heap.size ≤ b) : TmV (hide (plusB D b) w') t v :=
  TmV.stay (Stays.below hb fun k hk hd => (plusB_ne (by omega)).trans hd) t v h
theorem Tms.box {D : Nat → Bool} {w w' : World} {t : List Tm} {v : Value} (h : Tms (hide D w) v t) (hb : Below w.heap.size w w') {b : Nat} (hn : w.heap.size ≤ b) : Tms (hide (plusB D b) w') v t :=
  h.stay (Stays.below hb fun k hk hd => (plusB_ne (by omega)).trans hd)
theorem Box.far4 {w : World} {b c : Nat} {vs : List Value} (h : Box w b vs) (hne : b ≠ c) (u0 u1 u2 u3 : Value) : Box (set4 w c u0 u1 u2 u3) b vs := (((h.far hne).far hne).far hne).far hne
theorem Box.all4 {w : World} {b : Nat} {v0 v1 v2 v3 : Value} (h : Box w b [v0, v1, v2, v3]) (u0 u1 u2 u3 : Value) : Box (set4 w b u0 u1 u2 u3) b [u0, u1, u2, u3] :=
  (((h.set (k := 0) (by simp)).set (k := 1) (by simp)).set (k := 2) (by simp)).set (k := 3) (by simp)
section
variable {D M D1 M1 : Nat → Bool} {w w1 : World} {rb b : Nat} {xs : List O} {t : Tm} {v u0 u1 u2 u3 : Value}
theorem bdone_none (ht : Turn D M D1 M1 w w1) (ho : Okd D1 M1 w1) (md : ∀ k, M k = true → D k = true) (hb : w.heap.size ≤ b) (hd : D1 b = true) (h : TmV (hide D1 w1) t v) {X : Out Tm} (hX : X = none) :
    BPost D M w rb xs X (.returned (.tuple #[v, .bool false])) (set4 w1 b u0 u1 u2 u3) := by
  subst hX
  have hT := ht.set4 (b := b) (Or.inl hb) u0 u1 u2 u3
  have hO := ho.put4 b u0 u1 u2 u3
  exact ⟨_, M1, t, v, false, rfl, (h.put4 hd u0 u1 u2 u3).fin hT hO, fin_turn hT, fin_okd hT hO md, rfl, fun p s' hp => by cases hp⟩
theorem bdone_some {s' : RS} (ht : Turn D M D1 M1 w w1) (hs : St D1 M1 w1 rb xs s') (md : ∀ k, M k = true → D k = true) (hb : w.heap.size ≤ b) (hd : D1 b = true) (hm : M1 b = false) (h : TmV (hide D1 w1) t v) {X : Out Tm} (hX : X = some (t, s')) :
    BPost D M w rb xs X (.returned (.tuple #[v, .bool true])) (set4 w1 b u0 u1 u2 u3) := by
  subst hX
  have hT := ht.set4 (b := b) (Or.inl hb) u0 u1 u2 u3
  have hO := hs.okd.put4 b u0 u1 u2 u3
  exact ⟨_, M1, t, v, true, rfl, (h.put4 hd u0 u1 u2 u3).fin hT hO, fin_turn hT, fin_okd hT hO md, rfl, fun p s'' hp => by
    cases hp
    exact ⟨rfl, (hs.put4 hd hm u0 u1 u2 u3).fin hT md⟩⟩
theorem tdone_none {lv : Int} (ht : Turn D M D1 M1 w w1) (ho : Okd D1 M1 w1) (md : ∀ k, M k = true → D k = true) (hb : w.heap.size ≤ b) (hd : D1 b = true) (h : TmV (hide D1 w1) t v) {X : Out TL} (hX : X = none) :
    TPost D M w rb xs X (.returned (.tuple #[v, .int .i64 lv, .bool false])) (set4 w1 b u0 u1 u2 u3) := by
  subst hX
  have hT := ht.set4 (b := b) (Or.inl hb) u0 u1 u2 u3
  have hO := ho.put4 b u0 u1 u2 u3
  exact ⟨_, M1, t, v, lv, false, rfl, (h.put4 hd u0 u1 u2 u3).fin hT hO, fin_turn hT, fin_okd hT hO md, rfl, fun p s' hp => by cases hp⟩
theorem tdone_some {lv : Int} {s' : RS} (ht : Turn D M D1 M1 w w1) (hs : St D1 M1 w1 rb xs s') (md : ∀ k, M k = true → D k = true) (hb : w.heap.size ≤ b) (hd : D1 b = true) (hm : M1 b = false) (h : TmV (hide D1 w1) t v) {X : Out TL} (hX : X = some ((t, lv), s')) :
    TPost D M w rb xs X (.returned (.tuple #[v, .int .i64 lv, .bool true])) (set4 w1 b u0 u1 u2 u3) := by
  subst hX
  have hT := ht.set4 (b := b) (Or.inl hb) u0 u1 u2 u3
  have hO := hs.okd.put4 b u0 u1 u2 u3
  exact ⟨_, M1, t, v, lv, true, rfl, (h.put4 hd u0 u1 u2 u3).fin hT hO, fin_turn hT, fin_okd hT hO md, rfl, fun p s'' hp => by
    cases hp
    exact ⟨rfl, rfl, (hs.put4 hd hm u0 u1 u2 u3).fin hT md⟩⟩
end
theorem tail_none {xs : List O} {s : RS} (h : ITEMS (preO xs) (betO xs) s = none) : rowR (TERMX xs) s = none := by rw [rowR_eq, h]
theorem tail_bad {xs : List O} {s s1 : RS} {l : List Tm} (h : ITEMS (preO xs) (betO xs) s = some (l, s1)) (h2 : tailR (TERMX xs) s1 = none) : rowR (TERMX xs) s = none := by rw [rowR_eq, h]; simp only [h2]
theorem tail_open {xs : List O} {s s1 s2 : RS} {l : List Tm} {t : Tm} (h : ITEMS (preO xs) (betO xs) s = some (l, s1)) (h2 : tailR (TERMX xs) s1 = some (t, s2)) (h3 : isMark [93] (headR s2) = false) : rowR (TERMX xs) s = none := by rw [rowR_eq, h]; simp only [h2, (takesR_no h3).1]
theorem tail_done {xs : List O} {s s1 s2 : RS} {l : List Tm} {t : Tm} (h : ITEMS (preO xs) (betO xs) s = some (l, s1)) (h2 : tailR (TERMX xs) s1 = some (t, s2)) (h3 : isMark [93] (headR s2) = true) : rowR (TERMX xs) s = some (listT l t, takesS [93] s2) := by rw [rowR_eq, h]; simp only [h2, takesR_yes h3]
set_option maxHeartbeats 4000000 in
theorem list_at {xs : List O} {n : Nat} (ih : IHT xs n) {D M : Nat → Bool} {w : World} {rb : Nat} {s : RS} (h : St D M w rb xs s) (hlt : s.rest.length < n) :
    Calls Tryz.prog 123 #[.pointer (some ⟨rb, 0, none⟩)] w (BPost D M w rb xs (rowR (TERMX xs) s)) := by
  obtain ⟨X, hX⟩ : ∃ X, rowR (TERMX xs) s = X := ⟨_, rfl⟩
  rw [hX]
  have HXX := Lib.hid hX
  obtain ⟨w1, hw1, hb1, hz1, hx1⟩ := box_new w #[.int .i64 0, .int .i64 0, .string ⟨#[]⟩, .slice none 0 0] 31
  have h1 := h.box hb1 (Nat.le_refl _) hx1.lt
  have HMd := Lib.hid h.md
  have HMB := Lib.hid (Old.out h (Nat.le_refl _))
  have HT1 := Lib.hid (Turn.into (D := D) (M := M) hb1 (Nat.le_refl _))
  have HI := Lib.hid (ritems_at ih h1 hlt)
  have HB1 := Lib.hid hb1
  have HX1 := Lib.hid hx1
  have HIH := Lib.hid ih
  have HLT := Lib.hid hlt
  clear h hX hlt ih h1 hx1 hb1 hz1
  go_enter Tryz.func123, Tryz.ntmps123
  go_wp2_with fail
  (try rw [hw1])
  clear hw1
  (go_wp2_with fail; go_fit (HI.out); rintro e w2 ⟨D2, M2, l, v, ok, rfl, hl2, ht2, ho2, hok2, hsm2⟩)
  obtain ⟨a2, c2, rfl, _⟩ := hl2.len
  obtain ⟨m2, hm2⟩ : ∃ m, l.length = m := ⟨_, rfl⟩
  rw [hm2] at hl2
  have HL2 := Lib.hid hl2
  have HO2 := Lib.hid ho2
  have HT2 := Lib.hid (HT1.out.trans ht2)
  have HX2 := Lib.hid (HX1.out.turn ht2 HMB.out)
  have hd2B : D2 w.heap.size = true := (ht2.dd _ HX1.out.lt).trans (plusB_self D _)
  have hm2B : M2 w.heap.size = false := (ht2.mm _ HX1.out.lt).trans HMB.out
  have HDB := Lib.hid hd2B
  have HMB2 := Lib.hid hm2B
  have HSM := Lib.hid hsm2
  have HOK := Lib.hid hok2
  simp only [hm2]
  clear hl2 ho2 ht2 hd2B hm2B hsm2 hok2 hm2 HI
  (go_wp2_with fail; go_fit (atom_at _ _); rintro e w3 ⟨rfl, hb3⟩)
  obtain ⟨w4, hw4, hb4, hz4, hx4⟩ := box_new w3 #[.int .i64 2, .int .i64 0, .string ⟨#[91, 93]⟩, .slice none 0 0] 31
  have HW4 := Lib.hid hw4
  have hb24 := Ext.trans' hb3 hb4
  have HB24 := Lib.hid hb24
  have hBT : w.heap.size < w3.heap.size := by have h1 := HX2.out.lt; have h2 := hb3.size; omega
  have hT2 : w2.heap.size ≤ w3.heap.size := hb3.size
  have HL4 := Lib.hid (HL2.out.box hb24 hT2)
  have HO4 := Lib.hid (HO2.out.box hb24.size hx4.lt)
  have HT4 := Lib.hid (HT2.out.into2 hb24 hT2)
  have HX4 := Lib.hid (HX2.out.ext hb24)
  have HXT := Lib.hid hx4
  have HDB4 := Lib.hid (plusB_of (b := w3.heap.size) HDB.out)
  have hMT : M2 w3.heap.size = false := by
    cases hm : M2 w3.heap.size with
    | false => rfl
    | true => have := HO2.out.1 _ hm; rw [HO2.out.2 _ hT2] at this; cases this
  have HMT := Lib.hid hMT
  have HAT := Lib.hid (show TmV (hide (plusB D2 w3.heap.size) w4) (aT [91, 93]) (.agg #[.int .i64 2, .int .i64 0, .string ⟨#[91, 93]⟩, .slice none 0 0]) from leaf_tm _ i64_2 i64_0 (by decide))
  obtain ⟨t0, t1, t2, t3, tf⟩ := hx4.four
  have hneB : w.heap.size ≠ w3.heap.size := by omega
  clear hb3 hb4 hb24 hz4 hx4 hMT hw4 t0 t1 t2 t3 tf
  cases hI : ITEMS (preO xs) (betO xs) s with
  | none =>
    obtain rfl : ok = false := by rw [HOK.out, hI]; rfl
    have HI2 := Lib.hid hI
    clear hI
    have HD4B := HDB4
    go_wp2_with fail
    (try rw [HW4.out])
    have HN := Lib.hid (show X = none by rw [← HXX.out]; exact tail_none HI2.out)
    obtain ⟨t0, t1, t2, t3, tf⟩ := HXT.out.four
    (go_wp2_with fail; go_fit (list_in HO4.out.2 HL4.out HAT.out); rintro e w9 ⟨r9, rfl, hr9, hb9⟩)
    obtain ⟨k9, n9, s9, a9, m9, c9, rfl⟩ := hr9.full
    obtain ⟨r0, r1, r2, r3, rf⟩ := (HX4.out.ext hb9).four
    have HR9 := Lib.hid hr9
    have HB9 := Lib.hid hb9
    clear hr9 hb9 t0 t1 t2 t3 tf
    go_wp2
    refine bodyPost_ret (v := .tuple #[.agg #[.int .i64 k9, .int .i64 n9, .string s9, .slice a9 m9 c9], .bool false]) (by rw [results_cell_tmp rfl]; go_simp) rfl ?_
    exact bdone_none (HT4.out.trans (Turn.below HB9.out)) (HO4.out.later HB9.out.size) HMd.out (Nat.le_refl _) HD4B.out HR9.out HN.out
  | some q =>
    obtain ⟨l', s1⟩ := q
    obtain rfl : ok = true := by rw [HOK.out, hI]; rfl
    obtain ⟨rfl, hs1⟩ := HSM.out _ _ hI
    have HI2 := Lib.hid hI
    have hs4 := (hs1.box HB24.out hT2 HXT.out.lt)
    have hshI : s1.rest.length < s.rest.length := items_shr TERM_shr _ _ _ _ hI
    have HSHI := Lib.hid hshI
    have HTKb := Lib.hid (takes_at hs4 [124])
    have HS4 := Lib.hid hs4
    clear hI hs1 hs4 hshI
    cases hbar : isMark [124] (headR s1) with
    | false =>
      rw [hbar] at HTKb
      have hno := takesR_no hbar
      have HTL := Lib.hid (show tailR (TERMX xs) s1 = some (aT [91, 93], s1) by unfold tailR; rw [hno.1])
      rw [hno.2] at HTKb
      clear hno hbar
      go_wp2_with fail
      (try rw [HW4.out])
      (go_wp2_with fail; go_fit (HTKb.out); rintro e w5 ⟨rfl, hs5, ht5⟩)
      have HS5 := Lib.hid hs5
      have HT5 := Lib.hid (HT4.out.trans ht5)
      have HL5 := Lib.hid (HL4.out.stay (ht5.stays HO4.out.1))
      have HV5 := Lib.hid (TmV.stay (ht5.stays HO4.out.1) _ _ HAT.out)
      have HX5 := Lib.hid (HX4.out.turn ht5 HMB2.out)
      have HXT5 := Lib.hid (HXT.out.turn ht5 HMT.out)
      have HD5B := HDB4
      have HM5B := HMB2
      clear hs5 ht5
      obtain ⟨t0, t1, t2, t3, tf⟩ := HXT5.out.four
      (go_wp2_with fail; go_fit (list_in HS5.out.old HL5.out HV5.out); rintro e w9 ⟨r9, rfl, hr9, hb9⟩)
      obtain ⟨k9, n9, s9, a9, m9, c9, rfl⟩ := hr9.full
      have HR9 := Lib.hid hr9
      have HB9 := Lib.hid hb9
      have hs9 := HS5.out.later hb9
      have HTK := Lib.hid (takes_at hs9 [93])
      have HX9 := Lib.hid (HX5.out.ext hb9)
      have HT9 := Lib.hid (HT5.out.trans (Turn.below hb9))
      have HMDs := Lib.hid hs9.md
      clear hr9 hb9 t0 t1 t2 t3 tf hs9
      cases hmk : isMark [93] (headR s1) with
      | false =>
        rw [hmk] at HTK
        have HN := Lib.hid (HXX.out.symm.trans (tail_open HI2.out HTL.out hmk))
        clear hmk
        (go_wp2_with fail; go_fit (HTK.out); rintro e w10 ⟨rfl, hs10, ht10⟩)
        obtain ⟨r0, r1, r2, r3, rf⟩ := (HX9.out.turn ht10 HM5B.out).four
        have HS10 := Lib.hid hs10
        have HT10 := Lib.hid ht10
        clear hs10 ht10
        go_wp2
        refine bodyPost_ret (v := .tuple #[.agg #[.int .i64 k9, .int .i64 n9, .string s9, .slice a9 m9 c9], .bool false]) (by rw [results_cell_tmp rfl]; go_simp) rfl ?_
        exact bdone_none (HT9.out.trans HT10.out) HS10.out.okd HMd.out (Nat.le_refl _) HD5B.out (TmV.stay (HT10.out.stays HMDs.out) _ _ HR9.out) HN.out
      | true =>
        rw [hmk] at HTK
        have HN := Lib.hid (HXX.out.symm.trans (tail_done HI2.out HTL.out hmk))
        clear hmk
        (go_wp2_with fail; go_fit (HTK.out); rintro e w10 ⟨rfl, hs10, ht10⟩)
        obtain ⟨r0, r1, r2, r3, rf⟩ := (HX9.out.turn ht10 HM5B.out).four
        have HS10 := Lib.hid hs10
        have HT10 := Lib.hid ht10
        clear hs10 ht10
        go_wp2
        refine bodyPost_ret (v := .tuple #[.agg #[.int .i64 k9, .int .i64 n9, .string s9, .slice a9 m9 c9], .bool true]) (by rw [results_cell_tmp rfl]; go_simp) rfl ?_
        exact bdone_some (HT9.out.trans HT10.out) HS10.out HMd.out (Nat.le_refl _) HD5B.out HM5B.out (TmV.stay (HT10.out.stays HMDs.out) _ _ HR9.out) HN.out
    | true =>
      rw [hbar] at HTKb
      have hy := takesR_yes hbar
      have HY := Lib.hid hy
      have hlt5 : (takesS [124] s1).rest.length < n := by have h1 := (takes_lt hy).2; have h2 := HLT.out; have h3 := HSHI.out; omega
      have HLT5 := Lib.hid hlt5
      clear hy hbar hlt5
      go_wp2_with fail
      (try rw [HW4.out])
      (go_wp2_with fail; go_fit (HTKb.out); rintro e w5 ⟨rfl, hs5, ht5⟩)
      have HTM := Lib.hid (HIH.out _ _ _ rb _ 999 hs5 HLT5.out)
      have HS5 := Lib.hid hs5
      have HT5 := Lib.hid (HT4.out.trans ht5)
      have HL5 := Lib.hid (HL4.out.stay (ht5.stays HO4.out.1))
      have HX5 := Lib.hid (HX4.out.turn ht5 HMB2.out)
      have HXT5 := Lib.hid (HXT.out.turn ht5 HMT.out)
      clear hs5 ht5
      (go_wp2_with fail; go_fit (HTM.out); rintro e w6 ⟨D6, M6, t6, v6, lv6, ok6, rfl, htv6, ht6, ho6, hok6, hsm6⟩)
      obtain ⟨k6, n6, s6, a6, m6, c6, rfl⟩ := htv6.full
      have hB5 := HX5.out.lt
      have hT5 := HXT5.out.lt
      have HD6B := Lib.hid ((ht6.dd _ hB5).trans HDB4.out)
      have HM6B := Lib.hid ((ht6.mm _ hB5).trans HMB2.out)
      have HD6T := Lib.hid ((ht6.dd _ hT5).trans (plusB_self D2 _))
      have HM6T := Lib.hid ((ht6.mm _ hT5).trans HMT.out)
      have HX6 := Lib.hid (HX5.out.turn ht6 HMB2.out)
      have HXT6 := Lib.hid (HXT5.out.turn ht6 HMT.out)
      have HT6 := Lib.hid ((HT5.out.trans ht6).set4 (b := w3.heap.size) (Or.inl (Nat.le_of_lt hBT)) (.int .i64 k6) (.int .i64 n6) (.string s6) (.slice a6 m6 c6))
      have HL6 := Lib.hid ((HL5.out.stay (ht6.stays HS5.out.md)).put4 HD6T.out (.int .i64 k6) (.int .i64 n6) (.string s6) (.slice a6 m6 c6))
      have HV6 := Lib.hid (htv6.put4 HD6T.out (.int .i64 k6) (.int .i64 n6) (.string s6) (.slice a6 m6 c6))
      have HO6 := Lib.hid (ho6.put4 w3.heap.size (.int .i64 k6) (.int .i64 n6) (.string s6) (.slice a6 m6 c6))
      have HX7 := Lib.hid (HX6.out.far4 hneB (.int .i64 k6) (.int .i64 n6) (.string s6) (.slice a6 m6 c6))
      have HXT7 := Lib.hid (HXT6.out.all4 (.int .i64 k6) (.int .i64 n6) (.string s6) (.slice a6 m6 c6))
      have HSM6 := Lib.hid hsm6
      have HOK6 := Lib.hid hok6
      obtain ⟨t0, t1, t2, t3, tf⟩ := HXT6.out.four
      clear htv6 ht6 ho6 hok6 hsm6 hB5 hT5
      obtain ⟨w7, hw7⟩ : ∃ w7, set4 w6 w3.heap.size (.int .i64 k6) (.int .i64 n6) (.string s6) (.slice a6 m6 c6) = w7 := ⟨_, rfl⟩
      rw [hw7] at HT6 HL6 HV6 HO6 HX7 HXT7
      obtain ⟨p0, p1, p2, p3, pf⟩ := HXT7.out.four
      cases hM : TERMX xs 999 (takesS [124] s1) with
      | none =>
        obtain rfl : ok6 = false := by rw [HOK6.out, hM]; rfl
        have HTL := Lib.hid (show tailR (TERMX xs) s1 = none by unfold tailR; rw [HY.out]; simp only [hM])
        clear hM
        go_wp2_with fail
        (try rw [hw7])
        clear hw7
        have HN := Lib.hid (show X = none by rw [← HXX.out]; exact tail_bad HI2.out HTL.out)
        obtain ⟨t0, t1, t2, t3, tf⟩ := HXT7.out.four
        (go_wp2_with fail; go_fit (list_in HO6.out.2 HL6.out HV6.out); rintro e w9 ⟨r9, rfl, hr9, hb9⟩)
        obtain ⟨k9, n9, s9, a9, m9, c9, rfl⟩ := hr9.full
        obtain ⟨r0, r1, r2, r3, rf⟩ := (HX7.out.ext hb9).four
        have HR9 := Lib.hid hr9
        have HB9 := Lib.hid hb9
        clear hr9 hb9 t0 t1 t2 t3 tf
        go_wp2
        refine bodyPost_ret (v := .tuple #[.agg #[.int .i64 k9, .int .i64 n9, .string s9, .slice a9 m9 c9], .bool false]) (by rw [results_cell_tmp rfl]; go_simp) rfl ?_
        exact bdone_none (HT6.out.trans (Turn.below HB9.out)) (HO6.out.later HB9.out.size) HMd.out (Nat.le_refl _) HD6B.out HR9.out HN.out
      | some q =>
        obtain ⟨⟨tq, lq⟩, s2⟩ := q
        obtain rfl : ok6 = true := by rw [HOK6.out, hM]; rfl
        obtain ⟨rfl, rfl, hs2⟩ := HSM6.out _ _ hM
        have HTL := Lib.hid (show tailR (TERMX xs) s1 = some (t6, s2) by unfold tailR; rw [HY.out]; simp only [hM])
        have hs7 := hs2.put4 HD6T.out HM6T.out (.int .i64 k6) (.int .i64 n6) (.string s6) (.slice a6 m6 c6)
        rw [hw7] at hs7
        have HS7 := Lib.hid hs7
        clear hM hs2 hs7
        go_wp2_with fail
        (try rw [hw7])
        clear hw7
        obtain ⟨t0, t1, t2, t3, tf⟩ := HXT7.out.four
        (go_wp2_with fail; go_fit (list_in HS7.out.old HL6.out HV6.out); rintro e w9 ⟨r9, rfl, hr9, hb9⟩)
        obtain ⟨k9, n9, s9, a9, m9, c9, rfl⟩ := hr9.full
        have HR9 := Lib.hid hr9
        have HB9 := Lib.hid hb9
        have hs9 := HS7.out.later hb9
        have HTK := Lib.hid (takes_at hs9 [93])
        have HX9 := Lib.hid (HX7.out.ext hb9)
        have HT9 := Lib.hid (HT6.out.trans (Turn.below hb9))
        have HMDs := Lib.hid hs9.md
        clear hr9 hb9 t0 t1 t2 t3 tf hs9
        cases hmk : isMark [93] (headR s2) with
        | false =>
          rw [hmk] at HTK
          have HN := Lib.hid (HXX.out.symm.trans (tail_open HI2.out HTL.out hmk))
          clear hmk
          (go_wp2_with fail; go_fit (HTK.out); rintro e w10 ⟨rfl, hs10, ht10⟩)
          obtain ⟨r0, r1, r2, r3, rf⟩ := (HX9.out.turn ht10 HM6B.out).four
          have HS10 := Lib.hid hs10
          have HT10 := Lib.hid ht10
          clear hs10 ht10
          go_wp2
          refine bodyPost_ret (v := .tuple #[.agg #[.int .i64 k9, .int .i64 n9, .string s9, .slice a9 m9 c9], .bool false]) (by rw [results_cell_tmp rfl]; go_simp) rfl ?_
          exact bdone_none (HT9.out.trans HT10.out) HS10.out.okd HMd.out (Nat.le_refl _) HD6B.out (TmV.stay (HT10.out.stays HMDs.out) _ _ HR9.out) HN.out
        | true =>
          rw [hmk] at HTK
          have HN := Lib.hid (HXX.out.symm.trans (tail_done HI2.out HTL.out hmk))
          clear hmk
          (go_wp2_with fail; go_fit (HTK.out); rintro e w10 ⟨rfl, hs10, ht10⟩)
          obtain ⟨r0, r1, r2, r3, rf⟩ := (HX9.out.turn ht10 HM6B.out).four
          have HS10 := Lib.hid hs10
          have HT10 := Lib.hid ht10
          clear hs10 ht10
          go_wp2
          refine bodyPost_ret (v := .tuple #[.agg #[.int .i64 k9, .int .i64 n9, .string s9, .slice a9 m9 c9], .bool true]) (by rw [results_cell_tmp rfl]; go_simp) rfl ?_
          exact bdone_some (HT9.out.trans HT10.out) HS10.out HMd.out (Nat.le_refl _) HD6B.out HM6B.out (TmV.stay (HT10.out.stays HMDs.out) _ _ HR9.out) HN.out
end Go.Proofs.YtaojalicnnnkmaaGreatDoor
/- At a seat with the reader: what XOwnP draws together is had from the reader's texts, but for RowY. -/
namespace Go.Proofs.YtaojalicnnnkmaaGreatDoor
open Go.RowKit
set_option linter.unusedVariables false

/-- A row of the call's own in the making: it is not looked at. -/
def RowY (D M : Nat → Bool) (w : World) (base : Nat) (v : Value) (ps : List TmP) : Prop :=
  RowP w base 46 v ps ∧ (∀ g, v.ownBlock = some g → D g = true ∧ M g = false) ∧ ∀ p ∈ ps, TmV (hide D w) p.1 (pVal p)
theorem RowY.none (D M : Nat → Bool) (w : World) (base : Nat) : RowY D M w base (.slice none 0 0) [] := ⟨World.ownsRow_nil _ _ _ _, fun g hg => (by cases hg), fun p hp => (by cases hp)⟩
theorem RowY.turn {D M D' M' : Nat → Bool} {w w' : World} {base : Nat} {v : Value} {ps : List TmP} (h : RowY D M w base v ps) (ht : Turn D M D' M' w w') (md : ∀ k, M k = true → D k = true) : RowY D' M' w' base v ps := by
  obtain ⟨h1, h2, h3⟩ := h
  refine ⟨row_at h1 (fun g hg => ht.kept g (row_in h1 hg).2 (h2 g hg).2), fun g hg => ?_, fun p hp => TmV.stay (ht.stays md) _ _ (h3 p hp)⟩
  have hlt := (row_in h1 hg).2
  rw [ht.dd g hlt, ht.mm g hlt]
  exact h2 g hg
/-- One more. -/
theorem RowY.more {D M : Nat → Bool} {W w' : World} {base : Nat} {v v' : Value} {ps : List TmP} {p : TmP} (h : RowY D M W base v ps) (hp : TmV (hide D W) p.1 (pVal p)) (ho : Okd D M W) (hg : W.grownBy w' v.ownBlock) (hv : v'.ownBlock = v.ownBlock ∨ v'.ownBlock = some W.heap.size)
    (hr : w'.ownsRow base 46 4 v' (ps.length + 1) (ps.flatMap pCells ++ pCells p)) : RowY (withB D v') M w' base v' (ps ++ [p]) := by
  obtain ⟨h1, h2, h3⟩ := h
  have hs := grown_stays hg (fun g e => (h2 g e).1) hv
  refine ⟨?_, fun g hg' => ⟨withB_own hg', ?_⟩, fun q hq => ?_⟩
  · unfold RowP
    rw [List.length_append, List.flatMap_append, List.length_singleton]
    simpa using hr
  · rcases hv with hv | hv
    · exact (h2 g (hv.symm.trans hg')).2
    · rw [hv] at hg'
      injection hg' with e
      subst e
      cases hm : M W.heap.size with
      | false => rfl
      | true => have := ho.1 _ hm; rw [ho.2 _ (Nat.le_refl _)] at this; cases this
  · rcases List.mem_append.1 hq with hq | hq
    · exact TmV.stay hs _ _ (h3 q hq)
    · simp at hq
      subst hq
      exact TmV.stay hs _ _ hp
/-- The row is looked at again. -/
theorem RowY.fin {D M D1 M' : Nat → Bool} {w w' : World} {v : Value} {ps : List TmP} {base : Nat} (hbase : w.heap.size ≤ base) (h : RowY D1 M' w' base v ps) (ht : Turn D M D1 M' w w') (ho : Okd D1 M' w') (hl : ps.length * 56 ≤ BIG) : Tms (hide (Fin D M' w.heap.size) w') v (ps.map (·.1)) := by
  obtain ⟨h1, h2, h3⟩ := h
  have hh : RowP (hide (Fin D M' w.heap.size) w') base 46 v ps := by
    refine row_at h1 (fun g hg => hide_get _ _ _ ?_)
    rw [fin_new (Nat.le_trans hbase (row_in h1 hg).1)]
    exact (h2 g hg).2
  exact hh.terms (fun p hp => TmV.fin (h3 p hp) ht ho) hl
theorem infoTermR : (Tryz.prog.info? 46).map (fun i => (i.zero, i.size, i.bytes)) = some (some (.agg #[.int .i64 0, .int .i64 0, .string ⟨#[]⟩, .slice none 0 0]), 4, 56) := by kernel_rfl
abbrev noM : Nat → Bool := fun _ => false
theorem fin_no {D : Nat → Bool} {w : World} (h : Old D w) : Fin D noM w.heap.size = D := by
  funext k
  by_cases hk : k < w.heap.size
  · exact fin_old hk
  · rw [fin_new (by omega)]
    exact (h k (by omega)).symm
theorem okd_no {D : Nat → Bool} {w : World} (h : Old D w) : Okd D noM w := And.intro (fun k hk => absurd hk (by simp)) h
theorem take_next {α : Type} {l : List α} {k : Nat} {x : α} (h : l[k]? = some x) : l.take (k + 1) = l.take k ++ [x] := by rw [List.take_add_one, h]; rfl
theorem RowY.put {D M : Nat → Bool} {w : World} {base : Nat} {v : Value} {ps : List TmP} (h : RowY D M w base v ps) (a : Addr) (u : Value) (hd : D a.block = true) (hne : ∀ g, v.ownBlock = some g → g ≠ a.block) : RowY D M (w.setCell a u) base v ps :=
  ⟨row_at h.1 (fun g hg => Below.heap_setCell w a u g (hne g hg)), h.2.1, fun p hp => TmV.stay (Stays.set a u hd) _ _ (h.2.2 p hp)⟩
theorem far_one {w : World} {b j c k : Nat} {v u : Value} (h : w.cell? ⟨b, j, none⟩ = some v) (hne : b ≠ c) : (w.setCell ⟨c, k, none⟩ u).cell? ⟨b, j, none⟩ = some v := by rw [far_cell hne]; exact h
end Go.Proofs.YtaojalicnnnkmaaGreatDoor
/- A row of the call's own in the making, of whatever elements: it is not looked at till it is done. Nothing here speaks of one program. -/
namespace Go.Proofs.YtaojalicnnnkmaaGreatDoor
open Go.RowKit
set_option linter.unusedVariables false

/-- A row of elements of S cells each, of which each is ok where some blocks are not looked at; the row itself is one of these. -/
def RowQ {α : Type} (S : Nat) (cells : α → List Value) (ok : World → α → Prop) (ty : TypeId) (D M : Nat → Bool) (w : World) (base : Nat) (v : Value) (ps : List α) : Prop :=
  w.ownsRow base ty S v ps.length (ps.flatMap cells) ∧ (∀ g, v.ownBlock = some g → D g = true ∧ M g = false) ∧ ∀ p ∈ ps, ok (hide D w) p
/-- Being ok hangs on the cells that are there alone. -/
def StayOk {α : Type} (ok : World → α → Prop) : Prop := ∀ {w w' : World} {x : α}, Stays w w' → ok w x → ok w' x
section
variable {α : Type} {S : Nat} {cells : α → List Value} {ok : World → α → Prop} {ty : TypeId}
theorem RowQ.none (D M : Nat → Bool) (w : World) (base : Nat) : RowQ S cells ok ty D M w base (.slice none 0 0) [] := ⟨World.ownsRow_nil _ _ _ _, fun g hg => (by cases hg), fun p hp => (by cases hp)⟩
theorem RowQ.turn (hs : StayOk ok) {D M D' M' : Nat → Bool} {w w' : World} {base : Nat} {v : Value} {ps : List α} (h : RowQ S cells ok ty D M w base v ps) (ht : Turn D M D' M' w w') (md : ∀ k, M k = true → D k = true) : RowQ S cells ok ty D' M' w' base v ps := by
  obtain ⟨h1, h2, h3⟩ := h
  refine ⟨row_at h1 (fun g hg => ht.kept g (row_in h1 hg).2 (h2 g hg).2), fun g hg => ?_, fun p hp => hs (ht.stays md) (h3 p hp)⟩
  have hlt := (row_in h1 hg).2
  rw [ht.dd g hlt, ht.mm g hlt]
  exact h2 g hg
/-- One more. -/
theorem RowQ.more (hs : StayOk ok) {D M : Nat → Bool} {W w' : World} {base : Nat} {v v' : Value} {ps : List α} {p : α} (h : RowQ S cells ok ty D M W base v ps) (hp : ok (hide D W) p) (ho : Okd D M W) (hg : W.grownBy w' v.ownBlock) (hv : v'.ownBlock = v.ownBlock ∨ v'.ownBlock = some W.heap.size)
    (hr : w'.ownsRow base ty S v' (ps.length + 1) (ps.flatMap cells ++ cells p)) : RowQ S cells ok ty (withB D v') M w' base v' (ps ++ [p]) := by
  obtain ⟨h1, h2, h3⟩ := h
  have hst := grown_stays hg (fun g e => (h2 g e).1) hv
  refine ⟨?_, fun g hg' => ⟨withB_own hg', ?_⟩, fun q hq => ?_⟩
  · rw [List.length_append, List.flatMap_append, List.length_singleton]
    simpa using hr
  · rcases hv with hv | hv
    · exact (h2 g (hv.symm.trans hg')).2
    · rw [hv] at hg'
      injection hg' with e
      subst e
      cases hm : M W.heap.size with
      | false => rfl
      | true => have := ho.1 _ hm; rw [ho.2 _ (Nat.le_refl _)] at this; cases this
  · rcases List.mem_append.1 hq with hq | hq
    · exact hs hst (h3 q hq)
    · simp at hq
      subst hq
      exact hs hst hp
/-- Some more at once. -/
theorem RowQ.many (hs : StayOk ok) {D M : Nat → Bool} {W w' : World} {base : Nat} {v v' : Value} {ps qs : List α} (h : RowQ S cells ok ty D M W base v ps) (hp : ∀ q ∈ qs, ok (hide D W) q) (ho : Okd D M W) (hg : W.grownBy w' v.ownBlock) (hv : v'.ownBlock = v.ownBlock ∨ v'.ownBlock = some W.heap.size)
    (hr : w'.ownsRow base ty S v' (ps.length + qs.length) (ps.flatMap cells ++ qs.flatMap cells)) : RowQ S cells ok ty (withB D v') M w' base v' (ps ++ qs) := by
  obtain ⟨h1, h2, h3⟩ := h
  have hst := grown_stays hg (fun g e => (h2 g e).1) hv
  refine ⟨?_, fun g hg' => ⟨withB_own hg', ?_⟩, fun q hq => ?_⟩
  · rw [List.length_append, List.flatMap_append]
    exact hr
  · rcases hv with hv | hv
    · exact (h2 g (hv.symm.trans hg')).2
    · rw [hv] at hg'
      injection hg' with e
      subst e
      cases hm : M W.heap.size with
      | false => rfl
      | true => have := ho.1 _ hm; rw [ho.2 _ (Nat.le_refl _)] at this; cases this
  · rcases List.mem_append.1 hq with hq | hq
    · exact hs hst (h3 q hq)
    · exact hs hst (hp q hq)
theorem RowQ.put (hs : StayOk ok) {D M : Nat → Bool} {w : World} {base : Nat} {v : Value} {ps : List α} (h : RowQ S cells ok ty D M w base v ps) (a : Addr) (u : Value) (hd : D a.block = true) (hne : ∀ g, v.ownBlock = some g → g ≠ a.block) : RowQ S cells ok ty D M (w.setCell a u) base v ps :=
  ⟨row_at h.1 (fun g hg => Below.heap_setCell w a u g (hne g hg)), h.2.1, fun p hp => hs (Stays.set a u hd) (h.2.2 p hp)⟩
/-- The row is looked at again. -/
theorem RowQ.fin (hs : StayOk ok) {D M D1 M' : Nat → Bool} {w w' : World} {v : Value} {ps : List α} {base : Nat} (hbase : w.heap.size ≤ base) (h : RowQ S cells ok ty D1 M' w' base v ps) (ht : Turn D M D1 M' w w') (ho : Okd D1 M' w') :
    (hide (Fin D M' w.heap.size) w').ownsRow base ty S v ps.length (ps.flatMap cells) ∧ ∀ p ∈ ps, ok (hide (Fin D M' w.heap.size) w') p := by
  obtain ⟨h1, h2, h3⟩ := h
  refine ⟨row_at h1 (fun g hg => hide_get _ _ _ ?_), fun p hp => hs (Stays.less fun k hk => fin_less ht ho hk) (h3 p hp)⟩
  rw [fin_new (Nat.le_trans hbase (row_in h1 hg).1)]
  exact (h2 g hg).2
end
end Go.Proofs.YtaojalicnnnkmaaGreatDoor
/- Goals in memory. Nothing here speaks of one program. -/
namespace Go.Proofs.YtaojalicnnnkmaaGreatDoor
open Go.RowKit
set_option linter.unusedVariables false

/-- A goal beside its values' last parts: its term's Args, its rows. -/
structure GlP where
  g : Gl
  u : Value
  v : Value
def glCells (p : GlP) : List Value := [.int .i64 p.g.kind, .int .i64 p.g.t.k, .int .i64 p.g.t.n, .string p.g.t.s, p.u, p.v]
theorem glCells_len (p : GlP) : (glCells p).length = 6 := rfl
mutual
/-- A goal reads so. -/
def GlC (w : World) : Gl → Value → Value → Prop
  | .mk k t ls, u, v => I64 k ∧ TmV w t (pVal (t, u)) ∧ ∃ (a : Option Addr) (c : Nat), v = .slice a ls.length c ∧ ls.length ≤ c ∧ c ≤ maxLen ∧ ls.length * 24 ≤ BIG ∧ (ls = [] ∨ ∃ b off, a = some ⟨b, off, none⟩ ∧ b < w.heap.size ∧ RsRow w ls b off)
/-- These goals lie there. -/
def GlRow (w : World) : List Gl → Nat → Nat → Prop
  | [], _, _ => True
  | g :: r, b, off => (∃ u v, (∀ j x, (glCells ⟨g, u, v⟩)[j]? = some x → w.cell? ⟨b, off + j, none⟩ = some x) ∧ GlC w g u v) ∧ GlRow w r b (off + 6)
/-- These rows of goals lie there. -/
def RsRow (w : World) : List (List Gl) → Nat → Nat → Prop
  | [], _, _ => True
  | l :: r, b, off => (∃ v, w.cell? ⟨b, off, none⟩ = some v ∧ ∃ (a : Option Addr) (c : Nat), v = .slice a l.length c ∧ l.length ≤ c ∧ c ≤ maxLen ∧ l.length * 88 ≤ BIG ∧ (l = [] ∨ ∃ b' off', a = some ⟨b', off', none⟩ ∧ b' < w.heap.size ∧ GlRow w l b' off')) ∧ RsRow w r b (off + 1)
end
/-- The value reads as these goals. -/
def GoalsV (w : World) (l : List Gl) (v : Value) : Prop := ∃ (a : Option Addr) (c : Nat), v = .slice a l.length c ∧ l.length ≤ c ∧ c ≤ maxLen ∧ l.length * 88 ≤ BIG ∧ (l = [] ∨ ∃ b off, a = some ⟨b, off, none⟩ ∧ b < w.heap.size ∧ GlRow w l b off)
/-- The value reads as these rows. -/
def RowsV (w : World) (ls : List (List Gl)) (v : Value) : Prop := ∃ (a : Option Addr) (c : Nat), v = .slice a ls.length c ∧ ls.length ≤ c ∧ c ≤ maxLen ∧ ls.length * 24 ≤ BIG ∧ (ls = [] ∨ ∃ b off, a = some ⟨b, off, none⟩ ∧ b < w.heap.size ∧ RsRow w ls b off)
theorem glC_iff {w : World} {g : Gl} {u v : Value} : GlC w g u v ↔ I64 g.kind ∧ TmV w g.t (pVal (g.t, u)) ∧ RowsV w g.l v := by
  obtain ⟨k, t, ls⟩ := g
  rw [GlC]
  exact Iff.rfl
theorem rsRow_cons {w : World} {l : List Gl} {r : List (List Gl)} {b off : Nat} : RsRow w (l :: r) b off ↔ (∃ v, w.cell? ⟨b, off, none⟩ = some v ∧ GoalsV w l v) ∧ RsRow w r b (off + 1) := by
  rw [RsRow]
  exact Iff.rfl
theorem GlRow.get {w : World} : ∀ {l : List Gl} {b off : Nat}, GlRow w l b off → ∀ (i : Nat) (g : Gl), l[i]? = some g → ∃ u v, (∀ j x, (glCells ⟨g, u, v⟩)[j]? = some x → w.cell? ⟨b, off + i * 6 + j, none⟩ = some x) ∧ GlC w g u v
  | [], b, off, _, i, g, hg => by simp at hg
  | y :: r, b, off, h, 0, g, hg => by
    simp at hg
    subst hg
    rw [GlRow] at h
    rw [Nat.zero_mul, Nat.add_zero]
    exact h.1
  | y :: r, b, off, h, i + 1, g, hg => by
    rw [GlRow] at h
    have := GlRow.get h.2 i g (by simpa using hg)
    rw [show off + (i + 1) * 6 = off + 6 + i * 6 by omega]
    exact this
theorem GlRow.mk {w : World} : ∀ {l : List Gl} {b off : Nat}, (∀ (i : Nat) (g : Gl), l[i]? = some g → ∃ u v, (∀ j x, (glCells ⟨g, u, v⟩)[j]? = some x → w.cell? ⟨b, off + i * 6 + j, none⟩ = some x) ∧ GlC w g u v) → GlRow w l b off
  | [], b, off, _ => by rw [GlRow]; trivial
  | y :: r, b, off, h => by
    rw [GlRow]
    refine ⟨?_, GlRow.mk fun i g hg => ?_⟩
    · have := h 0 y rfl
      rw [Nat.zero_mul, Nat.add_zero] at this
      exact this
    · have := h (i + 1) g (by simpa using hg)
      rw [show off + (i + 1) * 6 = off + 6 + i * 6 by omega] at this
      exact this
theorem RsRow.get {w : World} : ∀ {l : List (List Gl)} {b off : Nat}, RsRow w l b off → ∀ (i : Nat) (g : List Gl), l[i]? = some g → ∃ v, w.cell? ⟨b, off + i, none⟩ = some v ∧ GoalsV w g v
  | [], b, off, _, i, g, hg => by simp at hg
  | y :: r, b, off, h, 0, g, hg => by
    simp at hg
    subst hg
    exact (rsRow_cons.1 h).1
  | y :: r, b, off, h, i + 1, g, hg => by
    have := RsRow.get (rsRow_cons.1 h).2 i g (by simpa using hg)
    rw [show off + (i + 1) = off + 1 + i by omega]
    exact this
theorem RsRow.mk {w : World} : ∀ {l : List (List Gl)} {b off : Nat}, (∀ (i : Nat) (g : List Gl), l[i]? = some g → ∃ v, w.cell? ⟨b, off + i, none⟩ = some v ∧ GoalsV w g v) → RsRow w l b off
  | [], b, off, _ => by rw [RsRow]; trivial
  | y :: r, b, off, h => by
    refine rsRow_cons.2 ⟨h 0 y rfl, RsRow.mk fun i g hg => ?_⟩
    have := h (i + 1) g (by simpa using hg)
    rw [show off + (i + 1) = off + 1 + i by omega] at this
    exact this
mutual
theorem GlC.stay {w w' : World} (hb : Stays w w') : ∀ (g : Gl) (u v : Value), GlC w g u v → GlC w' g u v
  | .mk k t ls, u, v, h => by
    rw [GlC] at h ⊢
    obtain ⟨h1, h2, a, c, e1, e2, e3, e4, e5⟩ := h
    refine ⟨h1, TmV.stay hb _ _ h2, a, c, e1, e2, e3, e4, ?_⟩
    rcases e5 with e5 | ⟨b, off, f1, f2, f3⟩
    · exact Or.inl e5
    · exact Or.inr ⟨b, off, f1, Nat.lt_of_lt_of_le f2 hb.1, RsRow.stay hb ls b off f3⟩
theorem GlRow.stay {w w' : World} (hb : Stays w w') : ∀ (l : List Gl) (b off : Nat), GlRow w l b off → GlRow w' l b off
  | [], b, off, _ => by rw [GlRow]; trivial
  | g :: r, b, off, h => by
    rw [GlRow] at h ⊢
    obtain ⟨⟨u, v, h1, h2⟩, h3⟩ := h
    exact ⟨⟨u, v, fun j x hx => hb.2 _ _ (h1 j x hx), GlC.stay hb g u v h2⟩, GlRow.stay hb r b (off + 6) h3⟩
theorem RsRow.stay {w w' : World} (hb : Stays w w') : ∀ (l : List (List Gl)) (b off : Nat), RsRow w l b off → RsRow w' l b off
  | [], b, off, _ => by rw [RsRow]; trivial
  | l :: r, b, off, h => by
    rw [RsRow] at h ⊢
    obtain ⟨⟨v, h1, a, c, e1, e2, e3, e4, e5⟩, h3⟩ := h
    refine ⟨⟨v, hb.2 _ _ h1, a, c, e1, e2, e3, e4, ?_⟩, RsRow.stay hb r b (off + 1) h3⟩
    rcases e5 with e5 | ⟨b', off', f1, f2, f3⟩
    · exact Or.inl e5
    · exact Or.inr ⟨b', off', f1, Nat.lt_of_lt_of_le f2 hb.1, GlRow.stay hb l b' off' f3⟩
end
theorem GoalsV.stay {w w' : World} {l : List Gl} {v : Value} (h : GoalsV w l v) (hb : Stays w w') : GoalsV w' l v := by
  obtain ⟨a, c, e1, e2, e3, e4, e5⟩ := h
  refine ⟨a, c, e1, e2, e3, e4, ?_⟩
  rcases e5 with e5 | ⟨b, off, f1, f2, f3⟩
  · exact Or.inl e5
  · exact Or.inr ⟨b, off, f1, Nat.lt_of_lt_of_le f2 hb.1, GlRow.stay hb l b off f3⟩
theorem RowsV.stay {w w' : World} {l : List (List Gl)} {v : Value} (h : RowsV w l v) (hb : Stays w w') : RowsV w' l v := by
  obtain ⟨a, c, e1, e2, e3, e4, e5⟩ := h
  refine ⟨a, c, e1, e2, e3, e4, ?_⟩
  rcases e5 with e5 | ⟨b, off, f1, f2, f3⟩
  · exact Or.inl e5
  · exact Or.inr ⟨b, off, f1, Nat.lt_of_lt_of_le f2 hb.1, RsRow.stay hb l b off f3⟩
theorem GoalsV.nil (w : World) : GoalsV w [] (.slice none 0 0) := ⟨none, 0, rfl, Nat.le_refl _, Nat.zero_le _, by simp, Or.inl rfl⟩
theorem RowsV.nil (w : World) : RowsV w [] (.slice none 0 0) := ⟨none, 0, rfl, Nat.le_refl _, Nat.zero_le _, by simp, Or.inl rfl⟩
theorem GoalsV.len {w : World} {l : List Gl} {v : Value} (h : GoalsV w l v) : ∃ a c, v = .slice a l.length c ∧ l.length ≤ c ∧ c ≤ maxLen ∧ l.length * 88 ≤ BIG := by
  obtain ⟨a, c, e1, e2, e3, e4, _⟩ := h
  exact ⟨a, c, e1, e2, e3, e4⟩
theorem RowsV.len {w : World} {l : List (List Gl)} {v : Value} (h : RowsV w l v) : ∃ a c, v = .slice a l.length c ∧ l.length ≤ c ∧ c ≤ maxLen ∧ l.length * 24 ≤ BIG := by
  obtain ⟨a, c, e1, e2, e3, e4, _⟩ := h
  exact ⟨a, c, e1, e2, e3, e4⟩
/-- The i-th of them: its six cells. -/
theorem GoalsV.get {w : World} {a : Option Addr} {m c : Nat} {l : List Gl} (h : GoalsV w l (.slice a m c)) {i : Nat} {g : Gl} (hg : l[i]? = some g) :
    ∃ b off kt nt st at_ mt ct ar mr cr, a = some ⟨b, off, none⟩ ∧ b < w.heap.size ∧ w.cell? ⟨b, off + i * 6, none⟩ = some (.int .i64 g.kind) ∧ w.cell? ⟨b, off + i * 6 + 1, none⟩ = some (.int .i64 kt) ∧ w.cell? ⟨b, off + i * 6 + 2, none⟩ = some (.int .i64 nt) ∧ w.cell? ⟨b, off + i * 6 + 3, none⟩ = some (.string st) ∧
      w.cell? ⟨b, off + i * 6 + 4, none⟩ = some (.slice at_ mt ct) ∧ w.cell? ⟨b, off + i * 6 + 5, none⟩ = some (.slice ar mr cr) ∧ I64 g.kind ∧ TmV w g.t (.agg #[.int .i64 kt, .int .i64 nt, .string st, .slice at_ mt ct]) ∧ RowsV w g.l (.slice ar mr cr) := by
  obtain ⟨a', c', e, _, _, _, h4⟩ := h
  cases e
  rcases h4 with rfl | ⟨b, off, rfl, hb, hr⟩
  · simp at hg
  · obtain ⟨u, v, h1, h2⟩ := hr.get i g hg
    obtain ⟨g1, g2, g3⟩ := glC_iff.1 h2
    obtain ⟨kt, nt, st, at_, mt, ct, e, _⟩ := four_of g2
    obtain ⟨ar, cr, rfl, _⟩ := g3.len
    have h2' := e
    simp only [pVal, Value.agg.injEq] at h2'
    have h3 := congrArg Array.toList h2'
    simp only [List.cons.injEq, and_true] at h3
    obtain ⟨q1, q2, q3, q4⟩ := h3
    rw [e] at g2
    refine ⟨b, off, kt, nt, st, at_, mt, ct, ar, _, cr, rfl, hb, h1 0 _ rfl, ?_, ?_, ?_, ?_, h1 5 _ rfl, g1, g2, g3⟩
    · rw [← q1]; exact h1 1 _ rfl
    · rw [← q2]; exact h1 2 _ rfl
    · rw [← q3]; exact h1 3 _ rfl
    · rw [← q4]; exact h1 4 _ rfl
/-- The i-th row. -/
theorem RowsV.get {w : World} {a : Option Addr} {m c : Nat} {l : List (List Gl)} (h : RowsV w l (.slice a m c)) {i : Nat} {g : List Gl} (hg : l[i]? = some g) :
    ∃ b off a' c', a = some ⟨b, off, none⟩ ∧ b < w.heap.size ∧ w.cell? ⟨b, off + i, none⟩ = some (.slice a' g.length c') ∧ GoalsV w g (.slice a' g.length c') := by
  obtain ⟨a', c', e, _, _, _, h4⟩ := h
  cases e
  rcases h4 with rfl | ⟨b, off, rfl, hb, hr⟩
  · simp at hg
  · obtain ⟨v, h1, h2⟩ := hr.get i g hg
    obtain ⟨a2, c2, rfl, _⟩ := h2.len
    exact ⟨b, off, a2, c2, rfl, hb, h1, h2⟩
/-- A row of goals of the call's own. -/
def glOk (w : World) (p : GlP) : Prop := GlC w p.g p.u p.v
theorem glOk_stay : StayOk glOk := fun hs h => GlC.stay hs _ _ _ h
def rsCells (p : List Gl × Value) : List Value := [p.2]
def rsOk (w : World) (p : List Gl × Value) : Prop := GoalsV w p.1 p.2
theorem rsOk_stay : StayOk rsOk := fun hs h => GoalsV.stay h hs
theorem rsCells_len (p : List Gl × Value) : (rsCells p).length = 1 := rfl
/-- What the call owns reads as these goals. -/
theorem own_goals {w : World} {base : Nat} {ty : TypeId} {v : Value} {ps : List GlP} (h : w.ownsRow base ty 6 v ps.length (ps.flatMap glCells)) (hp : ∀ p ∈ ps, glOk w p) (hl : ps.length * 88 ≤ BIG) : GoalsV w (ps.map (·.g)) v := by
  obtain ⟨a, c, rfl, h1, h2, h3⟩ := Elems.owned glCells_len h
  refine ⟨a, c, by rw [List.length_map], by rw [List.length_map]; exact h1, h2, by rw [List.length_map]; exact hl, ?_⟩
  rcases h3 with rfl | ⟨b, off, rfl, hb, hc⟩
  · left; rfl
  · refine Or.inr ⟨b, off, rfl, hb, GlRow.mk fun i x hx => ?_⟩
    rw [List.getElem?_map] at hx
    obtain ⟨p, hpi, rfl⟩ := Option.map_eq_some_iff.1 hx
    exact ⟨p.u, p.v, fun j x hj => by rw [Nat.add_assoc]; exact hc i p hpi j x hj, hp p (List.mem_of_getElem? hpi)⟩
theorem own_rows {w : World} {base : Nat} {ty : TypeId} {v : Value} {ps : List (List Gl × Value)} (h : w.ownsRow base ty 1 v ps.length (ps.flatMap rsCells)) (hp : ∀ p ∈ ps, rsOk w p) (hl : ps.length * 24 ≤ BIG) : RowsV w (ps.map (·.1)) v := by
  obtain ⟨a, c, rfl, h1, h2, h3⟩ := Elems.owned rsCells_len h
  refine ⟨a, c, by rw [List.length_map], by rw [List.length_map]; exact h1, h2, by rw [List.length_map]; exact hl, ?_⟩
  rcases h3 with rfl | ⟨b, off, rfl, hb, hc⟩
  · left; rfl
  · refine Or.inr ⟨b, off, rfl, hb, RsRow.mk fun i x hx => ?_⟩
    rw [List.getElem?_map] at hx
    obtain ⟨p, hpi, rfl⟩ := Option.map_eq_some_iff.1 hx
    exact ⟨p.2, by have := hc i p hpi 0 _ rfl; simpa using this, hp p (List.mem_of_getElem? hpi)⟩
/-- A row of goals, each beside its values' last parts: the cells as they lie there. -/
theorem GlRow.pairs {w : World} : ∀ {l : List Gl} {b off : Nat}, GlRow w l b off → ∃ ps : List GlP, ps.map (·.g) = l ∧ (∀ p ∈ ps, glOk w p) ∧ ∀ j u, (ps.flatMap glCells)[j]? = some u → w.cell? ⟨b, off + j, none⟩ = some u
  | [], b, off, _ => ⟨[], rfl, fun p hp => (by cases hp), fun j u hj => (by simp at hj)⟩
  | g :: r, b, off, h => by
    rw [GlRow] at h
    obtain ⟨⟨u, v, h1, h2⟩, h3⟩ := h
    obtain ⟨ps, e1, e2, e3⟩ := GlRow.pairs h3
    refine ⟨⟨g, u, v⟩ :: ps, by rw [List.map_cons, e1], fun p hp => ?_, fun j x hj => ?_⟩
    · rcases List.mem_cons.1 hp with rfl | hp
      · exact h2
      · exact e2 p hp
    · rw [List.flatMap_cons] at hj
      by_cases hjs : j < 6
      · rw [List.getElem?_append_left (by rw [glCells_len]; exact hjs)] at hj
        exact h1 j x hj
      · rw [List.getElem?_append_right (by rw [glCells_len]; omega), glCells_len] at hj
        have := e3 (j - 6) x hj
        rw [show off + 6 + (j - 6) = off + j by omega] at this
        exact this
/-- What is appended: the elements, and where their cells lie. -/
theorem GoalsV.pairs {w : World} {l : List Gl} {v : Value} (h : GoalsV w l v) : ∃ (ps : List GlP) (a : Option Addr) (c : Nat), v = .slice a l.length c ∧ ps.length = l.length ∧ ps.map (·.g) = l ∧ (∀ p ∈ ps, glOk w p) ∧ l.length * 88 ≤ BIG ∧ l.length ≤ c ∧ c ≤ maxLen ∧ (l.length = 0 ∨ ∃ ad, a = some ad ∧ ∀ j u, (ps.flatMap glCells)[j]? = some u → w.cell? (ad.add j) = some u) := by
  obtain ⟨a, c, h1, h2, h3, h4, h5⟩ := h
  rcases h5 with rfl | ⟨b, off, rfl, hb, hr⟩
  · exact ⟨[], a, c, h1, rfl, rfl, fun p h => by simp at h, h4, h2, h3, Or.inl rfl⟩
  · obtain ⟨ps, e1, e2, e3⟩ := hr.pairs
    exact ⟨ps, _, c, h1, by rw [← e1, List.length_map], e1, e2, h4, h2, h3, Or.inr ⟨_, rfl, fun j u hj => by rw [add_plain]; exact e3 j u hj⟩⟩
theorem glCells_one (L : List GlP) {w : World} (h : ∀ p ∈ L, glOk w p) : ∀ u ∈ L.flatMap glCells, u.oneCell' = true := by
  intro u hu
  obtain ⟨p, hp, hx⟩ := List.mem_flatMap.1 hu
  obtain ⟨g1, g2, g3⟩ := glC_iff.1 (h p hp)
  obtain ⟨kt, nt, st, at_, mt, ct, e, _⟩ := four_of g2
  obtain ⟨ar, cr, e2, _⟩ := g3.len
  simp only [pVal, Value.agg.injEq] at e
  have h3 := congrArg Array.toList e
  simp only [List.cons.injEq, and_true] at h3
  simp only [glCells, h3.2.2.2, e2, List.mem_cons, List.not_mem_nil, or_false] at hx
  rcases hx with rfl | rfl | rfl | rfl | rfl | rfl <;> rfl
end Go.Proofs.YtaojalicnnnkmaaGreatDoor
/- The document's side of chapter 14: two (goals joined), over of's contract. -/
namespace Go.Proofs.YtaojalicnnnkmaaGreatDoor
open Go.RowKit
set_option linter.unusedVariables false

def erO (o : Option (List Gl)) : Int := match o with
  | none => 5
  | some _ => 0
theorem infoGoalR : (Tryz.prog.info? 80).map (fun i => (i.zero, i.size, i.bytes)) = some (some (.agg #[.int .i64 0, .int .i64 0, .int .i64 0, .string ⟨#[]⟩, .slice none 0 0, .slice none 0 0]), 6, 88) := by kernel_rfl
theorem stays_bel {D : Nat → Bool} {w w' : World} (hb : Below w.heap.size w w') : Stays (hide D w) (hide D w') := Stays.below hb fun _ _ h => h
end Go.Proofs.YtaojalicnnnkmaaGreatDoor
/- The document's side of chapter 14: rows, over of's contract. -/
namespace Go.Proofs.YtaojalicnnnkmaaGreatDoor
open Go.RowKit
set_option linter.unusedVariables false

/-- The goals of each, where all of them are bodies. -/
def ofR : List Tm → Option (List (List Gl))
  | [] => some []
  | t :: r => (ofB t).bind fun x => (ofR r).map fun y => x :: y
theorem ofR_none {ts : List Tm} {j : Nat} {x : Tm} (hx : ts[j]? = some x) (hn : ofB x = none) : ofR (ts.drop j) = none := by
  obtain ⟨hlt, rfl⟩ := List.getElem?_eq_some_iff.1 hx
  rw [List.drop_eq_getElem_cons hlt, ofR, hn]
  rfl
theorem ofR_some {ts : List Tm} {j : Nat} {x : Tm} {l : List Gl} (hx : ts[j]? = some x) (hn : ofB x = some l) : ofR (ts.drop j) = (ofR (ts.drop (j + 1))).map fun y => l :: y := by
  obtain ⟨hlt, rfl⟩ := List.getElem?_eq_some_iff.1 hx
  rw [List.drop_eq_getElem_cons hlt, ofR, hn]
  rfl
theorem Box.six {w : World} {b : Nat} {v0 v1 v2 v3 v4 v5 : Value} (h : Box w b [v0, v1, v2, v3, v4, v5]) : w.cell? ⟨b, 0, none⟩ = some v0 ∧ w.cell? ⟨b, 1, none⟩ = some v1 ∧ w.cell? ⟨b, 2, none⟩ = some v2 ∧ w.cell? ⟨b, 3, none⟩ = some v3 ∧ w.cell? ⟨b, 4, none⟩ = some v4 ∧ w.cell? ⟨b, 5, none⟩ = some v5 ∧ ∀ j, w.frozen? ⟨b, j, none⟩ = false :=
  ⟨h.cells 0 _ rfl, h.cells 1 _ rfl, h.cells 2 _ rfl, h.cells 3 _ rfl, h.cells 4 _ rfl, h.cells 5 _ rfl, h.fz⟩
theorem infoGoalsR : (Tryz.prog.info? 48).map (fun i => (i.zero, i.size, i.bytes)) = some (some (.slice none 0 0), 1, 24) := by kernel_rfl
end Go.Proofs.YtaojalicnnnkmaaGreatDoor
/- The document's side of chapter 14: is, Count, Cuts, walked. -/
namespace Go.Proofs.YtaojalicnnnkmaaGreatDoor
open Go.RowKit
set_option linter.unusedVariables false

/-- Smaller, all the way in. -/
theorem cnt_mem : ∀ {l : List Gl} {g : Gl}, g ∈ l → cntG g ≤ cntL l
  | y :: r, g, h => by
    rw [cntL]
    rcases List.mem_cons.1 h with rfl | h
    · omega
    · have := cnt_mem h; omega
theorem cntR_mem : ∀ {ls : List (List Gl)} {l : List Gl}, l ∈ ls → cntL l ≤ cntR ls
  | y :: r, g, h => by
    rw [cntR]
    rcases List.mem_cons.1 h with rfl | h
    · omega
    · have := cntR_mem h; omega
theorem cnt_row {l : List Gl} {g : Gl} {r : List Gl} (h : g ∈ l) (hr : r ∈ g.l) : cntL r < cntL l := by
  have h1 := cnt_mem h
  obtain ⟨k, t, ls⟩ := g
  have h2 := cntR_mem (show r ∈ ls from hr)
  rw [cntG] at h1
  omega
theorem cntR_drop {l : List (List Gl)} {i : Nat} {g : List Gl} (h : l[i]? = some g) : cntR (l.drop i) = cntL g + cntR (l.drop (i + 1)) := by
  obtain ⟨hlt, rfl⟩ := List.getElem?_eq_some_iff.1 h
  rw [List.drop_eq_getElem_cons hlt, cntR]
theorem cnt_len : ∀ l : List Gl, l.length ≤ cntL l
  | [] => by rw [cntL]; simp
  | .mk k t ls :: r => by
    rw [cntL, cntG, List.length_cons]
    have := cnt_len r
    omega
/-- The rows' goals of a row of goals. -/
def innL : List Gl → Nat
  | [] => 0
  | g :: r => cntR g.l + innL r
theorem cnt_inn : ∀ l : List Gl, cntL l = l.length + innL l
  | [] => rfl
  | .mk k t ls :: r => by
    rw [cntL, cntG, innL, List.length_cons, cnt_inn r]
    show cntR ls + 1 + _ = r.length + 1 + (cntR ls + innL r)
    omega
theorem inn_drop {l : List Gl} {i : Nat} {g : Gl} (h : l[i]? = some g) : innL (l.drop i) = cntR g.l + innL (l.drop (i + 1)) := by
  obtain ⟨hlt, rfl⟩ := List.getElem?_eq_some_iff.1 h
  rw [List.drop_eq_getElem_cons hlt, innL]
end Go.Proofs.YtaojalicnnnkmaaGreatDoor
