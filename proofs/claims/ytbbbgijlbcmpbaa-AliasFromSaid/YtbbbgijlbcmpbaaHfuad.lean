import Derived.Test.YtbbbgijlbcmpbaaHfuac
import Derived.Deep.RegionHeld3
import Derived.Test.YtbbbgijlbcmpbaaHfuab
import Derived.Test.YtbbbgijlbcmpbaaHfuaa
import Derived.Ground.SlgnProg
import Derived.Shelf.SlicesE.Reverse
import Derived.Test.YtbbbgijlbcmpbaaProg
import Derived.Shelf.SlGeneric
import Derived.Lib.OwnBridge
import Derived.Lib.RowBridge
import Derived.Deep.Quiet
import Derived.Below
import Derived.BigQuiet
import Derived.Deep.LoopGhost
import Derived.Lib.Strings
import Derived.Deep.QuietTactic
import Derived.Test.YtbbbgijlbcmpbaaRows
set_option linter.unusedVariables false
set_option linter.unusedSimpArgs false
/- Package alias: Plain, Alike, Ground, walked. -/
namespace Go.Proofs.Ytbbbgijlbcmpbaa
open Go.RowKit Go.Maps
set_option linter.unusedVariables false

/-- What Plain answers. -/
def plainE (x : Tm) : Tm × Int := if goodT x = true then (renT 0 x, 0) else (varV 0, 1)
theorem varsT_2000 {x : Tm} (h : goodT x = true) : (varsT x []).length ≤ 2000 := by
  have h1 := xvars_len x []
  have h2 := (good_parts h).1
  simp at h1
  omega
theorem from_plain (x : Tm) : ∃ z, fromE 0 x = ((plainE x).1, z, (plainE x).2) := by
  unfold fromE plainE
  by_cases h : goodT x = true
  · have := varsT_2000 h
    rw [if_pos ⟨h, by omega, by omega⟩, if_pos (by omega), if_pos h]
    exact ⟨_, rfl⟩
  · rw [if_neg (fun e => h e.1), if_neg h]
    exact ⟨_, rfl⟩
def PlainP (w : World) (T : Tm) (c : Int) (e : Ending) (w' : World) : Prop := ∃ r, e = .returned (.tuple #[r, .int .i64 c]) ∧ TmV (hide (under w.heap.size) w') T r ∧ Below w.heap.size w w'
theorem results_cell2' {fn : Func} {p u : Tmp} {ty : TypeId} (h : fn.results = #[.cell p ty, .tmp u]) (tmps : Array Value) (P : Program) (w : World) :
    (results fn tmps).run P w =
      ((asAddr (tmps.getD p undef)).run P w).andThen fun a w₁ => ((loadVar ty a).run P w₁).andThen fun x w₂ => .ok (.tuple #[x, tmps.getD u undef]) w₂ := by
  simp only [results, h]
  simp [Sem.run_bind, Result.andThen]
set_option maxHeartbeats 8000000 in
set_option maxRecDepth 100000 in
theorem Plain_at (x : Tm) (w : World) (v : Value) (hv : TmV w x v) : Calls Try.prog 60 #[v] w (PlainP w (plainE x).1 (plainE x).2) := by
  obtain ⟨k, n, s, a, m, c, rfl⟩ := hv.full
  obtain ⟨w1, e1, B1, z1, X1⟩ := box_new w #[.int .i64 k, .int .i64 n, .string s, .slice a m c] 31
  obtain ⟨w2, e2, B2, z2, X2⟩ := box_new w1 #[.int .i64 0, .int .i64 0, .string ⟨#[]⟩, .slice none 0 0] 31
  have X1 := X1.ext B2
  have B12 := Ext.trans' B1 B2
  rw [z1] at X2 z2
  have HE := Lib.hid (And.intro e1 e2)
  have HB2 := Lib.hid (And.intro B12 (And.intro X1 (And.intro X2 z2)))
  obtain ⟨x0, x1, x2, x3, _⟩ := X1.four
  have C := pFrom_at x 0 i64_0 w2 _ (TmV.ext B12 _ _ hv)
  unfold FromP at C
  obtain ⟨z, hz⟩ := from_plain x
  rw [hz] at C
  obtain ⟨T, hT⟩ : ∃ T, (plainE x).1 = T := ⟨_, rfl⟩
  obtain ⟨er, her⟩ : ∃ T, (plainE x).2 = T := ⟨_, rfl⟩
  rw [hT, her] at C ⊢
  unfold PlainP
  clear B1 B2 z1 e1 e2 B12 X1 X2 hv hz hT her z2
  go_enter Try.func60, Try.ntmps60
  go_upto_region 1 with fail
  (try rw [HE.out.1, HE.out.2])
  (go_wp2_with fail; go_fit (C); rintro e w3 ⟨r, rfl, ht, b3⟩)
  obtain ⟨k3, n3, s3, a3, m3, c3, rfl, f1, f2, f3, f4⟩ := four_of ht
  obtain ⟨w4, e4, b4, z4, x4⟩ := box_new w3 #[.int .i64 k3, .int .i64 n3, .string s3, .slice a3 m3 c3] 31
  have hb34 := Ext.trans' b3 b4
  have HB4 := Lib.hid (Ext.trans' HB2.out.1 hb34)
  obtain ⟨y0, y1, y2, y3, _⟩ := x4.four
  obtain ⟨r0, r1, r2, r3, rf⟩ := (HB2.out.2.2.1.ext hb34).four
  have HFA := Lib.hid (show TmV (hide (under w.heap.size) (set4 w4 (w.heap.size + 1) (.int .i64 k3) (.int .i64 n3) (.string s3) (.slice a3 m3 c3))) T (.agg #[.int .i64 k3, .int .i64 n3, .string s3, .slice a3 m3 c3]) from by
    have hz := HB2.out.2.2.2
    have hd : under w2.heap.size (w.heap.size + 1) = true := by simp; omega
    have hle := HB2.out.1.size
    have ht4 := TmV.later (D := under w2.heap.size) b4 ht
    exact TmV.stay (Stays.less fun k hk => by simp at hk ⊢; omega) _ _ (TmV.stay ((((Stays.set (D := under w2.heap.size) ⟨w.heap.size + 1, 0, none⟩ (.int .i64 k3) hd).trans (Stays.set ⟨w.heap.size + 1, 1, none⟩ (.int .i64 n3) hd)).trans (Stays.set ⟨w.heap.size + 1, 2, none⟩ (.string s3) hd)).trans (Stays.set ⟨w.heap.size + 1, 3, none⟩ (.slice a3 m3 c3) hd)) _ _ ht4))
  have HE4 := Lib.hid e4
  clear f1 f2 f3 f4 ht b3 b4 z4 x4 e4 C x0 x1 x2 x3 hb34
  go_upto_region 2 with fail
  (try rw [HE4.out])
  go_wp2
  refine bodyPost_ret (v := .tuple #[.agg #[.int .i64 k3, .int .i64 n3, .string s3, .slice a3 m3 c3], .int .i64 er]) (by rw [results_cell2' rfl]; go_simp) rfl ⟨_, rfl, HFA.out, ?_⟩
  exact Below.set4 (b := w.heap.size + 1) HB4.out (by omega) _ _ _ _
theorem ren0_good {x : Tm} (h : goodT x = true) : goodT (renT 0 x) = true := by
  have := varsT_2000 h
  rw [(ren_same (good_parts h).2.2 (base := 0) (by omega) (by omega)).2]
  exact h
theorem plain_good {x : Tm} (h : (plainE x).2 = 0) : goodT (plainE x).1 = true := by
  unfold plainE at h ⊢
  by_cases hx : goodT x = true
  · rw [if_pos hx]; exact ren0_good hx
  · rw [if_neg hx] at h; cases h
theorem alikeB_of (x y : Tm) : alikeB x y = (decide ((plainE x).2 = 0) && decide ((plainE y).2 = 0) && sameT (plainE x).1 (plainE y).1) := by
  unfold alikeB plainE
  cases hx : goodT x <;> cases hy : goodT y <;> simp
set_option maxHeartbeats 8000000 in
set_option maxRecDepth 100000 in
theorem pAlike_at (x y : Tm) (w : World) (vx vy : Value) (hvx : TmV w x vx) (hvy : TmV w y vy) : Calls Try.prog 55 #[vx, vy] w fun e w' => e = .returned (.bool (alikeB x y)) ∧ Below w.heap.size w w' := by
  obtain ⟨k, n, s, a, m, c, rfl⟩ := hvx.full
  obtain ⟨k', n', s', a', m', c', rfl⟩ := hvy.full
  obtain ⟨w1, e1, B1, z1, X1⟩ := box_new w #[.int .i64 k, .int .i64 n, .string s, .slice a m c] 31
  obtain ⟨w2, e2, B2, z2, X2⟩ := box_new w1 #[.int .i64 k', .int .i64 n', .string s', .slice a' m' c'] 31
  have X1 := X1.ext B2
  have B12 := Ext.trans' B1 B2
  rw [z1] at X2 z2
  obtain ⟨x0, x1, x2, x3, _⟩ := X1.four
  have HE := Lib.hid (And.intro e1 e2)
  have HB2 := Lib.hid (And.intro B12 (And.intro X1 X2))
  have HVY := Lib.hid (fun (wq : World) (hb : Below w.heap.size w wq) => Plain_at y wq _ (TmV.ext hb _ _ hvy))
  have C := Plain_at x w2 _ (TmV.ext B12 _ _ hvx)
  unfold PlainP at C HVY
  have hal := alikeB_of x y
  have hxe : (plainE x).2 = 0 ∨ (plainE x).2 = 1 := by unfold plainE; split; exact Or.inl rfl; exact Or.inr rfl
  have hye : (plainE y).2 = 0 ∨ (plainE y).2 = 1 := by unfold plainE; split; exact Or.inl rfl; exact Or.inr rfl
  have hgx := @plain_good x
  have hgy := @plain_good y
  obtain ⟨T, hT⟩ : ∃ T, (plainE x).1 = T := ⟨_, rfl⟩
  obtain ⟨U, hU⟩ : ∃ T, (plainE y).1 = T := ⟨_, rfl⟩
  obtain ⟨er, her⟩ : ∃ T, (plainE x).2 = T := ⟨_, rfl⟩
  obtain ⟨eq, heq⟩ : ∃ T, (plainE y).2 = T := ⟨_, rfl⟩
  rw [hT, her] at C
  rw [hU, heq] at HVY
  rw [hal, hT, her, hU, heq]
  rw [her] at hxe
  rw [heq] at hye
  rw [hT, her] at hgx
  rw [hU, heq] at hgy
  have HG := Lib.hid (And.intro hgx hgy)
  obtain ⟨A, hA⟩ : ∃ A, (decide (er = 0) && decide (eq = 0) && sameT T U) = A := ⟨_, rfl⟩
  rw [hA]
  have HA := Lib.hid hA
  clear hgx hgy hA
  clear B1 B2 z1 e1 e2 B12 X1 X2 hvx hvy z2 hal hT hU her heq
  go_enter Try.func55, Try.ntmps55
  go_upto_region 1 with fail
  (try rw [HE.out.1, HE.out.2])
  (go_wp2_with fail; go_fit (C); rintro e w3 ⟨r, rfl, ht, b3⟩)
  obtain ⟨k3, n3, s3, a3, m3, c3, rfl, f1, f2, f3, f4⟩ := four_of ht
  obtain ⟨w4, e4, b4, z4, x4⟩ := box_new w3 #[.int .i64 k3, .int .i64 n3, .string s3, .slice a3 m3 c3] 31
  have HB4 := Lib.hid (Ext.trans' HB2.out.1 (Ext.trans' b3 b4))
  have HX4 := Lib.hid (And.intro (HB2.out.2.2.ext (Ext.trans' b3 b4)) x4)
  have HT4 := Lib.hid (TmV.ext b4 _ _ ht.bare)
  have HE4 := Lib.hid e4
  clear f1 f2 f3 f4 ht b3 b4 z4 x4 e4 C x0 x1 x2 x3
  obtain ⟨x0, x1, x2, x3, _⟩ := HX4.out.1.four
  have C := HVY.out w4 HB4.out
  go_upto_region 2 with fail
  (try rw [HE4.out])
  (go_wp2_with fail; go_fit (C); rintro e w5 ⟨r, rfl, ht, b5⟩)
  obtain ⟨k5, n5, s5, a5, m5, c5, rfl, f1, f2, f3, f4⟩ := four_of ht
  obtain ⟨w6, e6, b6, z6, x6⟩ := box_new w5 #[.int .i64 k5, .int .i64 n5, .string s5, .slice a5 m5 c5] 31
  have HB6 := Lib.hid (Ext.trans' HB4.out (Ext.trans' b5 b6))
  have HX6 := Lib.hid (And.intro (HX4.out.2.ext (Ext.trans' b5 b6)) x6)
  have HT6 := Lib.hid (And.intro (TmV.ext (Ext.trans' b5 b6) _ _ HT4.out) (TmV.ext b6 _ _ ht.bare))
  have HE6 := Lib.hid e6
  clear f1 f2 f3 f4 ht b5 b6 z6 x6 e6 C x0 x1 x2 x3
  obtain ⟨x0, x1, x2, x3, _⟩ := HX6.out.1.four
  obtain ⟨y0, y1, y2, y3, _⟩ := HX6.out.2.four
  have C := Same_at HT6.out.1 HT6.out.2
  go_upto_region 3 with fail
  (try rw [HE6.out])
  rcases hxe with rfl | rfl
  · rcases hye with rfl | rfl
    · rw [HG.out.1 rfl, HG.out.2 rfl] at C
      rw [show (true && true && sameT T U) = A from HA.out] at C
      (go_wp2_with fail; go_fit (C); rintro e w7 ⟨rfl, b7⟩)
      have HB7 := Lib.hid (Ext.trans' HB6.out b7)
      clear b7
      go_wp2
      go_ret
      exact ⟨rfl, HB7.out⟩
    · obtain rfl : A = false := HA.out.symm
      clear HA C
      go_wp2
      go_ret
      exact ⟨rfl, HB6.out⟩
  · obtain rfl : A = false := HA.out.symm
    clear HA C
    go_wp2
    go_ret
    exact ⟨rfl, HB6.out⟩
set_option maxHeartbeats 4000000 in
set_option maxRecDepth 100000 in
theorem Ground_at (x : Tm) (w : World) (v : Value) (hv : TmV w x v) : Calls Try.prog 56 #[v] w fun e w' => e = .returned (.bool (goodT x && decide (varsT x [] = []))) ∧ Below w.heap.size w w' := by
  obtain ⟨k, n, s, a, m, c, rfl⟩ := hv.full
  obtain ⟨w1, e1, B1, z1, X1⟩ := box_new w #[.int .i64 k, .int .i64 n, .string s, .slice a m c] 31
  have HE := Lib.hid e1
  have HB1 := Lib.hid (And.intro B1 X1)
  obtain ⟨x0, x1, x2, x3, _⟩ := X1.four
  have C := Good_at x w1 _ (TmV.ext B1 _ _ hv)
  have HVR := Lib.hid (fun (wq : World) (hb : Below w.heap.size w wq) => Vars_at x wq _ (TmV.ext hb _ _ hv))
  clear B1 z1 e1 X1 hv
  cases hg : goodT x
  · rw [hg] at C
    clear hg
    go_enter Try.func56, Try.ntmps56
    go_upto_region 1 with fail
    (try rw [HE.out])
    (go_wp2_with fail; go_fit (C); rintro e w3 ⟨rfl, b3⟩)
    have HB3 := Lib.hid (Ext.trans' HB1.out.1 b3)
    clear b3
    go_wp2
    go_ret
    exact ⟨rfl, HB3.out⟩
  · rw [hg] at C
    rw [hg, if_pos rfl] at HVR
    clear hg
    obtain ⟨l, hl⟩ : ∃ l, varsT x [] = l := ⟨_, rfl⟩
    rw [hl] at HVR ⊢
    clear hl
    have he : decide (l = []) = (((l.length : Nat) : Int) == 0) := by cases l <;> simp <;> omega
    rw [he]
    obtain ⟨L, hL⟩ : ∃ L, l.length = L := ⟨_, rfl⟩
    have HL := Lib.hid hL
    rw [hL]
    clear he hL
    go_enter Try.func56, Try.ntmps56
    go_upto_region 1 with fail
    (try rw [HE.out])
    (go_wp2_with fail; go_fit (C); rintro e w3 ⟨rfl, b3⟩)
    have HB3 := Lib.hid (Ext.trans' HB1.out.1 b3)
    obtain ⟨x0, x1, x2, x3, _⟩ := (HB1.out.2.ext b3).four
    clear b3 C
    have C := HVR.out w3 HB3.out
    (go_wp2_with fail; go_fit (C); rintro e w4 ⟨rv, rfl, hnv, b4⟩)
    obtain ⟨ra, rc, rfl, hrc1, hrc2⟩ := hnv.len
    have HB4 := Lib.hid (Ext.trans' HB3.out b4)
    rw [HL.out]
    clear hnv b4 C hrc1 hrc2
    go_wp2
    go_ret
    exact ⟨rfl, HB4.out⟩
end Go.Proofs.Ytbbbgijlbcmpbaa
/- Terms made beside a Binds: Comp apart from hidden blocks; two leaves in a row. -/
namespace Go.Proofs.Ytbbbgijlbcmpbaa
open Go.RowKit
set_option linter.unusedVariables false

theorem comp_hide {D : Nat → Bool} {w : World} {v : Value} {l : List Tm} (s : ByteArray) (hs : s.size ≤ BIG) (hD : Old D w) (h : Tms (hide D w) v l) :
    Calls Try.prog 20 #[.string s, v] w fun e w' => ∃ a c, e = .returned (.agg #[.int .i64 2, .int .i64 0, .string s, .slice a l.length c]) ∧ TmV (hide D w') (.mk 2 0 s l) (.agg #[.int .i64 2, .int .i64 0, .string s, .slice a l.length c]) ∧ Below w.heap.size w w' := by
  obtain ⟨ps, ao, c, rfl, hpl, hpm, hpa, hbig, hsrc⟩ := h.pairs
  refine (comp_ps (c := c) ps s hpl hbig (pCells_one ps hpa) (hsrc.imp id (fun ⟨ad, e, hc⟩ => ⟨ad, e, fun j u hj => (Stays.unhide D w).2 _ _ (hc j u hj)⟩))).mono ?_
  rintro e w' ⟨a, c', rfl, hR, hB⟩
  refine ⟨a, c', rfl, ?_, hB⟩
  have hT := (hR.hide (D := D) (fun k hk _ => hD k (by omega))).terms (fun p hp => TmV.later hB (hpa p hp)) (by rw [hpl]; exact hbig)
  rw [hpm] at hT
  exact tmV_iff.2 ⟨_, rfl, hs, i64_2, i64_0, hT⟩
end Go.Proofs.Ytbbbgijlbcmpbaa
/- Stage 13's laws: binds, awake. -/
namespace Go.Proofs.Ytbbbgijlbcmpbaa
open Go.RowKit
set_option linter.unusedVariables false

theorem big_0 : (⟨#[]⟩ : ByteArray).size ≤ BIG := by unfold BIG; decide
theorem big_1 (c : UInt8) : (⟨#[c]⟩ : ByteArray).size ≤ BIG := by show 1 ≤ BIG; unfold BIG; omega
theorem var_rd (w : World) (n : Int) (h : I64 n) : TmV w (varV n) (.agg #[.int .i64 0, .int .i64 n, .string ⟨#[]⟩, .slice none 0 0]) := leaf_tm w i64_0 h big_0
theorem int_rd (w : World) (n : Int) (h : I64 n) : TmV w (intT n) (.agg #[.int .i64 1, .int .i64 n, .string ⟨#[]⟩, .slice none 0 0]) := leaf_tm w i64_1 h big_0
/-- Comp of three variables. -/
theorem comp_three {w : World} (t : ByteArray) (ht : t.size ≤ BIG) {n1 n2 n3 : Int} (h1 : I64 n1) (h2 : I64 n2) (h3 : I64 n3) :
    Calls Try.prog 20 #[.string t, .slice (some ⟨w.heap.size, 0, none⟩) 3 3] (w.alloc (.cells #[.int .i64 0, .int .i64 n1, .string ⟨#[]⟩, .slice none 0 0, .int .i64 0, .int .i64 n2, .string ⟨#[]⟩, .slice none 0 0, .int .i64 0, .int .i64 n3, .string ⟨#[]⟩, .slice none 0 0] 31))
      fun e w' => ∃ a c, e = .returned (.agg #[.int .i64 2, .int .i64 0, .string t, .slice a 3 c]) ∧ TmV w' (.mk 2 0 t [varV n1, varV n2, varV n3]) (.agg #[.int .i64 2, .int .i64 0, .string t, .slice a 3 c]) ∧ Below w.heap.size w w' := by
  obtain ⟨w1, e1, B1, z1, X1⟩ := box_new w #[.int .i64 0, .int .i64 n1, .string ⟨#[]⟩, .slice none 0 0, .int .i64 0, .int .i64 n2, .string ⟨#[]⟩, .slice none 0 0, .int .i64 0, .int .i64 n3, .string ⟨#[]⟩, .slice none 0 0] 31
  rw [e1]
  have hc : ∀ j u, [Value.int .i64 0, .int .i64 n1, .string ⟨#[]⟩, .slice none 0 0, .int .i64 0, .int .i64 n2, .string ⟨#[]⟩, .slice none 0 0, .int .i64 0, .int .i64 n3, .string ⟨#[]⟩, .slice none 0 0][j]? = some u → (hide (fun _ => false) w1).cell? ⟨w.heap.size, j, none⟩ = some u := fun j u hj => by
    rw [hide_none]
    exact X1.cells j u hj
  have hT : Tms (hide (fun _ => false) w1) (.slice (some ⟨w.heap.size, 0, none⟩) 3 3) [varV n1, varV n2, varV n3] := by
    refine ⟨some ⟨w.heap.size, 0, none⟩, 3, rfl, by simp, by unfold maxLen; omega, by unfold BIG; simp, Or.inr ⟨_, 0, rfl, by rw [hide_size]; exact X1.lt, ?_⟩⟩
    rw [TmRow, TmRow, TmRow, TmRow]
    exact ⟨⟨_, _, _, _, hc 0 _ rfl, hc 1 _ rfl, hc 2 _ rfl, hc 3 _ rfl, var_rd _ _ h1⟩, ⟨_, _, _, _, hc 4 _ rfl, hc 5 _ rfl, hc 6 _ rfl, hc 7 _ rfl, var_rd _ _ h2⟩, ⟨_, _, _, _, hc 8 _ rfl, hc 9 _ rfl, hc 10 _ rfl, hc 11 _ rfl, var_rd _ _ h3⟩, trivial⟩
  refine (comp_hide t ht (fun _ _ => rfl) hT).mono ?_
  rintro e w' ⟨a, c, rfl, h, b⟩
  exact ⟨a, c, rfl, h.bare, Ext.trans' B1 b⟩
def f737 : Tm := .mk 2 0 ⟨#[102]⟩ [varV 7, varV 3, varV 7]
def f010 : Tm := .mk 2 0 ⟨#[102]⟩ [varV 0, varV 1, varV 0]
theorem plain_737 : plainE f737 = (f010, 0) := by kernel_rfl
theorem good_010 : goodT f010 = true := by decide +kernel
theorem ground_1 : (goodT (intT 1) && decide (varsT (intT 1) [] = [])) = true := by kernel_rfl
set_option maxHeartbeats 8000000 in
set_option maxRecDepth 100000 in
theorem aawake_at (w : World) : Calls Try.prog 52 #[] w fun e w' => e = .returned (.bool true) ∧ Below w.heap.size w w' := by
  go_enter Try.func52, Try.ntmps52
  (go_wp2_with fail; go_fit (var_at _ 7); rintro e w1 ⟨rfl, b1⟩)
  (go_wp2_with fail; go_fit (var_at _ 3); rintro e w2 ⟨rfl, b2⟩)
  (go_wp2_with fail; go_fit (var_at _ 7); rintro e w3 ⟨rfl, b3⟩)
  have HB3 := Lib.hid (Ext.trans' b1 (Ext.trans' b2 b3))
  have C := comp_three (w := w3) ⟨#[102]⟩ (big_1 _) (n1 := 7) (n2 := 3) (n3 := 7) (by unfold I64; omega) (by unfold I64; omega) (by unfold I64; omega)
  clear b1 b2 b3
  (go_wp2_with fail; go_fit (C); rintro e w5 ⟨a5, c5, rfl, ht5, b5⟩)
  have HB5 := Lib.hid (Ext.trans' HB3.out b5)
  have C := Plain_at f737 w5 _ ht5
  rw [plain_737] at C
  unfold PlainP at C
  clear b5 ht5
  (go_wp2_with fail; go_fit (C); rintro e w6 ⟨r, rfl, ht6, b6⟩)
  obtain ⟨k6, n6, s6, a6, m6, c6, rfl, f1, f2, f3, f4⟩ := four_of ht6
  obtain ⟨w7, e7, b7, z7, x7⟩ := box_new w6 #[.int .i64 k6, .int .i64 n6, .string s6, .slice a6 m6 c6] 31
  have HB7 := Lib.hid (Ext.trans' HB5.out (Ext.trans' b6 b7))
  have HT7 := Lib.hid (TmV.ext b7 _ _ ht6.bare)
  have HX7 := Lib.hid x7
  have HE7 := Lib.hid e7
  clear f1 f2 f3 f4 ht6 b6 b7 z7 x7 e7 C
  go_upto_region 2 with fail
  (try rw [HE7.out])
  obtain ⟨x0, x1, x2, x3, _⟩ := HX7.out.four
  refine wp_region_held_drew (S := fun w' => (w'.cell? ⟨w6.heap.size, 0, none⟩ = some (.int .i64 k6) ∧ w'.cell? ⟨w6.heap.size, 1, none⟩ = some (.int .i64 n6) ∧ w'.cell? ⟨w6.heap.size, 2, none⟩ = some (.string s6) ∧ w'.cell? ⟨w6.heap.size, 3, none⟩ = some (.slice a6 m6 c6)) ∧ Below w7.heap.size w7 w') (by kernel_rfl) ⟨⟨x0, x1, x2, x3⟩, (Below.refl _ _).drew⟩ (fun hHeld => ?_)
  first | (refine held_t (i := 0) hHeld ?_; apply Exists.intro; refine ⟨fun wq hq => ?_, ?_⟩; (focus ((try dsimp only at hq); go_simp; (first | done | with_reducible rfl | fail)))) | refine held_s (i := 0) hHeld ?_ | fail
  first | (refine held_t (i := 1) hHeld ?_; apply Exists.intro; refine ⟨fun wq hq => ?_, ?_⟩; (focus ((try dsimp only at hq); go_simp; (first | done | with_reducible rfl | fail)))) | refine held_s (i := 1) hHeld ?_ | fail
  try simp only [Act.put, List.setIfInBounds_toArray, List.set_cons_zero, List.set_cons_succ]
  first | (refine held_t (i := 2) hHeld ?_; apply Exists.intro; refine ⟨fun wq hq => ?_, ?_⟩; (focus ((try dsimp only at hq); go_simp; (first | done | with_reducible rfl | fail)))) | refine held_s (i := 2) hHeld ?_ | fail
  first | (refine held_t (i := 3) hHeld ?_; apply Exists.intro; refine ⟨fun wq hq => ?_, ?_⟩; (focus ((try dsimp only at hq); go_simp; (first | done | with_reducible rfl | fail)))) | refine held_s (i := 3) hHeld ?_ | fail
  try simp only [Act.put, List.setIfInBounds_toArray, List.set_cons_zero, List.set_cons_succ]
  refine held_c 4 fun K hK => ?_
  go_simp
  (go_at_call 19; refine (var_at _ 0).mono ?_; rintro e u1 ⟨rfl, h6⟩)
  refine hK.out _ _ (⟨⟨cell_later h6 hHeld.1.1, cell_later h6 hHeld.1.2.1, cell_later h6 hHeld.1.2.2.1, cell_later h6 hHeld.1.2.2.2⟩, Ext.trans' hHeld.2 h6⟩) (fun hHeld => ?_)
  clear hK K
  try simp only [Act.put, List.setIfInBounds_toArray, List.set_cons_zero, List.set_cons_succ]
  refine held_c 5 fun K hK => ?_
  go_simp
  (go_at_call 19; refine (var_at _ 1).mono ?_; rintro e u2 ⟨rfl, h6⟩)
  refine hK.out _ _ (⟨⟨cell_later h6 hHeld.1.1, cell_later h6 hHeld.1.2.1, cell_later h6 hHeld.1.2.2.1, cell_later h6 hHeld.1.2.2.2⟩, Ext.trans' hHeld.2 h6⟩) (fun hHeld => ?_)
  clear hK K
  try simp only [Act.put, List.setIfInBounds_toArray, List.set_cons_zero, List.set_cons_succ]
  refine held_c 6 fun K hK => ?_
  go_simp
  (go_at_call 19; refine (var_at _ 0).mono ?_; rintro e u3 ⟨rfl, h6⟩)
  refine hK.out _ _ (⟨⟨cell_later h6 hHeld.1.1, cell_later h6 hHeld.1.2.1, cell_later h6 hHeld.1.2.2.1, cell_later h6 hHeld.1.2.2.2⟩, Ext.trans' hHeld.2 h6⟩) (fun hHeld => ?_)
  clear hK K
  try simp only [Act.put, List.setIfInBounds_toArray, List.set_cons_zero, List.set_cons_succ]
  have HU3 := Lib.hid (hHeld.2.trans (Below.refl _ _))
  have C := comp_three (w := u3) ⟨#[102]⟩ (big_1 _) (n1 := 0) (n2 := 1) (n3 := 0) i64_0 i64_1 i64_0
  refine held_c 7 fun K hK => ?_
  go_simp
  skip
  refine hK.out _ _ (⟨⟨cell_later (bel1' _ _) hHeld.1.1, cell_later (bel1' _ _) hHeld.1.2.1, cell_later (bel1' _ _) hHeld.1.2.2.1, cell_later (bel1' _ _) hHeld.1.2.2.2⟩, Ext.trans' hHeld.2 (bel1' _ _)⟩) (fun hHeld => ?_)
  clear hK K
  try simp only [Act.put, List.setIfInBounds_toArray, List.set_cons_zero, List.set_cons_succ]
  refine held_c 8 fun K hK => ?_
  go_simp
  (go_at_call 20; refine C.mono ?_; rintro e u4 ⟨a8, c8, rfl, ht8, h6'⟩; have HT8 := Lib.hid (show TmV u4 f010 _ from ht8); have h6 : Below w7.heap.size w7 u4 := Ext.trans' HU3.out h6'; clear ht8)
  refine hK.out _ _ (⟨⟨cell_later h6 HX7.out.four.1, cell_later h6 HX7.out.four.2.1, cell_later h6 HX7.out.four.2.2.1, cell_later h6 HX7.out.four.2.2.2.1⟩, h6⟩) (fun hHeld => ?_)
  clear hK K
  try simp only [Act.put, List.setIfInBounds_toArray, List.set_cons_zero, List.set_cons_succ]
  refine held_c 9 fun K hK => ?_
  go_simp
  (go_at_call 25; refine (Same_at (TmV.ext hHeld.2 _ _ HT7.out) HT8.out).mono ?_; rintro e u5 ⟨rfl, h6⟩; rw [good_010, same_self])
  refine hK.out _ _ (⟨⟨cell_later h6 hHeld.1.1, cell_later h6 hHeld.1.2.1, cell_later h6 hHeld.1.2.2.1, cell_later h6 hHeld.1.2.2.2⟩, Ext.trans' hHeld.2 h6⟩) (fun hHeld => ?_)
  clear hK K
  try simp only [Act.put, List.setIfInBounds_toArray, List.set_cons_zero, List.set_cons_succ]
  first | (refine held_t (i := 10) hHeld ?_; apply Exists.intro; refine ⟨fun wq hq => ?_, ?_⟩; (focus ((try dsimp only at hq); go_simp; (first | done | with_reducible rfl | fail)))) | refine held_s (i := 10) hHeld ?_ | fail
  first | (refine held_t (i := 11) hHeld ?_; apply Exists.intro; refine ⟨fun wq hq => ?_, ?_⟩; (focus ((try dsimp only at hq); go_simp; (first | done | with_reducible rfl | fail)))) | refine held_s (i := 11) hHeld ?_ | fail
  try simp only [Act.put, List.setIfInBounds_toArray, List.set_cons_zero, List.set_cons_succ]
  refine held_c 12 fun K hK => ?_
  go_simp
  (go_at_call 18; refine (int_at _ 1).mono ?_; rintro e u6 ⟨rfl, h6⟩)
  refine hK.out _ _ (⟨⟨cell_later h6 hHeld.1.1, cell_later h6 hHeld.1.2.1, cell_later h6 hHeld.1.2.2.1, cell_later h6 hHeld.1.2.2.2⟩, Ext.trans' hHeld.2 h6⟩) (fun hHeld => ?_)
  clear hK K
  try simp only [Act.put, List.setIfInBounds_toArray, List.set_cons_zero, List.set_cons_succ]
  refine held_c 13 fun K hK => ?_
  go_simp
  (go_at_call 56; refine (Ground_at (intT 1) _ _ (int_rd _ _ i64_1)).mono ?_; rintro e u7 ⟨rfl, h6⟩; rw [ground_1])
  refine hK.out _ _ (⟨⟨cell_later h6 hHeld.1.1, cell_later h6 hHeld.1.2.1, cell_later h6 hHeld.1.2.2.1, cell_later h6 hHeld.1.2.2.2⟩, Ext.trans' hHeld.2 h6⟩) (fun hHeld => ?_)
  clear hK K
  try simp only [Act.put, List.setIfInBounds_toArray, List.set_cons_zero, List.set_cons_succ]
  first | (refine held_t (i := 14) hHeld ?_; apply Exists.intro; refine ⟨fun wq hq => ?_, ?_⟩; (focus ((try dsimp only at hq); go_simp; (first | done | with_reducible rfl | fail)))) | refine held_s (i := 14) hHeld ?_ | fail
  try simp only [Act.put, List.setIfInBounds_toArray, List.set_cons_zero, List.set_cons_succ]
  first | (refine held_t (i := 15) hHeld ?_; apply Exists.intro; refine ⟨fun wq hq => ?_, ?_⟩; (focus ((try dsimp only at hq); go_simp; (first | done | with_reducible rfl | fail)))) | refine held_s (i := 15) hHeld ?_ | fail
  try simp only [Act.put, List.setIfInBounds_toArray, List.set_cons_zero, List.set_cons_succ]
  have HEND := Lib.hid (Ext.trans' HB7.out hHeld.2)
  clear hHeld
  refine wpAnyH_done (by kernel_rfl) ?_ _
  go_wp2
  go_ret
  exact ⟨rfl, HEND.out⟩
end Go.Proofs.Ytbbbgijlbcmpbaa
/- Stage 11's laws: how deep a term is asked of. -/
namespace Go.Proofs.Ytbbbgijlbcmpbaa
open Go.RowKit
set_option linter.unusedVariables false

set_option maxHeartbeats 2000000 in
theorem deep13_at : ∀ (N : Nat) (x : Tm), sizeN x ≤ N → ∀ (left : Int), I64 left → ∀ (w : World) (v : Value), TmV w x v →
    Calls Try.prog 57 #[v, .int .i64 left] w fun e w' => e = .returned (.bool (deepT x left)) ∧ Below w.heap.size w w'
  | 0, x, h, left, hl, w, v, hv => by have := size_pos x; omega
  | N + 1, .mk k n s ts, h, left, hl, w, v, hv => by
    obtain ⟨u, rfl, hs, hk, hn, hu⟩ := tmV_iff.1 hv
    obtain ⟨a, c, rfl, h1, h2, h3⟩ := hu.len
    unfold BIG at h3
    unfold I64 at hl
    have hD : deepT (.mk k n s ts) left = if left < 1 ∨ 12 < ts.length then true else deepsT ts (left - 1) := by rw [deepT]
    by_cases hlt : left < 1
    · rw [hD, if_pos (Or.inl hlt)]
      clear hD
      go_enter Try.func57, Try.ntmps57
      go_wp2
      go_ret
      exact ⟨rfl, bel1' _ _⟩
    obtain ⟨m, hm⟩ : ∃ m, ts.length = m := ⟨_, rfl⟩
    by_cases h12 : 12 < m
    · rw [hD, if_pos (Or.inr (by rw [hm]; exact h12))]
      rw [hm] at h1 h3 ⊢
      clear hD hv hu hm
      go_enter Try.func57, Try.ntmps57
      go_wp2
      go_ret
      exact ⟨rfl, bel1' _ _⟩
    rw [hD, if_neg (by rw [hm]; omega)]
    have hI : I64 (left - 1) := by unfold I64; omega
    have IH := Lib.hid (fun (y : Tm) (hy : y ∈ ts) => deep13_at N y (mem_size h hy) (left - 1) hI)
    have HU := Lib.hid hu
    have HM := Lib.hid hm
    rw [hm] at h1 h3 hu HU ⊢
    obtain ⟨r, hr⟩ : ∃ r, deepsT ts (left - 1) = r := ⟨_, rfl⟩
    rw [hr]
    have HR := Lib.hid hr
    clear hD hv hu hm hr h
    go_enter Try.func57, Try.ntmps57
    go_wp2_with fail
    go_loopw [5] (fun v wr => ∃ i : Nat, i ≤ m ∧ v = .int .i64 i ∧ Hid (deepsT (ts.drop i) (left - 1) = r) ∧ Hid (Below (w.alloc (.cells #[.int .i64 k, .int .i64 n, .string s, .slice a m c] 31)).heap.size (w.alloc (.cells #[.int .i64 k, .int .i64 n, .string s, .slice a m c] 31)) wr)) (fun v _ => m - (intOf v).toNat)
    case atStart => exact ⟨0, Nat.zero_le _, rfl, Lib.hid (by rw [List.drop_zero]; exact HR.out), Lib.hid (Below.refl _ _)⟩
    case round =>
      obtain ⟨i, hi, rfl, HD, HB⟩ := hrel
      obtain ⟨e0, e1, e2, e3⟩ := box_cells w 31 _ _ _ _ HB.out
      by_cases hil : i < m
      · obtain ⟨y, hy⟩ : ∃ y, ts[i]? = some y := ⟨_, List.getElem?_eq_getElem (by rw [HM.out]; exact hil)⟩
        have hdr : ts.drop i = y :: ts.drop (i + 1) := by
          obtain ⟨hlt', rfl⟩ := List.getElem?_eq_some_iff.1 hy
          exact List.drop_eq_getElem_cons hlt'
        have hd := HD.out
        rw [hdr, deepsT] at hd
        have HBW := Lib.hid (Ext.trans' (bel1' w _) HB.out)
        obtain ⟨b, off, k', n', s', u', rfl, hbb, _, _, _, c0, c1, c2, c3, _, ht⟩ := (HU.out.ext HBW.out).get hy
        have ih := IH.out y (List.mem_of_getElem? hy) wr _ ht
        clear hdr HD ht
        cases hq : deepT y (left - 1)
        · rw [hq, Bool.false_or] at hd
          rw [hq] at ih
          have HD := Lib.hid hd
          clear hq hd hy
          (go_wp2_with fail; go_fit (ih); rintro e w2 ⟨rfl, b2⟩)
          have B2 := Lib.hid (Ext.trans' HB.out b2)
          clear b2
          go_wp2
          go_roundw
          case rel => exact ⟨i + 1, by omega, by go_num, HD, B2⟩
          case measure => simp [intOf]; omega
        · rw [hq, Bool.true_or] at hd
          rw [hq] at ih
          subst hd
          clear hq hy HR
          (go_wp2_with fail; go_fit (ih); rintro e w2 ⟨rfl, b2⟩)
          have B2 := Lib.hid (Ext.trans' HBW.out b2)
          clear b2
          go_wp2
          go_ret
          exact ⟨rfl, B2.out⟩
      · have hd := HD.out
        rw [List.drop_eq_nil_of_le (by rw [HM.out]; omega), deepsT] at hd
        subst hd
        clear HR HD
        go_wp2
        go_ret
        exact ⟨rfl, Ext.trans' (bel1' w _) HB.out⟩
end Go.Proofs.Ytbbbgijlbcmpbaa
/- Stage 13's laws: AliasFrom. -/
namespace Go.Proofs.Ytbbbgijlbcmpbaa
open Go.RowKit
set_option linter.unusedVariables false

/-- What From answers, in three ways. -/
theorem fromE_cases (first : Int) (x : Tm) : (∃ e, fromE first x = (varV 0, 0, e) ∧ (e = 1 ∨ e = 3) ∧ (goodT x = false ∨ first < 0 ∨ 2147483647 < first + ((varsT x []).length : Int))) ∨
    (goodT x = true ∧ 0 ≤ first ∧ first + ((varsT x []).length : Int) ≤ 2147483648 ∧ first ≤ 2147483647 ∧ fromE first x = (renT first x, first + ((varsT x []).length : Int), 0)) := by
  unfold fromE
  by_cases h : goodT x = true ∧ 0 ≤ first ∧ first ≤ 2147483647
  · rw [if_pos h]
    by_cases h2 : first + ((varsT x []).length : Int) ≤ 2147483648
    · rw [if_pos h2]
      exact Or.inr ⟨h.1, h.2.1, h2, h.2.2, rfl⟩
    · rw [if_neg h2]
      exact Or.inl ⟨3, rfl, Or.inr rfl, Or.inr (Or.inr (by omega))⟩
  · rw [if_neg h]
    refine Or.inl ⟨1, rfl, Or.inl rfl, ?_⟩
    cases hg : goodT x
    · exact Or.inl rfl
    · by_cases h0 : first < 0
      · exact Or.inr (Or.inl h0)
      · exact Or.inr (Or.inr (by have : ¬ first ≤ 2147483647 := fun q => h ⟨hg, by omega, q⟩; omega))
set_option maxHeartbeats 16000000 in
set_option maxRecDepth 100000 in
theorem from_walk {W : World} {vx : Value} {x : Tm} (hx : TmV W x vx) {first : Int} (hfi : I64 first) : Calls Try.prog 12 #[vx, .int .i64 first] W fun e w' => IsBool W true e w' := by
  obtain ⟨k, n, s, a, m, c, rfl⟩ := hx.full
  obtain ⟨w1, e1, B1, z1, X1⟩ := box_new W #[.int .i64 k, .int .i64 n, .string s, .slice a m c] 31
  have HE := Lib.hid e1
  have HB1 := Lib.hid (And.intro B1 X1)
  have HV := Lib.hid (fun (wq : World) (hb : Below W.heap.size W wq) => TmV.ext hb _ _ hx)
  have DX := Lib.hid (fun (wq : World) (hb : Below W.heap.size W wq) => deep13_at _ x (Nat.le_refl _) 40 (by unfold I64; omega) wq _ (TmV.ext hb _ _ hx))
  have HFI := Lib.hid hfi
  clear B1 z1 e1 X1 hx hfi
  go_enter Try.func12, Try.ntmps12
  go_upto_region 1 with fail
  (try rw [HE.out])
  (go_wp2_with fail; go_fit (aawake_at _); rintro e w2 ⟨rfl, b2⟩)
  have HB2 := Lib.hid (Ext.trans' HB1.out.1 b2)
  have HX2 := Lib.hid (HB1.out.2.ext b2)
  clear b2
  obtain ⟨x0, x1, x2, x3, _⟩ := HX2.out.four
  have C := DX.out w2 HB2.out
  cases hdx : deepT x 40
  rotate_left
  · rw [hdx] at C
    clear hdx
    (go_wp2_with fail; go_fit (C); rintro e w3 ⟨rfl, b3⟩)
    have HB3 := Lib.hid (Ext.trans' HB2.out b3)
    clear b3 C
    go_wp2
    go_ret
    exact ⟨rfl, HB3.out⟩
  rw [hdx] at C
  clear hdx
  (go_wp2_with fail; go_fit (C); rintro e w3 ⟨rfl, b3⟩)
  have HB3 := Lib.hid (Ext.trans' HB2.out b3)
  have HX3 := Lib.hid (HX2.out.ext b3)
  clear b3 C x0 x1 x2 x3
  obtain ⟨x0, x1, x2, x3, _⟩ := HX3.out.four
  have C := pFrom_at x first HFI.out w3 _ (HV.out w3 HB3.out)
  unfold FromP at C
  have hcs := fromE_cases first x
  obtain ⟨L, hL⟩ : ∃ L, (varsT x []).length = L := ⟨_, rfl⟩
  have HL := Lib.hid hL
  rw [hL] at hcs
  clear hL
  rcases hcs with ⟨er, he, her, hwhy⟩ | ⟨hg, hf0, hf1, hf2, he⟩
  · rw [he] at C
    clear he
    (go_wp2_with fail; go_fit (C); rintro e w4 ⟨r, rfl, ht4, b4⟩)
    obtain ⟨k4, n4, s4, a4, m4, c4, rfl, f1, f2, f3, f4⟩ := four_of ht4
    obtain ⟨w5, e5, b5, z5, x5⟩ := box_new w4 #[.int .i64 k4, .int .i64 n4, .string s4, .slice a4 m4 c4] 31
    have HB5 := Lib.hid (Ext.trans' HB3.out (Ext.trans' b4 b5))
    have HX5 := Lib.hid (HX3.out.ext (Ext.trans' b4 b5))
    have HE5 := Lib.hid e5
    clear ht4 f1 f2 f3 f4 b4 b5 z5 x5 e5 C x0 x1 x2 x3
    obtain ⟨x0, x1, x2, x3, _⟩ := HX5.out.four
    have hne : (er != 0) = true := by rcases her with rfl | rfl <;> rfl
    clear her
    go_upto_region 6 with fail
    (try rw [HE5.out])
    have C := Good_at x w5 _ (HV.out w5 HB5.out)
    cases hg : goodT x
    · rw [hg] at C
      clear hg hwhy
      (go_wp2_with fail; go_fit (C); rintro e w6 ⟨rfl, b6⟩)
      have HB6 := Lib.hid (Ext.trans' HB5.out b6)
      clear b6 C
      go_wp2
      go_ret
      exact ⟨rfl, HB6.out⟩
    · have hsz := varsT_2000 hg
      rw [hg] at C
      (go_wp2_with fail; go_fit (C); rintro e w6 ⟨rfl, b6⟩)
      have HB6 := Lib.hid (Ext.trans' HB5.out b6)
      have HX6 := Lib.hid (HX5.out.ext b6)
      clear b6 C x0 x1 x2 x3
      by_cases h0 : first < 0
      · have h02 : decide (first < 0) = true := by simpa using h0
        clear hwhy hg hsz
        go_wp2
        go_ret
        exact ⟨rfl, HB6.out⟩
      · have h02 : decide (first < 0) = false := by simpa using h0
        obtain ⟨x0, x1, x2, x3, _⟩ := HX6.out.four
        have C := Vars_at x w6 _ (HV.out w6 HB6.out)
        rw [hg, if_pos rfl] at C
        rw [HL.out] at hsz
        obtain ⟨p, hp⟩ : ∃ p, 2147483647 - (L : Int) = p := ⟨_, rfl⟩
        have hwp : IntKind.i64.wrap p = p := by rw [IntKind.wrap_i64]; omega
        have hpf : p < first := by
          rcases hwhy with h | h | h
          · rw [hg] at h; cases h
          · omega
          · omega
        have hpf2 : decide (p < first) = true := by simpa using hpf
        clear hwhy hg h0
        (go_wp2_with fail; go_fit (C); rintro e w7 ⟨rv, rfl, hnv, b7⟩)
        obtain ⟨ra, rc, rfl, hrc1, hrc2⟩ := hnv.len
        rw [HL.out] at hrc1 ⊢
        unfold maxLen at hrc2
        have HB7 := Lib.hid (Ext.trans' HB6.out b7)
        clear b7 C hnv
        go_wp2
        go_ret
        exact ⟨rfl, HB7.out⟩
  · rw [he] at C
    have hsz := varsT_2000 hg
    rw [HL.out] at hsz
    have hrs := ren_same (good_parts hg).2.2 (base := first) hf0 (by rw [HL.out]; exact hf1)
    have hgT : goodT (renT first x) = true := by rw [hrs.2]; exact hg
    have hal : alikeB (renT first x) x = true := by unfold alikeB; rw [hgT, hg, hrs.1, same_self]; rfl
    have hvr := vars_ren (t := x) first
    rw [HL.out] at hvr
    have hgr : (goodT x && decide (varsT x [] = [])) = ((L : Int) == 0) := by
      rw [hg, Bool.true_and, ← HL.out]
      cases varsT x [] <;> simp <;> omega
    obtain ⟨T, hT⟩ : ∃ T, renT first x = T := ⟨_, rfl⟩
    rw [hT] at C hgT hal hvr
    obtain ⟨z, hz⟩ : ∃ z, first + (L : Int) = z := ⟨_, rfl⟩
    have hwz : IntKind.i64.wrap z = z := by rw [IntKind.wrap_i64]; omega
    rw [hz] at C
    clear he hrs hT
    (go_wp2_with fail; go_fit (C); rintro e w4 ⟨r, rfl, ht4, b4⟩)
    obtain ⟨k4, n4, s4, a4, m4, c4, rfl, f1, f2, f3, f4⟩ := four_of ht4
    obtain ⟨w5, e5, b5, z5, x5⟩ := box_new w4 #[.int .i64 k4, .int .i64 n4, .string s4, .slice a4 m4 c4] 31
    have HB5 := Lib.hid (Ext.trans' HB3.out (Ext.trans' b4 b5))
    have HX5 := Lib.hid (And.intro (HX3.out.ext (Ext.trans' b4 b5)) x5)
    have HT5 := Lib.hid (TmV.ext b5 _ _ ht4.bare)
    have HE5 := Lib.hid e5
    clear ht4 f1 f2 f3 f4 b4 b5 z5 x5 e5 C x0 x1 x2 x3
    obtain ⟨y0, y1, y2, y3, _⟩ := HX5.out.2.four
    go_upto_region 6 with fail
    (try rw [HE5.out])
    have C := Vars_at T w5 _ HT5.out
    rw [hgT, if_pos rfl, hvr] at C
    have HGX := Lib.hid hg
    have HAL := Lib.hid hal
    have HGR := Lib.hid hgr
    clear hg hal hgr hvr hgT
    (go_wp2_with fail; go_fit (C); rintro e w6 ⟨rv, rfl, hnv, b6⟩)
    obtain ⟨ra, rc, rfl, hrc1, hrc2⟩ := hnv.len
    have hll : ((List.range L).map (fun (i : Nat) => first + (i : Int))).length = L := by simp
    have HNV := Lib.hid hnv
    rw [hll] at hrc1 HNV ⊢
    unfold maxLen at hrc2
    have HB6 := Lib.hid (Ext.trans' HB5.out b6)
    have HX6 := Lib.hid (And.intro (HX5.out.1.ext b6) (HX5.out.2.ext b6))
    have HT6 := Lib.hid (TmV.ext b6 _ _ HT5.out)
    clear b6 C hnv hll y0 y1 y2 y3
    go_wp2_with fail
    go_loop [9] (fun v => ∃ i : Nat, i ≤ L ∧ v = .int .i64 i) (fun v => L - (intOf v).toNat)
    case atStart => exact ⟨0, Nat.zero_le _, rfl⟩
    case round =>
      obtain ⟨i, hi, rfl⟩ := hrel
      by_cases hil : i < L
      · have hil2 : (i : Int) < L := by omega
        obtain ⟨y, hy⟩ : ∃ y, first + (i : Int) = y := ⟨_, rfl⟩
        obtain ⟨gb, go, rfl, _, c0⟩ := HNV.out.get (i := i) (x := y) (by rw [List.getElem?_map, List.getElem?_range hil]; simpa using hy)
        have hwy : IntKind.i64.wrap y = y := by rw [IntKind.wrap_i64]; omega
        have hyy : (y != y) = false := by simp
        go_wp2
        go_round
        case rel => exact ⟨i + 1, by omega, by go_num⟩
        case measure => simp [intOf]; omega
      · have hil2 : i = L := by omega
        subst hil2
        obtain ⟨x0, x1, x2, x3, _⟩ := HX6.out.1.four
        have C := Vars_at x w6 _ (HV.out w6 HB6.out)
        rw [HGX.out, if_pos rfl] at C
        have hzz : (z == z) = true := by simp
        (go_wp2_with fail; go_fit (C); rintro e w7 ⟨rv, rfl, hnv, b7⟩)
        obtain ⟨ra2, rc2, rfl, hrd1, hrd2⟩ := hnv.len
        rw [HL.out] at hrd1 ⊢
        have HB7 := Lib.hid (Ext.trans' HB6.out b7)
        have HX7 := Lib.hid (And.intro (HX6.out.1.ext b7) (HX6.out.2.ext b7))
        have HT7 := Lib.hid (TmV.ext b7 _ _ HT6.out)
        clear b7 C hnv x0 x1 x2 x3
        obtain ⟨x0, x1, x2, x3, _⟩ := HX7.out.1.four
        obtain ⟨y0, y1, y2, y3, _⟩ := HX7.out.2.four
        have C := pAlike_at T x w7 _ _ HT7.out (HV.out w7 HB7.out)
        rw [HAL.out] at C
        have hii : ((i : Int) == (i : Int)) = true := by simp
        (go_wp2_with fail; go_fit (C); rintro e w8 ⟨rfl, b8⟩)
        have HB8 := Lib.hid (Ext.trans' HB7.out b8)
        have HX8 := Lib.hid (HX7.out.1.ext b8)
        clear b8 C x0 x1 x2 x3 y0 y1 y2 y3
        obtain ⟨x0, x1, x2, x3, _⟩ := HX8.out.four
        have C := Ground_at x w8 _ (HV.out w8 HB8.out)
        rw [HGR.out] at C
        (go_wp2_with fail; go_fit (C); rintro e w9 ⟨rfl, b9⟩)
        have HB9 := Lib.hid (Ext.trans' HB8.out b9)
        clear b9 C x0 x1 x2 x3
        go_wp2
        go_ret
        exact ⟨rfl, HB9.out⟩
end Go.Proofs.Ytbbbgijlbcmpbaa
/- AliasFrom: renamed, a term has as many variables, in a row from the first number on; it is alike; what is refused may not be, or has no room for its numbers: for every input the law answers true. No condition. -/
namespace Go.Proofs.Ytbbbgijlbcmpbaa
open Go.RowKit
theorem from_walk' {W : World} {v0 : Value} {x : Tm} (hx : IsTm W v0 x) (first : Int) (h1 : (Lit.int .i64 first).wf = true) : Calls Try.prog 12 #[v0, .int .i64 first] W fun e w' => IsBool W true e w' := from_walk hx (wf_range h1)
namespace aliasFrom
open Go.ChangeShapes Go.WideShapes Go.ChangeAt Go.RowKit
theorem own : ownKnob Try.prog.godebug = none := by kernel_rfl
theorem laidOut : laidOutB Try.prog = true := by kernel_rfl
set_option linter.unusedVariables false
set_option maxRecDepth 100000 in
theorem lifted (os : Os) (started : os.Started) (H : Type) (enc : TypeId × Value → H) :
    ReturnsInHanded {} Try.checked os 12 .any (Rows.aliasFromSpec.pre6 enc Try.prog Try.f12 Rows.aliasFromRow.domain false) (Rows.aliasFromSpec.post enc Try.prog Try.f12 false true false false) := by
  refine returnsInHanded_of_change_sized (C := Try.checked) own started (by kernel_rfl) Try.func12
    (ChangeSpec.witness6 (enc := enc) (C := Try.checked) false ⟨#[], #[.agg #[.int .i64 0,.int .i64 0,.string ⟨#[]⟩,.slice none 0 0], .int .i64 0], []⟩ 8 (by kernel_rfl) (by kernel_rfl) (by kernel_rfl) (by kernel_rfl)) ?_
  intro W base args ds gs before hval0 hW hcnd hsz0 _
  have hval : ∀ (j : Nat) t v, Try.f12.params[j]? = some t → args[j]? = some v → Value.okWide Try.prog W .any base t v := hval0
  have hW' := hW
  obtain ⟨p, q, hA0, hV, rfl, hfz, hnd⟩ := hW
  have hA : DataW.TrodAll enc Try.prog W 0 (fun _ => true) true Try.f12.params.toList args.toList ds p := hA0
  have hsz : (DataW.weightsEach Try.prog (Try.f12.params.toList ++ []) (ds ++ gs)).all (· ≤ reachBytes) = true := hsz0
  rw [Try.params12] at hA hval hsz
  obtain ⟨v0, vs0, d0, ds0, p0, q0, hargs, rfl, rfl, h0, r0⟩ := trodAll_cons hA
  obtain ⟨v1, vs1, d1, ds1, p1, q1, rfl, rfl, rfl, h1, r1⟩ := trodAll_cons r0
  obtain ⟨rfl, rfl, rfl⟩ := trodAll_nil r1
  obtain rfl : args = #[v0, v1] := by cases args; simp_all
  obtain ⟨rfl, rfl⟩ := trodVars_none hV
  clear hA0 hval0 hsz0
  have k0 := h0
  have lt0 := lt_of_trod h0
  have k1 := h1
  have lt1 := lt_of_trod h1
  obtain ⟨a0, w0⟩ := term_of_trod h0 (hval 0 31 v0 rfl rfl) (weights_ok hsz (j := 0) (t := 31) (d := d0) rfl rfl)
  obtain ⟨a1, rfl, rfl, rfl, w1⟩ := open_int Try.underlying2 (hval 1 2 v1 rfl rfl) h1
  refine (from_walk' w0 a1 w1).mono fun e W' ⟨he, bel⟩ => ?_
  subst he
  exact ⟨_, rfl, _, _, _, [], _, [], hW', trodAll_mk1 (shut_bool Try.underlying4 _), (trodAll_cons_mk (Below.trod laidOut (by kernel_rfl) (of_decide_eq_true (by kernel_rfl)) k0 bel lt0) (trodAll_cons_mk (Below.trod laidOut (by kernel_rfl) (of_decide_eq_true (by kernel_rfl)) k1 bel lt1) trodAll_mk0)), rfl, bel.frame _, fun h => by cases h⟩
theorem proved : Rows.AliasFromSaid :=
  OpenClaim.holds_of_wide 12 Try.f12 rfl rfl rfl rfl rfl rfl rfl ⟨rfl, rfl, rfl, rfl, rfl⟩ rfl rfl rfl rfl rfl (by kernel_rfl) Try.func12 (by kernel_rfl)
    (of_decide_eq_true (by kernel_rfl)) (by unfold Func.isWrapper; first | (rw [if_pos (by decide +kernel)]; kernel_rfl) | (rw [if_neg (by decide +kernel)]; exact ⟨rfl, rfl⟩))
    (fun os started H enc _ => lifted os started H enc)
#print axioms proved
end aliasFrom

end Go.Proofs.Ytbbbgijlbcmpbaa
