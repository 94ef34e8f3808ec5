import Derived.Test.YtbbbgijlbcmpbaaHpfac
import Derived.Deep.RegionHeld3
import Derived.Test.YtbbbgijlbcmpbaaHpfaa
import Derived.Ground.SlgnProg
import Derived.Shelf.SlicesE.Reverse
import Derived.Test.YtbbbgijlbcmpbaaProg
import Derived.Shelf.SlGeneric
import Derived.Lib.OwnBridge
import Derived.Lib.RowBridge
import Derived.Test.YtbbbgijlbcmpbaaRows
import Derived.Test.YtbbbgijlbcmpbaaHpfab
import Derived.Lib.Strings
import Derived.Deep.Quiet
import Derived.Below
import Derived.BigQuiet
import Derived.Deep.QuietTactic
set_option linter.unusedVariables false
set_option linter.unusedSimpArgs false
/- Package alias: Plain, Alike, Ground, walked. -/
namespace Go.Proofs.Ytbbbgijlbcmpbaa
open Go.RowKit Go.Maps
set_option linter.unusedVariables false

/-- What Plain answers. -/
def plainE (x : Tm) : Tm × Int := if goodT x = true then (renT 0 x, 0) else (varV 0, 1)
theorem varsT_2000 {x : Tm} (h : goodT x = true) : (varsT x []).length ≤ 2000 := by
  have h1 := xvars_len x []
  have h2 := (good_parts h).1
  simp at h1
  omega
theorem from_plain (x : Tm) : ∃ z, fromE 0 x = ((plainE x).1, z, (plainE x).2) := by
  unfold fromE plainE
  by_cases h : goodT x = true
  · have := varsT_2000 h
    rw [if_pos ⟨h, by omega, by omega⟩, if_pos (by omega), if_pos h]
    exact ⟨_, rfl⟩
  · rw [if_neg (fun e => h e.1), if_neg h]
    exact ⟨_, rfl⟩
def PlainP (w : World) (T : Tm) (c : Int) (e : Ending) (w' : World) : Prop := ∃ r, e = .returned (.tuple #[r, .int .i64 c]) ∧ TmV (hide (under w.heap.size) w') T r ∧ Below w.heap.size w w'
theorem results_cell2' {fn : Func} {p u : Tmp} {ty : TypeId} (h : fn.results = #[.cell p ty, .tmp u]) (tmps : Array Value) (P : Program) (w : World) :
    (results fn tmps).run P w =
      ((asAddr (tmps.getD p undef)).run P w).andThen fun a w₁ => ((loadVar ty a).run P w₁).andThen fun x w₂ => .ok (.tuple #[x, tmps.getD u undef]) w₂ := by
  simp only [results, h]
  simp [Sem.run_bind, Result.andThen]
set_option maxHeartbeats 8000000 in
set_option maxRecDepth 100000 in
theorem Plain_at (x : Tm) (w : World) (v : Value) (hv : TmV w x v) : Calls Try.prog 60 #[v] w (PlainP w (plainE x).1 (plainE x).2) := by
  obtain ⟨k, n, s, a, m, c, rfl⟩ := hv.full
  obtain ⟨w1, e1, B1, z1, X1⟩ := box_new w #[.int .i64 k, .int .i64 n, .string s, .slice a m c] 31
  obtain ⟨w2, e2, B2, z2, X2⟩ := box_new w1 #[.int .i64 0, .int .i64 0, .string ⟨#[]⟩, .slice none 0 0] 31
  have X1 := X1.ext B2
  have B12 := Ext.trans' B1 B2
  rw [z1] at X2 z2
  have HE := Lib.hid (And.intro e1 e2)
  have HB2 := Lib.hid (And.intro B12 (And.intro X1 (And.intro X2 z2)))
  obtain ⟨x0, x1, x2, x3, _⟩ := X1.four
  have C := pFrom_at x 0 i64_0 w2 _ (TmV.ext B12 _ _ hv)
  unfold FromP at C
  obtain ⟨z, hz⟩ := from_plain x
  rw [hz] at C
  obtain ⟨T, hT⟩ : ∃ T, (plainE x).1 = T := ⟨_, rfl⟩
  obtain ⟨er, her⟩ : ∃ T, (plainE x).2 = T := ⟨_, rfl⟩
  rw [hT, her] at C ⊢
  unfold PlainP
  clear B1 B2 z1 e1 e2 B12 X1 X2 hv hz hT her z2
  go_enter Try.func60, Try.ntmps60
  go_upto_region 1 with fail
  (try rw [HE.out.1, HE.out.2])
  (go_wp2_with fail; go_fit (C); rintro e w3 ⟨r, rfl, ht, b3⟩)
  obtain ⟨k3, n3, s3, a3, m3, c3, rfl, f1, f2, f3, f4⟩ := four_of ht
  obtain ⟨w4, e4, b4, z4, x4⟩ := box_new w3 #[.int .i64 k3, .int .i64 n3, .string s3, .slice a3 m3 c3] 31
  have hb34 := Ext.trans' b3 b4
  have HB4 := Lib.hid (Ext.trans' HB2.out.1 hb34)
  obtain ⟨y0, y1, y2, y3, _⟩ := x4.four
  obtain ⟨r0, r1, r2, r3, rf⟩ := (HB2.out.2.2.1.ext hb34).four
  have HFA := Lib.hid (show TmV (hide (under w.heap.size) (set4 w4 (w.heap.size + 1) (.int .i64 k3) (.int .i64 n3) (.string s3) (.slice a3 m3 c3))) T (.agg #[.int .i64 k3, .int .i64 n3, .string s3, .slice a3 m3 c3]) from by
    have hz := HB2.out.2.2.2
    have hd : under w2.heap.size (w.heap.size + 1) = true := by simp; omega
    have hle := HB2.out.1.size
    have ht4 := TmV.later (D := under w2.heap.size) b4 ht
    exact TmV.stay (Stays.less fun k hk => by simp at hk ⊢; omega) _ _ (TmV.stay ((((Stays.set (D := under w2.heap.size) ⟨w.heap.size + 1, 0, none⟩ (.int .i64 k3) hd).trans (Stays.set ⟨w.heap.size + 1, 1, none⟩ (.int .i64 n3) hd)).trans (Stays.set ⟨w.heap.size + 1, 2, none⟩ (.string s3) hd)).trans (Stays.set ⟨w.heap.size + 1, 3, none⟩ (.slice a3 m3 c3) hd)) _ _ ht4))
  have HE4 := Lib.hid e4
  clear f1 f2 f3 f4 ht b3 b4 z4 x4 e4 C x0 x1 x2 x3 hb34
  go_upto_region 2 with fail
  (try rw [HE4.out])
  go_wp2
  refine bodyPost_ret (v := .tuple #[.agg #[.int .i64 k3, .int .i64 n3, .string s3, .slice a3 m3 c3], .int .i64 er]) (by rw [results_cell2' rfl]; go_simp) rfl ⟨_, rfl, HFA.out, ?_⟩
  exact Below.set4 (b := w.heap.size + 1) HB4.out (by omega) _ _ _ _
theorem ren0_good {x : Tm} (h : goodT x = true) : goodT (renT 0 x) = true := by
  have := varsT_2000 h
  rw [(ren_same (good_parts h).2.2 (base := 0) (by omega) (by omega)).2]
  exact h
theorem plain_good {x : Tm} (h : (plainE x).2 = 0) : goodT (plainE x).1 = true := by
  unfold plainE at h ⊢
  by_cases hx : goodT x = true
  · rw [if_pos hx]; exact ren0_good hx
  · rw [if_neg hx] at h; cases h
theorem alikeB_of (x y : Tm) : alikeB x y = (decide ((plainE x).2 = 0) && decide ((plainE y).2 = 0) && sameT (plainE x).1 (plainE y).1) := by
  unfold alikeB plainE
  cases hx : goodT x <;> cases hy : goodT y <;> simp
set_option maxHeartbeats 8000000 in
set_option maxRecDepth 100000 in
theorem pAlike_at (x y : Tm) (w : World) (vx vy : Value) (hvx : TmV w x vx) (hvy : TmV w y vy) : Calls Try.prog 55 #[vx, vy] w fun e w' => e = .returned (.bool (alikeB x y)) ∧ Below w.heap.size w w' := by
  obtain ⟨k, n, s, a, m, c, rfl⟩ := hvx.full
  obtain ⟨k', n', s', a', m', c', rfl⟩ := hvy.full
  obtain ⟨w1, e1, B1, z1, X1⟩ := box_new w #[.int .i64 k, .int .i64 n, .string s, .slice a m c] 31
  obtain ⟨w2, e2, B2, z2, X2⟩ := box_new w1 #[.int .i64 k', .int .i64 n', .string s', .slice a' m' c'] 31
  have X1 := X1.ext B2
  have B12 := Ext.trans' B1 B2
  rw [z1] at X2 z2
  obtain ⟨x0, x1, x2, x3, _⟩ := X1.four
  have HE := Lib.hid (And.intro e1 e2)
  have HB2 := Lib.hid (And.intro B12 (And.intro X1 X2))
  have HVY := Lib.hid (fun (wq : World) (hb : Below w.heap.size w wq) => Plain_at y wq _ (TmV.ext hb _ _ hvy))
  have C := Plain_at x w2 _ (TmV.ext B12 _ _ hvx)
  unfold PlainP at C HVY
  have hal := alikeB_of x y
  have hxe : (plainE x).2 = 0 ∨ (plainE x).2 = 1 := by unfold plainE; split; exact Or.inl rfl; exact Or.inr rfl
  have hye : (plainE y).2 = 0 ∨ (plainE y).2 = 1 := by unfold plainE; split; exact Or.inl rfl; exact Or.inr rfl
  have hgx := @plain_good x
  have hgy := @plain_good y
  obtain ⟨T, hT⟩ : ∃ T, (plainE x).1 = T := ⟨_, rfl⟩
  obtain ⟨U, hU⟩ : ∃ T, (plainE y).1 = T := ⟨_, rfl⟩
  obtain ⟨er, her⟩ : ∃ T, (plainE x).2 = T := ⟨_, rfl⟩
  obtain ⟨eq, heq⟩ : ∃ T, (plainE y).2 = T := ⟨_, rfl⟩
  rw [hT, her] at C
  rw [hU, heq] at HVY
  rw [hal, hT, her, hU, heq]
  rw [her] at hxe
  rw [heq] at hye
  rw [hT, her] at hgx
  rw [hU, heq] at hgy
  have HG := Lib.hid (And.intro hgx hgy)
  obtain ⟨A, hA⟩ : ∃ A, (decide (er = 0) && decide (eq = 0) && sameT T U) = A := ⟨_, rfl⟩
  rw [hA]
  have HA := Lib.hid hA
  clear hgx hgy hA
  clear B1 B2 z1 e1 e2 B12 X1 X2 hvx hvy z2 hal hT hU her heq
  go_enter Try.func55, Try.ntmps55
  go_upto_region 1 with fail
  (try rw [HE.out.1, HE.out.2])
  (go_wp2_with fail; go_fit (C); rintro e w3 ⟨r, rfl, ht, b3⟩)
  obtain ⟨k3, n3, s3, a3, m3, c3, rfl, f1, f2, f3, f4⟩ := four_of ht
  obtain ⟨w4, e4, b4, z4, x4⟩ := box_new w3 #[.int .i64 k3, .int .i64 n3, .string s3, .slice a3 m3 c3] 31
  have HB4 := Lib.hid (Ext.trans' HB2.out.1 (Ext.trans' b3 b4))
  have HX4 := Lib.hid (And.intro (HB2.out.2.2.ext (Ext.trans' b3 b4)) x4)
  have HT4 := Lib.hid (TmV.ext b4 _ _ ht.bare)
  have HE4 := Lib.hid e4
  clear f1 f2 f3 f4 ht b3 b4 z4 x4 e4 C x0 x1 x2 x3
  obtain ⟨x0, x1, x2, x3, _⟩ := HX4.out.1.four
  have C := HVY.out w4 HB4.out
  go_upto_region 2 with fail
  (try rw [HE4.out])
  (go_wp2_with fail; go_fit (C); rintro e w5 ⟨r, rfl, ht, b5⟩)
  obtain ⟨k5, n5, s5, a5, m5, c5, rfl, f1, f2, f3, f4⟩ := four_of ht
  obtain ⟨w6, e6, b6, z6, x6⟩ := box_new w5 #[.int .i64 k5, .int .i64 n5, .string s5, .slice a5 m5 c5] 31
  have HB6 := Lib.hid (Ext.trans' HB4.out (Ext.trans' b5 b6))
  have HX6 := Lib.hid (And.intro (HX4.out.2.ext (Ext.trans' b5 b6)) x6)
  have HT6 := Lib.hid (And.intro (TmV.ext (Ext.trans' b5 b6) _ _ HT4.out) (TmV.ext b6 _ _ ht.bare))
  have HE6 := Lib.hid e6
  clear f1 f2 f3 f4 ht b5 b6 z6 x6 e6 C x0 x1 x2 x3
  obtain ⟨x0, x1, x2, x3, _⟩ := HX6.out.1.four
  obtain ⟨y0, y1, y2, y3, _⟩ := HX6.out.2.four
  have C := Same_at HT6.out.1 HT6.out.2
  go_upto_region 3 with fail
  (try rw [HE6.out])
  rcases hxe with rfl | rfl
  · rcases hye with rfl | rfl
    · rw [HG.out.1 rfl, HG.out.2 rfl] at C
      rw [show (true && true && sameT T U) = A from HA.out] at C
      (go_wp2_with fail; go_fit (C); rintro e w7 ⟨rfl, b7⟩)
      have HB7 := Lib.hid (Ext.trans' HB6.out b7)
      clear b7
      go_wp2
      go_ret
      exact ⟨rfl, HB7.out⟩
    · obtain rfl : A = false := HA.out.symm
      clear HA C
      go_wp2
      go_ret
      exact ⟨rfl, HB6.out⟩
  · obtain rfl : A = false := HA.out.symm
    clear HA C
    go_wp2
    go_ret
    exact ⟨rfl, HB6.out⟩
set_option maxHeartbeats 4000000 in
set_option maxRecDepth 100000 in
theorem Ground_at (x : Tm) (w : World) (v : Value) (hv : TmV w x v) : Calls Try.prog 56 #[v] w fun e w' => e = .returned (.bool (goodT x && decide (varsT x [] = []))) ∧ Below w.heap.size w w' := by
  obtain ⟨k, n, s, a, m, c, rfl⟩ := hv.full
  obtain ⟨w1, e1, B1, z1, X1⟩ := box_new w #[.int .i64 k, .int .i64 n, .string s, .slice a m c] 31
  have HE := Lib.hid e1
  have HB1 := Lib.hid (And.intro B1 X1)
  obtain ⟨x0, x1, x2, x3, _⟩ := X1.four
  have C := Good_at x w1 _ (TmV.ext B1 _ _ hv)
  have HVR := Lib.hid (fun (wq : World) (hb : Below w.heap.size w wq) => Vars_at x wq _ (TmV.ext hb _ _ hv))
  clear B1 z1 e1 X1 hv
  cases hg : goodT x
  · rw [hg] at C
    clear hg
    go_enter Try.func56, Try.ntmps56
    go_upto_region 1 with fail
    (try rw [HE.out])
    (go_wp2_with fail; go_fit (C); rintro e w3 ⟨rfl, b3⟩)
    have HB3 := Lib.hid (Ext.trans' HB1.out.1 b3)
    clear b3
    go_wp2
    go_ret
    exact ⟨rfl, HB3.out⟩
  · rw [hg] at C
    rw [hg, if_pos rfl] at HVR
    clear hg
    obtain ⟨l, hl⟩ : ∃ l, varsT x [] = l := ⟨_, rfl⟩
    rw [hl] at HVR ⊢
    clear hl
    have he : decide (l = []) = (((l.length : Nat) : Int) == 0) := by cases l <;> simp <;> omega
    rw [he]
    obtain ⟨L, hL⟩ : ∃ L, l.length = L := ⟨_, rfl⟩
    have HL := Lib.hid hL
    rw [hL]
    clear he hL
    go_enter Try.func56, Try.ntmps56
    go_upto_region 1 with fail
    (try rw [HE.out])
    (go_wp2_with fail; go_fit (C); rintro e w3 ⟨rfl, b3⟩)
    have HB3 := Lib.hid (Ext.trans' HB1.out.1 b3)
    obtain ⟨x0, x1, x2, x3, _⟩ := (HB1.out.2.ext b3).four
    clear b3 C
    have C := HVR.out w3 HB3.out
    (go_wp2_with fail; go_fit (C); rintro e w4 ⟨rv, rfl, hnv, b4⟩)
    obtain ⟨ra, rc, rfl, hrc1, hrc2⟩ := hnv.len
    have HB4 := Lib.hid (Ext.trans' HB3.out b4)
    rw [HL.out]
    clear hnv b4 C hrc1 hrc2
    go_wp2
    go_ret
    exact ⟨rfl, HB4.out⟩
end Go.Proofs.Ytbbbgijlbcmpbaa
/- Package alias: becomes and its map of terms; More. -/
namespace Go.Proofs.Ytbbbgijlbcmpbaa
open Go.RowKit Go.Maps
set_option linter.unusedVariables false

/-- An element is kept as it is. -/
def keepE (v : Value) : Option (DataW Value × List MemPlace) := some (.held v, [])
/-- The map holds what stands in place of the variables. -/
def TermM (V w : World) (mb : Nat) (L : List (Int × Tm)) : Prop :=
  ∃ D : DataW Value, w.ownsMap Try.prog 2 keepE mb L.length D ∧ Tidy D ∧ (∀ m, Maps.has D (.int .i64 m) = (getB L m).isSome) ∧ ∀ m t, getB L m = some t → ∃ u, (∀ z, D.atKey (.int .i64 m) z = .held u) ∧ TmV V t u ∧ goodT t = true
theorem TermM.nil (V w : World) : TermM V (w.alloc (.map #[] 0)) w.heap.size [] := ⟨.map [], World.ownsMap_made w _ _ _, tidy_empty, fun m => by simp [Maps.has, getB], fun m t h => by simp [getB] at h⟩
theorem TermM.block {V w w' : World} {mb : Nat} {L : List (Int × Tm)} (h : TermM V w mb L) (e : w'.heap[mb]? = w.heap[mb]?) : TermM V w' mb L := by
  obtain ⟨D, ⟨es, clock, h1, h2⟩, q⟩ := h
  exact ⟨D, ⟨es, clock, e.trans h1, h2⟩, q⟩
theorem TermM.lt {V w : World} {mb : Nat} {L : List (Int × Tm)} (h : TermM V w mb L) : mb < w.heap.size := by
  obtain ⟨D, q1, _⟩ := h
  exact q1.lt
theorem TermM.ext {V w w' : World} {mb : Nat} {L : List (Int × Tm)} (h : TermM V w mb L) (b : Below w.heap.size w w') : TermM V w' mb L := h.block (b.block mb h.lt)
theorem TermM.hit {V w : World} {mb : Nat} {L : List (Int × Tm)} (h : TermM V w mb L) {n : Int} (hn : I64 n) {t : Tm} (hg : getB L n = some t) :
    ∃ u, (Instr.lookup 115 (.map (some mb)) (.int .i64 n) true).run Try.prog w = .ok (.tuple #[u, .bool true]) w ∧ TmV V t u ∧ goodT t = true := by
  obtain ⟨D, q1, q2, q3, q4⟩ := h
  obtain ⟨v, ps, hrun, hv⟩ := q1.look_ok lKeyed Try.underlying115 (zeroLeaf w) (show keepE (leafVal 0) = Option.some (.held (leafVal 0), []) from rfl) (lKey hn)
  obtain ⟨u, hu, ht, hgd⟩ := q4 n t hg
  rw [hu] at hv
  have hv := DataW.held.inj (Prod.mk.inj (Option.some.inj hv)).1
  subst hv
  rw [q3 n, hg] at hrun
  exact ⟨v, hrun, ht, hgd⟩
theorem TermM.miss {V w : World} {mb : Nat} {L : List (Int × Tm)} (h : TermM V w mb L) {n : Int} (hn : I64 n) (hg : getB L n = none) :
    (Instr.lookup 115 (.map (some mb)) (.int .i64 n) true).run Try.prog w = .ok (.tuple #[leafVal 0, .bool false]) w := by
  obtain ⟨D, q1, q2, q3, q4⟩ := h
  obtain ⟨v, ps, hrun, hv⟩ := q1.look_ok lKeyed Try.underlying115 (zeroLeaf w) (show keepE (leafVal 0) = Option.some (.held (leafVal 0), []) from rfl) (lKey hn)
  have hh := q3 n
  rw [hg] at hh
  rw [atKey_of_not_has hh] at hv
  have hv := DataW.held.inj (Prod.mk.inj (Option.some.inj hv)).1
  subst hv
  rw [hh] at hrun
  exact hrun
set_option maxRecDepth 100000 in
theorem TermM.store {V w : World} {mb : Nat} {L : List (Int × Tm)} (h : TermM V w mb L) {n : Int} (hn : I64 n) (hl : L.length < maxLen) (hg : getB L n = none) {b : Tm} {u : Value} (hb : TmV V b u) (hgb : goodT b = true) :
    ∃ w', (Instr.mapUpdate 115 (.map (some mb)) (.int .i64 n) u).run Try.prog w = .ok () w' ∧ TermM V w' mb ((n, b) :: L) ∧ Touch [mb] w w' := by
  obtain ⟨D, q1, q2, q3, q4⟩ := h
  obtain ⟨w', hrun, ho, ht⟩ := q1.store lKeyed Try.underlying115 hl (lKey hn) (show keepE u = Option.some (.held u, []) from rfl)
  refine ⟨w', hrun, ⟨_, ho, q2.put (by trivial) _, fun m => ?_, fun m t hm => ?_⟩, ?_⟩
  · rw [get_cons]
    by_cases e : n = m
    · subst e
      rw [has_put_same q2.isMap (by trivial), if_pos rfl]
      rfl
    · rw [has_put_other (fun e' => e (by injection e' with _ e'; exact e'.symm)), if_neg e, q3 m]
  · rw [get_cons] at hm
    by_cases e : n = m
    · subst e
      rw [if_pos rfl] at hm
      cases hm
      exact ⟨u, fun z => atKey_put_same q2.isMap (by trivial) _ _, hb, hgb⟩
    · rw [if_neg e] at hm
      obtain ⟨u', h1, h2⟩ := q4 m t hm
      exact ⟨u', fun z => by rw [atKey_put_other (fun e' => e (by injection e' with _ e'; exact e'.symm)), h1 z], h2⟩
  · obtain ⟨g1, g2, g3, g4, g5⟩ := ht.grown
    exact ⟨g1, g2, g3, g4, fun k hk hne => g5 k hk (fun e => hne (by simp at e; simp [e]))⟩
/-- What becomes leaves. -/
def BecP (V w : World) (mb : Nat) (R : Bool × List (Int × Tm)) (e : Ending) (w' : World) : Prop := e = .returned (.bool R.1) ∧ (R.1 = true → TermM V w' mb R.2) ∧ Touch [mb] w w'
mutual
theorem more_len : ∀ (a b : Tm) (L : List (Int × Tm)), (moreT a b L).2.length ≤ L.length + sizeN a
  | .mk k n s ts, b, L => by
    rw [moreT, sizeN]
    by_cases hk : k = 0
    · rw [if_pos hk]
      cases getB L n with
      | some t => show L.length ≤ _; omega
      | none => simp
    · rw [if_neg hk]
      split
      · have := mores_len2 ts b.args L; omega
      · show L.length ≤ _; omega
theorem mores_len2 : ∀ (a b : List Tm) (L : List (Int × Tm)), (moreL a b L).2.length ≤ L.length + sizesN a
  | [], b, L => by rw [moreL, sizesN]; simp
  | x :: r, [], L => by rw [moreL]; simp
  | x :: r, y :: q, L => by
    rw [moreL, sizesN]
    have h1 := more_len x y L
    split
    · have := mores_len2 r q (moreT x y L).2; omega
    · show (moreT x y L).2.length ≤ _; omega
end
theorem drop_cons_of {α : Type} {l : List α} {i : Nat} {x : α} (h : l[i]? = some x) : l.drop i = x :: l.drop (i + 1) := by
  obtain ⟨hlt, rfl⟩ := List.getElem?_eq_some_iff.1 h
  exact List.drop_eq_getElem_cons hlt
/-- What holds as the Args are gone through. -/
def BecI (V w : World) (mb : Nat) (xs ys : List Tm) (R : Bool × List (Int × Tm)) (j : Nat) (wr : World) : Prop :=
  ∃ Lj, TermM V wr mb Lj ∧ moreL (xs.drop j) (ys.drop j) Lj = R ∧ Touch [mb] w wr ∧ Lj.length + sizesN (xs.drop j) ≤ 1000000
set_option maxHeartbeats 16000000 in
set_option maxRecDepth 100000 in
theorem becomes_at (V : World) : ∀ (M : Nat) (x : Tm), sizeN x ≤ M → ∀ (y : Tm) (L : List (Int × Tm)) (w : World) (mb : Nat) (vx vy : Value), TmV V x vx → TmV V y vy → goodT y = true → Below V.heap.size V w → V.heap.size ≤ mb → TermM V w mb L → L.length + sizeN x ≤ 1000000 →
    Calls Try.prog 86 #[vx, vy, .map (some mb)] w (BecP V w mb (moreT x y L))
  | 0, x, h, y, L, w, mb, vx, vy, hx, hy, hgy, hb, hmb, hm, hl => by have := size_pos x; omega
  | M + 1, .mk k n s ts, h, .mk k' n' s' ts', L, w, mb, vx, vy, hx, hy, hgy, hb, hmb, hm, hl => by
    obtain ⟨u, rfl, hss, hkk, hnn, hu⟩ := tmV_iff.1 hx
    obtain ⟨a, c, rfl, hb1, hb2, hb3⟩ := hu.len
    obtain ⟨u', rfl, hss', hkk', hnn', hu'⟩ := tmV_iff.1 hy
    obtain ⟨a', c', rfl, hb1', hb2', hb3'⟩ := hu'.len
    unfold maxLen at hb2 hb2'
    obtain ⟨w1, e1, B1, z1, X1⟩ := box_new w #[.int .i64 k, .int .i64 n, .string s, .slice a ts.length c] 31
    obtain ⟨w2, e2, B2, z2, X2⟩ := box_new w1 #[.int .i64 k', .int .i64 n', .string s', .slice a' ts'.length c'] 31
    have X1 := X1.ext B2
    have B12 := Ext.trans' B1 B2
    rw [z1] at X2 z2
    have HE := Lib.hid (And.intro e1 e2)
    have HB2 := Lib.hid (And.intro B12 (And.intro X1 (And.intro X2 (And.intro z2 (hb.trans (B12.mono hb.size))))))
    have HM2 := Lib.hid (hm.ext B12)
    obtain ⟨R, hR⟩ : ∃ R, moreT (.mk k n s ts) (.mk k' n' s' ts') L = R := ⟨_, rfl⟩
    rw [hR]
    rw [moreT] at hR
    unfold BecP
    have hpos := size_pos (.mk k n s ts)
    obtain ⟨x0, x1, x2, x3, _⟩ := X1.four
    obtain ⟨y0, y1, y2, y3, _⟩ := X2.four
    have HBY := Lib.hid (And.intro hb (And.intro hmb hl))
    have hmbl := hm.lt
    clear B1 B2 z1 e1 e2 X1 X2 hb hmb hm
    by_cases hk0 : k = 0
    · subst hk0
      rw [if_pos rfl] at hR
      cases hg : getB L n with
      | some t =>
        rw [hg] at hR
        simp only at hR
        subst hR
        obtain ⟨u, hrun, htu, hgt⟩ := HM2.out.hit hnn hg
        obtain ⟨k3, n3, s3, a3, m3, c3, rfl, f1, f2, f3, f4⟩ := four_of htu
        obtain ⟨w4, e4, b4, z4, x4⟩ := box_new w2 #[.int .i64 k3, .int .i64 n3, .string s3, .slice a3 m3 c3] 31
        have hb4 : Below V.heap.size V w4 := HB2.out.2.2.2.2.trans (b4.mono HB2.out.2.2.2.2.size)
        have C := Same_at (TmV.ext hb4 _ _ htu) (TmV.ext hb4 _ _ hy)
        rw [hgt, hgy] at C
        have HE4 := Lib.hid e4
        have HB4 := Lib.hid (And.intro (Ext.trans' HB2.out.1 b4) (HM2.out.ext b4))
        obtain ⟨r0, r1, r2, r3, _⟩ := x4.four
        obtain ⟨q0, q1, q2, q3, _⟩ := (HB2.out.2.2.1.ext b4).four
        obtain ⟨A, hA⟩ : ∃ A, sameT t (.mk k' n' s' ts') = A := ⟨_, rfl⟩
        rw [show (true && true && sameT t (.mk k' n' s' ts')) = A from hA] at C
        rw [hA]
        clear b4 x4 z4 e4 f1 f2 f3 f4 htu hgt hg hA hu hu' hx hy hgy hss hss' hkk hkk' hnn hnn' h B12 hb4 z2
        go_enter Try.func86, Try.ntmps86
        go_upto_region 1 with fail
        (try rw [HE.out.1, HE.out.2])
        go_upto_region 3 with fail
        (try rw [HE4.out])
        clear hrun x0 x1 x2 x3 y0 y1 y2 y3
        (go_wp2_with fail; go_fit (C); rintro e w5 ⟨rfl, b5⟩)
        have HB5 := Lib.hid (And.intro (Ext.trans' HB4.out.1 b5) (HB4.out.2.ext b5))
        clear b5
        go_wp2
        go_ret
        exact ⟨rfl, fun _ => HB5.out.2, Touch.of_below HB5.out.1 _⟩
      | none =>
        rw [hg] at hR
        simp only at hR
        subst hR
        have hrun := HM2.out.miss hnn hg
        unfold leafVal at hrun
        obtain ⟨w4, e4, b4, z4, x4⟩ := box_new w2 #[.int .i64 0, .int .i64 0, .string ⟨#[]⟩, .slice none 0 0] 31
        obtain ⟨w5, hst, hm5, t5⟩ := (HM2.out.ext b4).store hnn (by unfold maxLen; omega) hg hy hgy
        have HE4 := Lib.hid e4
        have HB4 := Lib.hid (And.intro (Ext.trans' HB2.out.1 b4) (And.intro hm5 t5))
        obtain ⟨r0, r1, r2, r3, _⟩ := x4.four
        obtain ⟨q0, q1, q2, q3, _⟩ := (HB2.out.2.2.1.ext b4).four
        obtain ⟨p0, p1, p2, p3, _⟩ := (HB2.out.2.1.ext b4).four
        clear b4 x4 z4 e4 hg hu hu' hx hy hgy hss hss' hkk hkk' hnn hnn' h B12 z2 hm5 t5
        go_enter Try.func86, Try.ntmps86
        go_upto_region 1 with fail
        (try rw [HE.out.1, HE.out.2])
        go_upto_region 3 with fail
        (try rw [HE4.out])
        clear hrun x0 x1 x2 x3 y0 y1 y2 y3
        go_wp2
        go_ret
        exact ⟨rfl, HB4.out.2.1, (Touch.of_below HB4.out.1 _).trans HB4.out.2.2 (fun q hq => Or.inl hq)⟩
    · rw [if_neg hk0] at hR
      have hk0' : (k == 0) = false := beq_false_of_ne hk0
      have HU := Lib.hid (And.intro hu hu')
      obtain ⟨m, hm0⟩ : ∃ m, ts.length = m := ⟨_, rfl⟩
      obtain ⟨m', hm0'⟩ : ∃ m', ts'.length = m' := ⟨_, rfl⟩
      have HM := Lib.hid (And.intro hm0 hm0')
      have hgarg : ∀ z ∈ ts', goodT z = true := fun z hz => good_arg hgy hz
      have IH := Lib.hid (fun (y : Tm) (hy : y ∈ ts) => becomes_at V M y (mem_size h hy))
      have HGA := Lib.hid hgarg
      rw [hm0] at hb1 hb3 hu HU x3 HE HB2
      rw [hm0'] at hb1' hb3' hu' HU y3 HE HB2
      rw [hm0, hm0']
      have hR0 : R = if k = k' ∧ n = n' ∧ s.data.toList = s'.data.toList ∧ m = m' then moreL ts ts' L else (false, L) := by rw [← hR, ← hm0, ← hm0']; rfl
      have HP2 := Lib.hid (fun (wq : World) (t : Touch [mb] w2 wq) => (show Box wq w.heap.size [.int .i64 k, .int .i64 n, .string s, .slice a m c] ∧ Box wq (w.heap.size + 1) [.int .i64 k', .int .i64 n', .string s', .slice a' m' c'] from ⟨t.box (by simp; omega) HB2.out.2.1, t.box (by simp; omega) HB2.out.2.2.1⟩))
      have HNO := Lib.hid (show Touch [mb] w w2 from Touch.of_below HB2.out.1 _)
      clear hR hm0 hm0' hx hy hgy hu hu' hss hss' hkk hkk' hnn hnn' h hgarg B12 z2 hpos
      by_cases g1 : k = k'
      · subst g1
        by_cases g2 : n = n'
        · subst g2
          by_cases g3 : s = s'
          · subst g3
            by_cases g4 : m = m'
            · subst g4
              rw [if_pos ⟨rfl, rfl, rfl, rfl⟩] at hR0
              have HI0 := Lib.hid (show BecI V w2 mb ts ts' R 0 w2 from ⟨L, HM2.out, hR0.symm, Touch.of_below (Below.refl _ _) _, by have := HBY.out.2.2; rw [sizeN] at this; rw [List.drop_zero]; omega⟩)
              clear hR0
              go_enter Try.func86, Try.ntmps86
              go_upto_region 1 with fail
              (try rw [HE.out.1, HE.out.2])
              go_wp2_with fail
              clear x0 x1 x2 x3 y0 y1 y2 y3
              go_loopw [9, 59] (fun _ i wr => ∃ j : Nat, j ≤ m ∧ i = .int .i64 j ∧ Hid (BecI V w2 mb ts ts' R j wr)) (fun _ i _ => m - (intOf i).toNat)
              case atStart => exact ⟨0, Nat.zero_le _, rfl, HI0⟩
              case round =>
                obtain ⟨j, hj, rfl, HP⟩ := hrel
                clear HI0
                obtain ⟨Lj, hmj, hrj, htj, hlj⟩ := HP.out
                have hbw : Below V.heap.size V wr := HB2.out.2.2.2.2.trans (htj.below HB2.out.2.2.2.2.size (fun q hq => by simp at hq; have := HBY.out.2.1; omega))
                have hx5 := (HP2.out wr htj).1
                have hy5 := (HP2.out wr htj).2
                have x3 := hx5.cells 3 _ rfl
                have y3 := hy5.cells 3 _ rfl
                by_cases hjm : j < m
                · have hjm2 : (j : Int) < m := by omega
                  obtain ⟨xj, hxj⟩ : ∃ z, ts[j]? = some z := ⟨_, List.getElem?_eq_getElem (by rw [HM.out.1]; exact hjm)⟩
                  obtain ⟨yj, hyj⟩ : ∃ z, ts'[j]? = some z := ⟨_, List.getElem?_eq_getElem (by rw [HM.out.2]; exact hjm)⟩
                  obtain ⟨ba, oa, ka, na, sa, va, rfl, _, _, _, _, p0, p1, p2, p3, _, ptm⟩ := HU.out.1.get hxj
                  obtain ⟨bb, ob, kb, nb, sb, vb, rfl, _, _, _, _, q0, q1, q2, q3, _, qtm⟩ := HU.out.2.get hyj
                  rw [drop_cons_of hxj, drop_cons_of hyj, moreL] at hrj
                  rw [drop_cons_of hxj, sizesN] at hlj
                  have hml := more_len xj yj Lj
                  have a0 := cell_later hbw p0
                  have a1 := cell_later hbw p1
                  have a2 := cell_later hbw p2
                  have a3 := cell_later hbw p3
                  have b0 := cell_later hbw q0
                  have b1 := cell_later hbw q1
                  have b2 := cell_later hbw q2
                  have b3 := cell_later hbw q3
                  have HPV := Lib.hid (And.intro p0 (And.intro p1 (And.intro p2 (And.intro p3 (And.intro q0 (And.intro q1 (And.intro q2 q3)))))))
                  have HC9 := Lib.hid (fun (wq : World) (hb : Below wr.heap.size wr wq) => IH.out xj (List.mem_of_getElem? hxj) yj Lj wq mb _ _ ptm qtm (HGA.out yj (List.mem_of_getElem? hyj)) (hbw.trans (hb.mono hbw.size)) HBY.out.2.1 (hmj.ext hb) (by omega))
                  obtain ⟨r, hr⟩ : ∃ r, moreT xj yj Lj = r := ⟨_, rfl⟩
                  rw [hr] at hrj hml HC9
                  unfold BecP at HC9
                  have HRS := Lib.hid (And.intro hrj (show r.2.length + sizesN (ts.drop (j + 1)) ≤ 1000000 by omega))
                  have HW := Lib.hid (And.intro hbw htj)
                  clear hrj hml hlj hmj htj hbw hx5 hy5 hr p0 p1 p2 p3 q0 q1 q2 q3 ptm qtm hxj hyj HP
                  go_wp2_with fail
                  refine wp_region_held_drew (S := fun w' => w'.cell? ⟨w.heap.size, 3, none⟩ = some (.slice (some ⟨ba, oa, none⟩) m c) ∧ w'.cell? ⟨w.heap.size + 1, 3, none⟩ = some (.slice (some ⟨bb, ob, none⟩) m c') ∧ w'.cell? ⟨ba, oa + j * 4, none⟩ = some (.int .i64 ka) ∧ w'.cell? ⟨ba, oa + j * 4 + 1, none⟩ = some (.int .i64 na) ∧ w'.cell? ⟨ba, oa + j * 4 + 2, none⟩ = some (.string sa) ∧ w'.cell? ⟨ba, oa + j * 4 + 3, none⟩ = some va ∧ w'.cell? ⟨bb, ob + j * 4, none⟩ = some (.int .i64 kb) ∧ w'.cell? ⟨bb, ob + j * 4 + 1, none⟩ = some (.int .i64 nb) ∧ w'.cell? ⟨bb, ob + j * 4 + 2, none⟩ = some (.string sb) ∧ w'.cell? ⟨bb, ob + j * 4 + 3, none⟩ = some vb) (by kernel_rfl) ⟨x3, y3, a0, a1, a2, a3, b0, b1, b2, b3⟩ (fun hHeld => ?_)
                  first | (refine held_t (i := 0) hHeld ?_; apply Exists.intro; refine ⟨fun wq hq => ?_, ?_⟩; (focus ((try dsimp only at hq); go_simp; (first | done | with_reducible rfl | fail)))) | refine held_s (i := 0) hHeld ?_ | fail
                  first | (refine held_t (i := 1) hHeld ?_; apply Exists.intro; refine ⟨fun wq hq => ?_, ?_⟩; (focus ((try dsimp only at hq); go_simp; (first | done | with_reducible rfl | fail)))) | refine held_s (i := 1) hHeld ?_ | fail
                  first | (refine held_t (i := 2) hHeld ?_; apply Exists.intro; refine ⟨fun wq hq => ?_, ?_⟩; (focus ((try dsimp only at hq); go_simp; (first | done | with_reducible rfl | fail)))) | refine held_s (i := 2) hHeld ?_ | fail
                  first | (refine held_t (i := 3) hHeld ?_; apply Exists.intro; refine ⟨fun wq hq => ?_, ?_⟩; (focus ((try dsimp only at hq); go_simp; (first | done | with_reducible rfl | fail)))) | refine held_s (i := 3) hHeld ?_ | fail
                  first | (refine held_t (i := 4) hHeld ?_; apply Exists.intro; refine ⟨fun wq hq => ?_, ?_⟩; (focus ((try dsimp only at hq); go_simp; (first | done | with_reducible rfl | fail)))) | refine held_s (i := 4) hHeld ?_ | fail
                  first | (refine held_t (i := 5) hHeld ?_; apply Exists.intro; refine ⟨fun wq hq => ?_, ?_⟩; (focus ((try dsimp only at hq); go_simp; (first | done | with_reducible rfl | fail)))) | refine held_s (i := 5) hHeld ?_ | fail
                  try simp only [Act.put, List.setIfInBounds_toArray, List.set_cons_zero, List.set_cons_succ]
                  first | (refine held_t (i := 6) hHeld ?_; apply Exists.intro; refine ⟨fun wq hq => ?_, ?_⟩; (focus ((try dsimp only at hq); go_simp; (first | done | with_reducible rfl | fail)))) | refine held_s (i := 6) hHeld ?_ | fail
                  first | (refine held_t (i := 7) hHeld ?_; apply Exists.intro; refine ⟨fun wq hq => ?_, ?_⟩; (focus ((try dsimp only at hq); go_simp; (first | done | with_reducible rfl | fail)))) | refine held_s (i := 7) hHeld ?_ | fail
                  first | (refine held_t (i := 8) hHeld ?_; apply Exists.intro; refine ⟨fun wq hq => ?_, ?_⟩; (focus ((try dsimp only at hq); go_simp; (first | done | with_reducible rfl | fail)))) | refine held_s (i := 8) hHeld ?_ | fail
                  first | (refine held_t (i := 9) hHeld ?_; apply Exists.intro; refine ⟨fun wq hq => ?_, ?_⟩; (focus ((try dsimp only at hq); go_simp; (first | done | with_reducible rfl | fail)))) | refine held_s (i := 9) hHeld ?_ | fail
                  first | (refine held_t (i := 10) hHeld ?_; apply Exists.intro; refine ⟨fun wq hq => ?_, ?_⟩; (focus ((try dsimp only at hq); go_simp; (first | done | with_reducible rfl | fail)))) | refine held_s (i := 10) hHeld ?_ | fail
                  try simp only [Act.put, List.setIfInBounds_toArray, List.set_cons_zero, List.set_cons_succ]
                  refine held_c 11 fun K hK => ?_
                  go_simp
                  (go_at_call 86; refine (HC9.out _ (Below.refl _ _).drew).mono ?_; rintro e w9 ⟨rfl, hm9, t9⟩; have h9 : Touch [mb] w2 w9 := (HW.out.2.then (Below.refl _ _).drew).trans t9 (fun q hq => Or.inl hq); have hk9 : Below V.heap.size V w9 := HB2.out.2.2.2.2.trans (h9.below HB2.out.2.2.2.2.size (fun q hq => by simp at hq; have := HBY.out.2.1; omega)); have H9 := Lib.hid (And.intro hm9 h9))
                  refine hK.out _ _ (⟨(HP2.out _ h9).1.cells 3 _ rfl, (HP2.out _ h9).2.cells 3 _ rfl, cell_later hk9 HPV.out.1, cell_later hk9 HPV.out.2.1, cell_later hk9 HPV.out.2.2.1, cell_later hk9 HPV.out.2.2.2.1, cell_later hk9 HPV.out.2.2.2.2.1, cell_later hk9 HPV.out.2.2.2.2.2.1, cell_later hk9 HPV.out.2.2.2.2.2.2.1, cell_later hk9 HPV.out.2.2.2.2.2.2.2⟩) (fun hHeld => ?_)
                  clear hK K
                  try simp only [Act.put, List.setIfInBounds_toArray, List.set_cons_zero, List.set_cons_succ]
                  clear hm9 t9 h9 hk9
                  first | (refine held_t (i := 12) hHeld ?_; apply Exists.intro; refine ⟨fun wq hq => ?_, ?_⟩; (focus ((try dsimp only at hq); go_simp; (first | done | with_reducible rfl | fail)))) | refine held_s (i := 12) hHeld ?_ | fail
                  try simp only [Act.put, List.setIfInBounds_toArray, List.set_cons_zero, List.set_cons_succ]
                  refine wpAnyH_done (by kernel_rfl) ?_ _
                  clear hHeld x3 y3 a0 a1 a2 a3 b0 b1 b2 b3
                  obtain ⟨ok, hok⟩ : ∃ ok, r.1 = ok := ⟨_, rfl⟩
                  rw [hok]
                  have HOK := Lib.hid hok
                  clear hok
                  cases ok
                  · have hE : R = (false, r.2) := by have := HRS.out.1; rw [if_neg (by rw [HOK.out]; simp)] at this; exact this.symm
                    have HE9 := Lib.hid hE
                    clear hE
                    go_wp2
                    go_ret
                    rw [HE9.out]
                    exact ⟨rfl, fun e => (by cases e), HNO.out.trans H9.out.2 (fun q hq => Or.inl hq)⟩
                  · have hE : moreL (ts.drop (j + 1)) (ts'.drop (j + 1)) r.2 = R := by have := HRS.out.1; rw [if_pos HOK.out] at this; exact this
                    have HPI := Lib.hid (show BecI V w2 mb ts ts' R (j + 1) w9 from ⟨r.2, H9.out.1 HOK.out, hE, H9.out.2, HRS.out.2⟩)
                    clear hE
                    go_wp2
                    go_roundw
                    case rel => exact ⟨j + 1, by omega, by go_num, HPI⟩
                    case measure => simp [intOf]; omega
                · have hjm2 : j = m := by omega
                  subst hjm2
                  have hE : R = (true, Lj) := by
                    rw [← hrj, List.drop_eq_nil_of_le (by rw [HM.out.1]; exact Nat.le_refl _), moreL]
                  have HE9 := Lib.hid (And.intro hE (And.intro hmj htj))
                  clear hE hrj hmj htj hlj hbw hx5 hy5 x3 y3 HP
                  go_wp2
                  go_ret
                  rw [HE9.out.1]
                  exact ⟨rfl, fun _ => HE9.out.2.1, HNO.out.trans HE9.out.2.2 (fun q hq => Or.inl hq)⟩
            · rw [if_neg (fun e => g4 e.2.2.2)] at hR0
              have g4' : ((m : Int) != m') = true := by simp; omega
              have g4n : ¬ (m : Int) = m' := by omega
              have HR0 := Lib.hid hR0
              clear hR0
              go_enter Try.func86, Try.ntmps86
              go_upto_region 1 with fail
              (try rw [HE.out.1, HE.out.2])
              go_wp2
              go_ret
              rw [HR0.out]
              exact ⟨rfl, fun e => (by cases e), HNO.out⟩
          · rw [if_neg (fun e => g3 (bytes_eq e.2.2.1))] at hR0
            have hb : (s.data.toList == s'.data.toList) = false := beq_false_of_ne (fun e => g3 (bytes_eq e))
            have g3' : (s.toList == s'.toList) = false := by rw [Lib.toList_data, Lib.toList_data]; exact hb
            have g3n : ¬ s.toList = s'.toList := by rw [Lib.toList_data, Lib.toList_data]; exact fun e => g3 (bytes_eq e)
            have HR0 := Lib.hid hR0
            clear hR0 hb
            go_enter Try.func86, Try.ntmps86
            go_upto_region 1 with fail
            (try rw [HE.out.1, HE.out.2])
            go_wp2
            go_ret
            rw [HR0.out]
            exact ⟨rfl, fun e => (by cases e), HNO.out⟩
        · rw [if_neg (fun e => g2 e.2.1)] at hR0
          have g2' : (n != n') = true := by simpa using g2
          have HR0 := Lib.hid hR0
          clear hR0
          go_enter Try.func86, Try.ntmps86
          go_upto_region 1 with fail
          (try rw [HE.out.1, HE.out.2])
          go_wp2
          go_ret
          rw [HR0.out]
          exact ⟨rfl, fun e => (by cases e), HNO.out⟩
      · rw [if_neg (fun e => g1 e.1)] at hR0
        have g1' : (k != k') = true := by simpa using g1
        have HR0 := Lib.hid hR0
        clear hR0
        go_enter Try.func86, Try.ntmps86
        go_upto_region 1 with fail
        (try rw [HE.out.1, HE.out.2])
        go_wp2
        go_ret
        rw [HR0.out]
        exact ⟨rfl, fun e => (by cases e), HNO.out⟩
end Go.Proofs.Ytbbbgijlbcmpbaa
/- Package alias: More, walked. -/
namespace Go.Proofs.Ytbbbgijlbcmpbaa
open Go.RowKit Go.Maps
set_option linter.unusedVariables false

set_option maxHeartbeats 8000000 in
set_option maxRecDepth 100000 in
theorem pMore_at (x y : Tm) (w : World) (vx vy : Value) (hvx : TmV w x vx) (hvy : TmV w y vy) : Calls Try.prog 54 #[vx, vy] w fun e w' => e = .returned (.bool (moreB x y)) ∧ Below w.heap.size w w' := by
  have hmm := @run_makeMap Try.prog
  obtain ⟨k, n, s, a, m, c, rfl⟩ := hvx.full
  obtain ⟨k', n', s', a', m', c', rfl⟩ := hvy.full
  obtain ⟨w1, e1, B1, z1, X1⟩ := box_new w #[.int .i64 k, .int .i64 n, .string s, .slice a m c] 31
  obtain ⟨w2, e2, B2, z2, X2⟩ := box_new w1 #[.int .i64 k', .int .i64 n', .string s', .slice a' m' c'] 31
  have X1 := X1.ext B2
  have B12 := Ext.trans' B1 B2
  rw [z1] at X2 z2
  obtain ⟨x0, x1, x2, x3, _⟩ := X1.four
  have HE := Lib.hid (And.intro e1 e2)
  have HB2 := Lib.hid (And.intro B12 (And.intro X1 X2))
  have HGY := Lib.hid (fun (wq : World) (hb : Below w.heap.size w wq) => Good_at y wq _ (TmV.ext hb _ _ hvy))
  have HBE := Lib.hid (fun (wq : World) (mb : Nat) (hb : Below w.heap.size w wq) (hmb : w.heap.size ≤ mb) (hm : TermM w wq mb []) (hgx : goodT x = true) (hgy : goodT y = true) => becomes_at w _ x (Nat.le_refl _) y [] wq mb _ _ hvx hvy hgy hb hmb hm (by have := (good_parts hgx).1; simp; omega))
  have C := Good_at x w2 _ (TmV.ext B12 _ _ hvx)
  clear B1 B2 z1 e1 e2 X1 X2 hvx hvy
  cases hgx : goodT x
  · have hr : moreB x y = false := by unfold moreB; rw [hgx]; rfl
    rw [hr]
    rw [hgx] at C
    clear hr hgx hmm
    go_enter Try.func54, Try.ntmps54
    go_upto_region 1 with fail
    (try rw [HE.out.1, HE.out.2])
    (go_wp2_with fail; go_fit (C); rintro e w3 ⟨rfl, b3⟩)
    have HB3 := Lib.hid (Ext.trans' HB2.out.1 b3)
    clear b3 C
    go_wp2
    go_ret
    exact ⟨rfl, HB3.out⟩
  · rw [hgx] at C
    cases hgy : goodT y
    · have hr : moreB x y = false := by unfold moreB; rw [hgx, hgy]; rfl
      rw [hr]
      rw [hgy] at HGY
      clear hr hgx hgy hmm
      go_enter Try.func54, Try.ntmps54
      go_upto_region 1 with fail
      (try rw [HE.out.1, HE.out.2])
      (go_wp2_with fail; go_fit (C); rintro e w3 ⟨rfl, b3⟩)
      have HB3 := Lib.hid (Ext.trans' HB2.out.1 b3)
      obtain ⟨y0, y1, y2, y3, _⟩ := (HB2.out.2.2.ext b3).four
      clear b3 C
      have C := HGY.out w3 HB3.out
      (go_wp2_with fail; go_fit (C); rintro e w4 ⟨rfl, b4⟩)
      have HB4 := Lib.hid (Ext.trans' HB3.out b4)
      clear b4 C
      go_wp2
      go_ret
      exact ⟨rfl, HB4.out⟩
    · rw [hgy] at HGY
      have hr : moreB x y = (moreT x y []).1 := by unfold moreB; rw [hgx, hgy]; rfl
      rw [hr]
      have HGG := Lib.hid (And.intro hgx hgy)
      obtain ⟨R, hR⟩ : ∃ R, moreT x y [] = R := ⟨_, rfl⟩
      rw [hR] at HBE ⊢
      unfold BecP at HBE
      clear hr hgx hgy hR
      go_enter Try.func54, Try.ntmps54
      go_upto_region 1 with fail
      (try rw [HE.out.1, HE.out.2])
      (go_wp2_with fail; go_fit (C); rintro e w3 ⟨rfl, b3⟩)
      have HB3 := Lib.hid (Ext.trans' HB2.out.1 b3)
      have HX3 := Lib.hid (And.intro (HB2.out.2.1.ext b3) (HB2.out.2.2.ext b3))
      obtain ⟨y0, y1, y2, y3, _⟩ := HX3.out.2.four
      clear b3 C x0 x1 x2 x3
      have C := HGY.out w3 HB3.out
      (go_wp2_with fail; go_fit (C); rintro e w4 ⟨rfl, b4⟩)
      have HB4 := Lib.hid (Ext.trans' HB3.out b4)
      have HX4 := Lib.hid (And.intro (HX3.out.1.ext b4) (HX3.out.2.ext b4))
      clear b4 C y0 y1 y2 y3
      obtain ⟨x0, x1, x2, x3, _⟩ := HX4.out.1.four
      obtain ⟨y0, y1, y2, y3, _⟩ := HX4.out.2.four
      have C := HBE.out (w4.alloc (.map #[] 0)) w4.heap.size (Ext.trans' HB4.out (bel1' _ _)) HB4.out.size (TermM.nil _ _) HGG.out.1 HGG.out.2
      (go_wp2_with fail; go_fit (C); rintro e w5 ⟨rfl, _, t5⟩)
      have HB5 := Lib.hid (show Below w.heap.size w w5 from (Ext.trans' HB4.out (bel1' w4 (.map #[] 0))).trans (t5.below (by have := HB4.out.size; simp; omega) (fun q hq => by simp at hq; have := HB4.out.size; omega)))
      clear t5 C
      go_wp2
      go_ret
      exact ⟨rfl, HB5.out⟩
end Go.Proofs.Ytbbbgijlbcmpbaa
/- Terms made beside a Binds: Comp apart from hidden blocks; two leaves in a row. -/
namespace Go.Proofs.Ytbbbgijlbcmpbaa
open Go.RowKit
set_option linter.unusedVariables false

theorem comp_hide {D : Nat → Bool} {w : World} {v : Value} {l : List Tm} (s : ByteArray) (hs : s.size ≤ BIG) (hD : Old D w) (h : Tms (hide D w) v l) :
    Calls Try.prog 20 #[.string s, v] w fun e w' => ∃ a c, e = .returned (.agg #[.int .i64 2, .int .i64 0, .string s, .slice a l.length c]) ∧ TmV (hide D w') (.mk 2 0 s l) (.agg #[.int .i64 2, .int .i64 0, .string s, .slice a l.length c]) ∧ Below w.heap.size w w' := by
  obtain ⟨ps, ao, c, rfl, hpl, hpm, hpa, hbig, hsrc⟩ := h.pairs
  refine (comp_ps (c := c) ps s hpl hbig (pCells_one ps hpa) (hsrc.imp id (fun ⟨ad, e, hc⟩ => ⟨ad, e, fun j u hj => (Stays.unhide D w).2 _ _ (hc j u hj)⟩))).mono ?_
  rintro e w' ⟨a, c', rfl, hR, hB⟩
  refine ⟨a, c', rfl, ?_, hB⟩
  have hT := (hR.hide (D := D) (fun k hk _ => hD k (by omega))).terms (fun p hp => TmV.later hB (hpa p hp)) (by rw [hpl]; exact hbig)
  rw [hpm] at hT
  exact tmV_iff.2 ⟨_, rfl, hs, i64_2, i64_0, hT⟩
/-- Two leaves in a row of their own. -/
theorem two_hide {D : Nat → Bool} (w : World) (ty : TypeId) {k n k' n' : Int} {s s' : ByteArray} (hk : I64 k) (hn : I64 n) (hs : s.size ≤ BIG) (hk' : I64 k') (hn' : I64 n') (hs' : s'.size ≤ BIG) (hD : Old D w) :
    Tms (hide D (w.alloc (.cells #[.int .i64 k, .int .i64 n, .string s, .slice none 0 0, .int .i64 k', .int .i64 n', .string s', .slice none 0 0] ty))) (.slice (some ⟨w.heap.size, 0, none⟩) 2 2) [.mk k n s [], .mk k' n' s' []] := by
  obtain ⟨w1, e1, B1, z1, X1⟩ := box_new w #[.int .i64 k, .int .i64 n, .string s, .slice none 0 0, .int .i64 k', .int .i64 n', .string s', .slice none 0 0] ty
  rw [e1]
  have hc : ∀ j u, [Value.int .i64 k, .int .i64 n, .string s, .slice none 0 0, .int .i64 k', .int .i64 n', .string s', .slice none 0 0][j]? = some u → (hide D w1).cell? ⟨w.heap.size, j, none⟩ = some u := fun j u hj => by
    rw [hide_cell _ _ _ (hD _ (Nat.le_refl _))]
    exact X1.cells j u hj
  refine ⟨some ⟨w.heap.size, 0, none⟩, 2, rfl, by simp, by unfold maxLen; omega, by unfold BIG; simp, Or.inr ⟨_, 0, rfl, by rw [hide_size]; exact X1.lt, ?_⟩⟩
  rw [TmRow, TmRow, TmRow]
  exact ⟨⟨_, _, _, _, hc 0 _ rfl, hc 1 _ rfl, hc 2 _ rfl, hc 3 _ rfl, leaf_tm _ hk hn hs⟩, ⟨_, _, _, _, hc 4 _ rfl, hc 5 _ rfl, hc 6 _ rfl, hc 7 _ rfl, leaf_tm _ hk' hn' hs'⟩, trivial⟩
end Go.Proofs.Ytbbbgijlbcmpbaa
/- Closed laws over a Binds: what is carried from call to call. -/
namespace Go.Proofs.Ytbbbgijlbcmpbaa
open Go.RowKit
set_option linter.unusedVariables false

section
variable {W w w' : World} {p : Value} {N : Nat} {S : List (Int × Tm)} {fs : List (Nat × Nat × Value)} {ts : List (Tm × Value)}
theorem old_under {w w' : World} (hb : w.heap.size ≤ w'.heap.size) : Old (under w.heap.size) w' := fun k hk => by simp; omega
/-- A term with one leaf. -/
theorem one_hide {D : Nat → Bool} (w : World) (ty : TypeId) {k n : Int} {s : ByteArray} (hk : I64 k) (hn : I64 n) (hs : s.size ≤ BIG) (hD : Old D w) :
    Tms (hide D (w.alloc (.cells #[.int .i64 k, .int .i64 n, .string s, .slice none 0 0] ty))) (.slice (some ⟨w.heap.size, 0, none⟩) 1 1) [.mk k n s []] := by
  obtain ⟨w1, e1, B1, z1, X1⟩ := box_new w #[.int .i64 k, .int .i64 n, .string s, .slice none 0 0] ty
  rw [e1]
  have hc : ∀ j u, [Value.int .i64 k, .int .i64 n, .string s, .slice none 0 0][j]? = some u → (hide D w1).cell? ⟨w.heap.size, j, none⟩ = some u := fun j u hj => by
    rw [hide_cell _ _ _ (hD _ (Nat.le_refl _))]
    exact X1.cells j u hj
  refine ⟨some ⟨w.heap.size, 0, none⟩, 1, rfl, by simp, by unfold maxLen; omega, by unfold BIG; simp, Or.inr ⟨_, 0, rfl, by rw [hide_size]; exact X1.lt, ?_⟩⟩
  rw [TmRow, TmRow]
  exact ⟨⟨_, _, _, _, hc 0 _ rfl, hc 1 _ rfl, hc 2 _ rfl, hc 3 _ rfl, leaf_tm _ hk hn hs⟩, trivial⟩
/-- Comp of one leaf, of two, made since w0. -/
theorem comp_one {w0 : World} (hb : Below w0.heap.size w0 w) (t s : ByteArray) (ht : t.size ≤ BIG) {k n : Int} (hk : I64 k) (hn : I64 n) (hs : s.size ≤ BIG) :
    Calls Try.prog 20 #[.string t, .slice (some ⟨w.heap.size, 0, none⟩) 1 1] (w.alloc (.cells #[.int .i64 k, .int .i64 n, .string s, .slice none 0 0] 31)) fun e w' => ∃ a c, e = .returned (.agg #[.int .i64 2, .int .i64 0, .string t, .slice a 1 c]) ∧ TmV (hide (under w0.heap.size) w') (.mk 2 0 t [.mk k n s []]) (.agg #[.int .i64 2, .int .i64 0, .string t, .slice a 1 c]) ∧ Below w0.heap.size w0 w' := by
  have h1 := one_hide (D := under w0.heap.size) w 31 hk hn hs (old_under hb.size)
  refine (comp_hide t ht (old_under (by have := hb.size; have := (bel1' w (.cells #[.int .i64 k, .int .i64 n, .string s, .slice none 0 0] 31)).size; omega)) h1).mono ?_
  rintro e w' ⟨a, c, rfl, hT, hB⟩
  exact ⟨a, c, rfl, hT, Ext.trans' hb (Ext.trans' (bel1' w _) hB)⟩
theorem comp_two {w0 : World} (hb : Below w0.heap.size w0 w) (t s s' : ByteArray) (ht : t.size ≤ BIG) {k n k' n' : Int} (hk : I64 k) (hn : I64 n) (hs : s.size ≤ BIG) (hk' : I64 k') (hn' : I64 n') (hs' : s'.size ≤ BIG) :
    Calls Try.prog 20 #[.string t, .slice (some ⟨w.heap.size, 0, none⟩) 2 2] (w.alloc (.cells #[.int .i64 k, .int .i64 n, .string s, .slice none 0 0, .int .i64 k', .int .i64 n', .string s', .slice none 0 0] 31)) fun e w' => ∃ a c, e = .returned (.agg #[.int .i64 2, .int .i64 0, .string t, .slice a 2 c]) ∧ TmV (hide (under w0.heap.size) w') (.mk 2 0 t [.mk k n s [], .mk k' n' s' []]) (.agg #[.int .i64 2, .int .i64 0, .string t, .slice a 2 c]) ∧ Below w0.heap.size w0 w' := by
  have h1 := two_hide (D := under w0.heap.size) w 31 hk hn hs hk' hn' hs' (old_under hb.size)
  refine (comp_hide t ht (old_under (by have := hb.size; have := (bel1' w (.cells #[.int .i64 k, .int .i64 n, .string s, .slice none 0 0, .int .i64 k', .int .i64 n', .string s', .slice none 0 0] 31)).size; omega)) h1).mono ?_
  rintro e w' ⟨a, c, rfl, hT, hB⟩
  exact ⟨a, c, rfl, hT, Ext.trans' hb (Ext.trans' (bel1' w _) hB)⟩
end
end Go.Proofs.Ytbbbgijlbcmpbaa
/- Stage 13's laws: binds, awake. -/
namespace Go.Proofs.Ytbbbgijlbcmpbaa
open Go.RowKit
set_option linter.unusedVariables false

theorem big_0 : (⟨#[]⟩ : ByteArray).size ≤ BIG := by unfold BIG; decide
theorem big_1 (c : UInt8) : (⟨#[c]⟩ : ByteArray).size ≤ BIG := by show 1 ≤ BIG; unfold BIG; omega
theorem var_rd (w : World) (n : Int) (h : I64 n) : TmV w (varV n) (.agg #[.int .i64 0, .int .i64 n, .string ⟨#[]⟩, .slice none 0 0]) := leaf_tm w i64_0 h big_0
theorem int_rd (w : World) (n : Int) (h : I64 n) : TmV w (intT n) (.agg #[.int .i64 1, .int .i64 n, .string ⟨#[]⟩, .slice none 0 0]) := leaf_tm w i64_1 h big_0
/-- Comp of three variables. -/
theorem comp_three {w : World} (t : ByteArray) (ht : t.size ≤ BIG) {n1 n2 n3 : Int} (h1 : I64 n1) (h2 : I64 n2) (h3 : I64 n3) :
    Calls Try.prog 20 #[.string t, .slice (some ⟨w.heap.size, 0, none⟩) 3 3] (w.alloc (.cells #[.int .i64 0, .int .i64 n1, .string ⟨#[]⟩, .slice none 0 0, .int .i64 0, .int .i64 n2, .string ⟨#[]⟩, .slice none 0 0, .int .i64 0, .int .i64 n3, .string ⟨#[]⟩, .slice none 0 0] 31))
      fun e w' => ∃ a c, e = .returned (.agg #[.int .i64 2, .int .i64 0, .string t, .slice a 3 c]) ∧ TmV w' (.mk 2 0 t [varV n1, varV n2, varV n3]) (.agg #[.int .i64 2, .int .i64 0, .string t, .slice a 3 c]) ∧ Below w.heap.size w w' := by
  obtain ⟨w1, e1, B1, z1, X1⟩ := box_new w #[.int .i64 0, .int .i64 n1, .string ⟨#[]⟩, .slice none 0 0, .int .i64 0, .int .i64 n2, .string ⟨#[]⟩, .slice none 0 0, .int .i64 0, .int .i64 n3, .string ⟨#[]⟩, .slice none 0 0] 31
  rw [e1]
  have hc : ∀ j u, [Value.int .i64 0, .int .i64 n1, .string ⟨#[]⟩, .slice none 0 0, .int .i64 0, .int .i64 n2, .string ⟨#[]⟩, .slice none 0 0, .int .i64 0, .int .i64 n3, .string ⟨#[]⟩, .slice none 0 0][j]? = some u → (hide (fun _ => false) w1).cell? ⟨w.heap.size, j, none⟩ = some u := fun j u hj => by
    rw [hide_none]
    exact X1.cells j u hj
  have hT : Tms (hide (fun _ => false) w1) (.slice (some ⟨w.heap.size, 0, none⟩) 3 3) [varV n1, varV n2, varV n3] := by
    refine ⟨some ⟨w.heap.size, 0, none⟩, 3, rfl, by simp, by unfold maxLen; omega, by unfold BIG; simp, Or.inr ⟨_, 0, rfl, by rw [hide_size]; exact X1.lt, ?_⟩⟩
    rw [TmRow, TmRow, TmRow, TmRow]
    exact ⟨⟨_, _, _, _, hc 0 _ rfl, hc 1 _ rfl, hc 2 _ rfl, hc 3 _ rfl, var_rd _ _ h1⟩, ⟨_, _, _, _, hc 4 _ rfl, hc 5 _ rfl, hc 6 _ rfl, hc 7 _ rfl, var_rd _ _ h2⟩, ⟨_, _, _, _, hc 8 _ rfl, hc 9 _ rfl, hc 10 _ rfl, hc 11 _ rfl, var_rd _ _ h3⟩, trivial⟩
  refine (comp_hide t ht (fun _ _ => rfl) hT).mono ?_
  rintro e w' ⟨a, c, rfl, h, b⟩
  exact ⟨a, c, rfl, h.bare, Ext.trans' B1 b⟩
def f737 : Tm := .mk 2 0 ⟨#[102]⟩ [varV 7, varV 3, varV 7]
def f010 : Tm := .mk 2 0 ⟨#[102]⟩ [varV 0, varV 1, varV 0]
theorem plain_737 : plainE f737 = (f010, 0) := by kernel_rfl
theorem good_010 : goodT f010 = true := by decide +kernel
theorem ground_1 : (goodT (intT 1) && decide (varsT (intT 1) [] = [])) = true := by kernel_rfl
set_option maxHeartbeats 8000000 in
set_option maxRecDepth 100000 in
theorem aawake_at (w : World) : Calls Try.prog 52 #[] w fun e w' => e = .returned (.bool true) ∧ Below w.heap.size w w' := by
  go_enter Try.func52, Try.ntmps52
  (go_wp2_with fail; go_fit (var_at _ 7); rintro e w1 ⟨rfl, b1⟩)
  (go_wp2_with fail; go_fit (var_at _ 3); rintro e w2 ⟨rfl, b2⟩)
  (go_wp2_with fail; go_fit (var_at _ 7); rintro e w3 ⟨rfl, b3⟩)
  have HB3 := Lib.hid (Ext.trans' b1 (Ext.trans' b2 b3))
  have C := comp_three (w := w3) ⟨#[102]⟩ (big_1 _) (n1 := 7) (n2 := 3) (n3 := 7) (by unfold I64; omega) (by unfold I64; omega) (by unfold I64; omega)
  clear b1 b2 b3
  (go_wp2_with fail; go_fit (C); rintro e w5 ⟨a5, c5, rfl, ht5, b5⟩)
  have HB5 := Lib.hid (Ext.trans' HB3.out b5)
  have C := Plain_at f737 w5 _ ht5
  rw [plain_737] at C
  unfold PlainP at C
  clear b5 ht5
  (go_wp2_with fail; go_fit (C); rintro e w6 ⟨r, rfl, ht6, b6⟩)
  obtain ⟨k6, n6, s6, a6, m6, c6, rfl, f1, f2, f3, f4⟩ := four_of ht6
  obtain ⟨w7, e7, b7, z7, x7⟩ := box_new w6 #[.int .i64 k6, .int .i64 n6, .string s6, .slice a6 m6 c6] 31
  have HB7 := Lib.hid (Ext.trans' HB5.out (Ext.trans' b6 b7))
  have HT7 := Lib.hid (TmV.ext b7 _ _ ht6.bare)
  have HX7 := Lib.hid x7
  have HE7 := Lib.hid e7
  clear f1 f2 f3 f4 ht6 b6 b7 z7 x7 e7 C
  go_upto_region 2 with fail
  (try rw [HE7.out])
  obtain ⟨x0, x1, x2, x3, _⟩ := HX7.out.four
  refine wp_region_held_drew (S := fun w' => (w'.cell? ⟨w6.heap.size, 0, none⟩ = some (.int .i64 k6) ∧ w'.cell? ⟨w6.heap.size, 1, none⟩ = some (.int .i64 n6) ∧ w'.cell? ⟨w6.heap.size, 2, none⟩ = some (.string s6) ∧ w'.cell? ⟨w6.heap.size, 3, none⟩ = some (.slice a6 m6 c6)) ∧ Below w7.heap.size w7 w') (by kernel_rfl) ⟨⟨x0, x1, x2, x3⟩, (Below.refl _ _).drew⟩ (fun hHeld => ?_)
  first | (refine held_t (i := 0) hHeld ?_; apply Exists.intro; refine ⟨fun wq hq => ?_, ?_⟩; (focus ((try dsimp only at hq); go_simp; (first | done | with_reducible rfl | fail)))) | refine held_s (i := 0) hHeld ?_ | fail
  first | (refine held_t (i := 1) hHeld ?_; apply Exists.intro; refine ⟨fun wq hq => ?_, ?_⟩; (focus ((try dsimp only at hq); go_simp; (first | done | with_reducible rfl | fail)))) | refine held_s (i := 1) hHeld ?_ | fail
  try simp only [Act.put, List.setIfInBounds_toArray, List.set_cons_zero, List.set_cons_succ]
  first | (refine held_t (i := 2) hHeld ?_; apply Exists.intro; refine ⟨fun wq hq => ?_, ?_⟩; (focus ((try dsimp only at hq); go_simp; (first | done | with_reducible rfl | fail)))) | refine held_s (i := 2) hHeld ?_ | fail
  first | (refine held_t (i := 3) hHeld ?_; apply Exists.intro; refine ⟨fun wq hq => ?_, ?_⟩; (focus ((try dsimp only at hq); go_simp; (first | done | with_reducible rfl | fail)))) | refine held_s (i := 3) hHeld ?_ | fail
  try simp only [Act.put, List.setIfInBounds_toArray, List.set_cons_zero, List.set_cons_succ]
  refine held_c 4 fun K hK => ?_
  go_simp
  (go_at_call 19; refine (var_at _ 0).mono ?_; rintro e u1 ⟨rfl, h6⟩)
  refine hK.out _ _ (⟨⟨cell_later h6 hHeld.1.1, cell_later h6 hHeld.1.2.1, cell_later h6 hHeld.1.2.2.1, cell_later h6 hHeld.1.2.2.2⟩, Ext.trans' hHeld.2 h6⟩) (fun hHeld => ?_)
  clear hK K
  try simp only [Act.put, List.setIfInBounds_toArray, List.set_cons_zero, List.set_cons_succ]
  refine held_c 5 fun K hK => ?_
  go_simp
  (go_at_call 19; refine (var_at _ 1).mono ?_; rintro e u2 ⟨rfl, h6⟩)
  refine hK.out _ _ (⟨⟨cell_later h6 hHeld.1.1, cell_later h6 hHeld.1.2.1, cell_later h6 hHeld.1.2.2.1, cell_later h6 hHeld.1.2.2.2⟩, Ext.trans' hHeld.2 h6⟩) (fun hHeld => ?_)
  clear hK K
  try simp only [Act.put, List.setIfInBounds_toArray, List.set_cons_zero, List.set_cons_succ]
  refine held_c 6 fun K hK => ?_
  go_simp
  (go_at_call 19; refine (var_at _ 0).mono ?_; rintro e u3 ⟨rfl, h6⟩)
  refine hK.out _ _ (⟨⟨cell_later h6 hHeld.1.1, cell_later h6 hHeld.1.2.1, cell_later h6 hHeld.1.2.2.1, cell_later h6 hHeld.1.2.2.2⟩, Ext.trans' hHeld.2 h6⟩) (fun hHeld => ?_)
  clear hK K
  try simp only [Act.put, List.setIfInBounds_toArray, List.set_cons_zero, List.set_cons_succ]
  have HU3 := Lib.hid (hHeld.2.trans (Below.refl _ _))
  have C := comp_three (w := u3) ⟨#[102]⟩ (big_1 _) (n1 := 0) (n2 := 1) (n3 := 0) i64_0 i64_1 i64_0
  refine held_c 7 fun K hK => ?_
  go_simp
  skip
  refine hK.out _ _ (⟨⟨cell_later (bel1' _ _) hHeld.1.1, cell_later (bel1' _ _) hHeld.1.2.1, cell_later (bel1' _ _) hHeld.1.2.2.1, cell_later (bel1' _ _) hHeld.1.2.2.2⟩, Ext.trans' hHeld.2 (bel1' _ _)⟩) (fun hHeld => ?_)
  clear hK K
  try simp only [Act.put, List.setIfInBounds_toArray, List.set_cons_zero, List.set_cons_succ]
  refine held_c 8 fun K hK => ?_
  go_simp
  (go_at_call 20; refine C.mono ?_; rintro e u4 ⟨a8, c8, rfl, ht8, h6'⟩; have HT8 := Lib.hid (show TmV u4 f010 _ from ht8); have h6 : Below w7.heap.size w7 u4 := Ext.trans' HU3.out h6'; clear ht8)
  refine hK.out _ _ (⟨⟨cell_later h6 HX7.out.four.1, cell_later h6 HX7.out.four.2.1, cell_later h6 HX7.out.four.2.2.1, cell_later h6 HX7.out.four.2.2.2.1⟩, h6⟩) (fun hHeld => ?_)
  clear hK K
  try simp only [Act.put, List.setIfInBounds_toArray, List.set_cons_zero, List.set_cons_succ]
  refine held_c 9 fun K hK => ?_
  go_simp
  (go_at_call 25; refine (Same_at (TmV.ext hHeld.2 _ _ HT7.out) HT8.out).mono ?_; rintro e u5 ⟨rfl, h6⟩; rw [good_010, same_self])
  refine hK.out _ _ (⟨⟨cell_later h6 hHeld.1.1, cell_later h6 hHeld.1.2.1, cell_later h6 hHeld.1.2.2.1, cell_later h6 hHeld.1.2.2.2⟩, Ext.trans' hHeld.2 h6⟩) (fun hHeld => ?_)
  clear hK K
  try simp only [Act.put, List.setIfInBounds_toArray, List.set_cons_zero, List.set_cons_succ]
  first | (refine held_t (i := 10) hHeld ?_; apply Exists.intro; refine ⟨fun wq hq => ?_, ?_⟩; (focus ((try dsimp only at hq); go_simp; (first | done | with_reducible rfl | fail)))) | refine held_s (i := 10) hHeld ?_ | fail
  first | (refine held_t (i := 11) hHeld ?_; apply Exists.intro; refine ⟨fun wq hq => ?_, ?_⟩; (focus ((try dsimp only at hq); go_simp; (first | done | with_reducible rfl | fail)))) | refine held_s (i := 11) hHeld ?_ | fail
  try simp only [Act.put, List.setIfInBounds_toArray, List.set_cons_zero, List.set_cons_succ]
  refine held_c 12 fun K hK => ?_
  go_simp
  (go_at_call 18; refine (int_at _ 1).mono ?_; rintro e u6 ⟨rfl, h6⟩)
  refine hK.out _ _ (⟨⟨cell_later h6 hHeld.1.1, cell_later h6 hHeld.1.2.1, cell_later h6 hHeld.1.2.2.1, cell_later h6 hHeld.1.2.2.2⟩, Ext.trans' hHeld.2 h6⟩) (fun hHeld => ?_)
  clear hK K
  try simp only [Act.put, List.setIfInBounds_toArray, List.set_cons_zero, List.set_cons_succ]
  refine held_c 13 fun K hK => ?_
  go_simp
  (go_at_call 56; refine (Ground_at (intT 1) _ _ (int_rd _ _ i64_1)).mono ?_; rintro e u7 ⟨rfl, h6⟩; rw [ground_1])
  refine hK.out _ _ (⟨⟨cell_later h6 hHeld.1.1, cell_later h6 hHeld.1.2.1, cell_later h6 hHeld.1.2.2.1, cell_later h6 hHeld.1.2.2.2⟩, Ext.trans' hHeld.2 h6⟩) (fun hHeld => ?_)
  clear hK K
  try simp only [Act.put, List.setIfInBounds_toArray, List.set_cons_zero, List.set_cons_succ]
  first | (refine held_t (i := 14) hHeld ?_; apply Exists.intro; refine ⟨fun wq hq => ?_, ?_⟩; (focus ((try dsimp only at hq); go_simp; (first | done | with_reducible rfl | fail)))) | refine held_s (i := 14) hHeld ?_ | fail
  try simp only [Act.put, List.setIfInBounds_toArray, List.set_cons_zero, List.set_cons_succ]
  first | (refine held_t (i := 15) hHeld ?_; apply Exists.intro; refine ⟨fun wq hq => ?_, ?_⟩; (focus ((try dsimp only at hq); go_simp; (first | done | with_reducible rfl | fail)))) | refine held_s (i := 15) hHeld ?_ | fail
  try simp only [Act.put, List.setIfInBounds_toArray, List.set_cons_zero, List.set_cons_succ]
  have HEND := Lib.hid (Ext.trans' HB7.out hHeld.2)
  clear hHeld
  refine wpAnyH_done (by kernel_rfl) ?_ _
  go_wp2
  go_ret
  exact ⟨rfl, HEND.out⟩
end Go.Proofs.Ytbbbgijlbcmpbaa
