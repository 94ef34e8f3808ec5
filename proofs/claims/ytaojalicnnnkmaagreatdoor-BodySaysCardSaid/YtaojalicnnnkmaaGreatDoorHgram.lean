import Derived.Test.YtaojalicnnnkmaaGreatDoorHgral
set_option linter.unusedVariables false
set_option linter.unusedSimpArgs false
/- The document's side of chapter 14: of, walked. -/
namespace Go.Proofs.YtaojalicnnnkmaaGreatDoor
open Go.RowKit
set_option linter.unusedVariables false

theorem args_one {D : Nat → Bool} {w : World} {a : Option Addr} {m c : Nat} {x : Tm} (h : Tms (hide D w) (.slice a m c) [x]) :
    ∃ b off k1 n1 s1 a1 m1 c1, a = some ⟨b, off, none⟩ ∧ w.cell? ⟨b, off, none⟩ = some (.int .i64 k1) ∧ w.cell? ⟨b, off + 1, none⟩ = some (.int .i64 n1) ∧ w.cell? ⟨b, off + 2, none⟩ = some (.string s1) ∧ w.cell? ⟨b, off + 3, none⟩ = some (.slice a1 m1 c1) ∧
      TmV (hide D w) x (.agg #[.int .i64 k1, .int .i64 n1, .string s1, .slice a1 m1 c1]) := by
  obtain ⟨b, off, k1, n1, s1, u1, rfl, _, _, _, _, c0, c1, c2, c3, hu1, ht1⟩ := h.get (i := 0) (x := x) rfl
  obtain ⟨a1, z1, rfl, _⟩ := hu1.len
  exact ⟨b, off, k1, n1, s1, a1, _, z1, rfl, (Stays.unhide D w).2 _ _ c0, by have := (Stays.unhide D w).2 _ _ c1; simpa using this, by have := (Stays.unhide D w).2 _ _ c2; simpa using this, by have := (Stays.unhide D w).2 _ _ c3; simpa using this, ht1⟩
theorem args_two {D : Nat → Bool} {w : World} {a : Option Addr} {m c : Nat} {x y : Tm} (h : Tms (hide D w) (.slice a m c) [x, y]) :
    ∃ b off k1 n1 s1 a1 m1 c1 k2 n2 s2 a2 m2 c2, a = some ⟨b, off, none⟩ ∧ w.cell? ⟨b, off, none⟩ = some (.int .i64 k1) ∧ w.cell? ⟨b, off + 1, none⟩ = some (.int .i64 n1) ∧ w.cell? ⟨b, off + 2, none⟩ = some (.string s1) ∧ w.cell? ⟨b, off + 3, none⟩ = some (.slice a1 m1 c1) ∧
      w.cell? ⟨b, off + 4, none⟩ = some (.int .i64 k2) ∧ w.cell? ⟨b, off + 4 + 1, none⟩ = some (.int .i64 n2) ∧ w.cell? ⟨b, off + 4 + 2, none⟩ = some (.string s2) ∧ w.cell? ⟨b, off + 4 + 3, none⟩ = some (.slice a2 m2 c2) ∧
      TmV (hide D w) x (.agg #[.int .i64 k1, .int .i64 n1, .string s1, .slice a1 m1 c1]) ∧ TmV (hide D w) y (.agg #[.int .i64 k2, .int .i64 n2, .string s2, .slice a2 m2 c2]) ∧ Tms (hide D w) (.slice a1 m1 c1) x.args := by
  obtain ⟨b, off, k1, n1, s1, u1, rfl, _, _, _, _, c0, c1, c2, c3, hu1, ht1⟩ := h.get (i := 0) (x := x) rfl
  obtain ⟨b', off', k2, n2, s2, u2, e, _, _, _, _, d0, d1, d2, d3, hu2, ht2⟩ := h.get (i := 1) (x := y) rfl
  cases e
  obtain ⟨a1, z1, rfl, _⟩ := hu1.len
  obtain ⟨a2, z2, rfl, _⟩ := hu2.len
  exact ⟨b, off, k1, n1, s1, a1, _, z1, k2, n2, s2, a2, _, z2, rfl, (Stays.unhide D w).2 _ _ c0, by have := (Stays.unhide D w).2 _ _ c1; simpa using this, by have := (Stays.unhide D w).2 _ _ c2; simpa using this, by have := (Stays.unhide D w).2 _ _ c3; simpa using this,
    by have := (Stays.unhide D w).2 _ _ d0; simpa using this, by have := (Stays.unhide D w).2 _ _ d1; simpa using this, by have := (Stays.unhide D w).2 _ _ d2; simpa using this, by have := (Stays.unhide D w).2 _ _ d3; simpa using this, ht1, ht2, hu1⟩
theorem i64_of (z : Int) (h0 : 0 ≤ z) (h : z ≤ 100) : I64 z := by unfold I64; omega
/-- of's contract for the smaller ones. -/
def OfIH (M : Nat) : Prop := ∀ x, sizeN x ≤ M → ∀ (D : Nat → Bool) (w : World) (v : Value), Old D w → TmV (hide D w) x v → Calls Tryz.prog 38 #[v] w (OfP D w (ofB x))
theorem rows_use {M : Nat} (IH : OfIH M) {D : Nat → Bool} {W : World} (hD : Old D W) {kind : Int} (h0 : 0 ≤ kind) (h1 : kind ≤ 100) (ps : List TmP) (hl : ps.length ≤ 100) (hs : ∀ p ∈ ps, sizeN p.1 ≤ M) (wq : World) (hq : Below W.heap.size W wq) (hp : ∀ p ∈ ps, TmV (hide D wq) p.1 (pVal p)) (ty : TypeId) (cs : Array Value) (hcs : cs.toList = ps.flatMap pCells) :
    Calls Tryz.prog 60 #[.int .i64 kind, .slice (some ⟨wq.heap.size, 0, none⟩) ps.length ps.length] (wq.alloc (.cells cs ty)) (OfP D (wq.alloc (.cells cs ty)) ((ofR (ps.map (·.1))).map fun ls => [.mk kind zeroT ls])) := by
  have hDq : Old D wq := hD.mono hq.size
  refine rows_at (hDq.mono (by simp)) (i64_of _ h0 h1) (tms_new hDq ps hp hl ty cs hcs) (by rw [List.length_map]; exact hl) (fun x hx D' w' vx ho hv => ?_)
  obtain ⟨p, hpm, rfl⟩ := List.mem_map.1 hx
  exact IH _ (hs p hpm) D' w' vx ho hv

theorem tm_parts {w : World} {x : Tm} {k n : Int} {s : ByteArray} {u : Value} (h : TmV w x (.agg #[.int .i64 k, .int .i64 n, .string s, u])) : pCells (x, u) = [.int .i64 k, .int .i64 n, .string s, u] ∧ pVal (x, u) = .agg #[.int .i64 k, .int .i64 n, .string s, u] := by
  obtain ⟨xk, xn, xs, xl⟩ := x
  obtain ⟨u', e, _⟩ := tmV_iff.1 h
  have h3 := congrArg Array.toList (Value.agg.inj e)
  simp only [List.cons.injEq, and_true, Value.int.injEq, Value.string.injEq, true_and] at h3
  obtain ⟨rfl, rfl, rfl, rfl⟩ := h3
  exact ⟨rfl, rfl⟩
theorem ofR_one (k : Int) (a : Tm) : ((ofR [a]).map fun ls => [Gl.mk k zeroT ls]) = (ofB a).map fun x => [.mk k zeroT [x]] := by
  simp only [ofR]
  cases ofB a <;> rfl
theorem ofR_two (k : Int) (a b : Tm) : ((ofR [a, b]).map fun ls => [Gl.mk k zeroT ls]) = (ofB a).bind fun x => (ofB b).map fun y => [.mk k zeroT [x, y]] := by
  simp only [ofR]
  cases ofB a <;> cases ofB b <;> rfl
theorem ofR_three (k : Int) (a b c : Tm) : ((ofR [a, b, c]).map fun ls => [Gl.mk k zeroT ls]) = (ofB a).bind fun x => (ofB b).bind fun y => (ofB c).map fun z => [.mk k zeroT [x, y, z]] := by
  simp only [ofR]
  cases ofB a <;> cases ofB b <;> cases ofB c <;> rfl
set_option maxHeartbeats 8000000 in
set_option maxRecDepth 100000 in
theorem rof_step (M : Nat) (hM : M ≤ 200000) (ih : OfIH M) (t : Tm) (ht : sizeN t ≤ M + 1) (D : Nat → Bool) (w : World) (v : Value) (hD : Old D w) (hv : TmV (hide D w) t v) : Calls Tryz.prog 38 #[v] w (OfP D w (ofB t)) := by
  obtain ⟨u, rfl, hs, hk64, hn64, hu⟩ := tmV_iff.1 (show TmV (hide D w) (.mk t.k t.n t.s t.args) v from by cases t; exact hv)
  obtain ⟨a, c, rfl, h1, h2, h3⟩ := hu.len
  have HIH := Lib.hid ih
  have HTM := Lib.hid hv
  have HU := Lib.hid hu
  have HD := Lib.hid hD
  have HSZ := Lib.hid ht
  obtain ⟨o, ho⟩ : ∃ o, ofB t = o := ⟨_, rfl⟩
  rw [of_step] at ho
  have HO := Lib.hid ho
  rw [show ofB t = o by rw [of_step]; exact ho]
  obtain ⟨k, hk⟩ : ∃ k, t.k = k := ⟨_, rfl⟩
  obtain ⟨n, hn⟩ : ∃ n, t.n = n := ⟨_, rfl⟩
  obtain ⟨s, hss⟩ : ∃ s, t.s = s := ⟨_, rfl⟩
  obtain ⟨m, hm⟩ : ∃ m, t.args.length = m := ⟨_, rfl⟩
  have HK := Lib.hid (And.intro hk (And.intro hn (And.intro hss hm)))
  rw [hk, hn, hss, hm] at HTM ⊢
  rw [hm] at HU
  obtain ⟨w1, e1, B1, z1, X1⟩ := box_new w #[.int .i64 k, .int .i64 n, .string s, .slice a m c] 46
  have HE := Lib.hid e1
  have HB1 := Lib.hid B1
  have HX1 := Lib.hid X1
  have IS := Lib.hid (fun (wq : World) (hq : Below w.heap.size w wq) (s' : ByteArray) (m' : Nat) => ris_at (TmV.ext hq _ _ (TmV.stay (Stays.unhide D w) _ _ HTM.out)) s' m')
  obtain ⟨x0, x1, x2, x3, _⟩ := X1.four
  clear hv hu hD ht ih ho hk hn hss hm e1 B1 z1 X1 h1 h2 h3 hs hk64 hn64
  by_cases g0 : k = 0
  · subst g0
    have hc : ctlT t = .var := by unfold ctlT; rw [if_pos HK.out.1]
    have hr := HO.out
    rw [hc] at hr
    simp only at hr
    have HEND := Lib.hid (fun (w3 : World) (h3 : Below (w1.alloc (.cells #[.int .i64 0, .int .i64 n, .string s, .slice a m c] 46)).heap.size (w1.alloc (.cells #[.int .i64 0, .int .i64 n, .string s, .slice a m c] 46)) w3) =>
      (show GoalsV (hide D (w3.alloc (.cells #[.int .i64 1, .int .i64 2, .int .i64 0, .string callS, .slice (some ⟨w1.heap.size, 0, none⟩) 1 1, .slice none 0 0] 80))) [callG (nameT callS [t])] (.slice (some ⟨w3.heap.size, 0, none⟩) 1 1) ∧ Below w.heap.size w (w3.alloc (.cells #[.int .i64 1, .int .i64 2, .int .i64 0, .string callS, .slice (some ⟨w1.heap.size, 0, none⟩) 1 1, .slice none 0 0] 80)) from by
        have hb3 := Ext.trans' HB1.out (Ext.trans' (bel1' w1 _) h3)
        have hp : pVal (t, .slice a m c) = .agg #[.int .i64 0, .int .i64 n, .string s, .slice a m c] := by unfold pVal; rw [HK.out.1, HK.out.2.1, HK.out.2.2.1]
        have ht1 : TmV (hide D w1) t (pVal (t, .slice a m c)) := by rw [hp]; exact HTM.out.stay (stays_bel HB1.out) _ _
        have hcs : (#[.int .i64 0, .int .i64 n, .string s, .slice a m c] : Array Value).toList = [(t, Value.slice a m c)].flatMap pCells := by
          rw [List.flatMap_cons, List.flatMap_nil, List.append_nil]; unfold pCells; rw [HK.out.1, HK.out.2.1, HK.out.2.2.1]
        have htm := tms_new (HD.out.mono HB1.out.size) [(t, .slice a m c)] (fun p hp' => by rw [List.mem_singleton] at hp'; rw [hp']; exact ht1) (by simp) 46 _ hcs
        have hg : GlC (hide D w3) (callG (nameT callS [t])) (.slice (some ⟨w1.heap.size, 0, none⟩) 1 1) (.slice none 0 0) :=
          glC_iff.2 ⟨i64_of 1 (by omega) (by omega), tmV_iff.2 ⟨_, rfl, by unfold BIG; decide, i64_of 2 (by omega) (by omega), i64_0, htm.stay (stays_bel h3)⟩, RowsV.nil _⟩
        exact ⟨goals_one (ty := 80) (HD.out _ hb3.size) hg, Ext.trans' hb3 (bel1' w3 _)⟩))
    clear hc
    go_enter Tryz.func38, Tryz.ntmps38
    go_upto_region 1 with fail
    (try rw [HE.out])
    (go_wp2_with fail; go_fit (rcompG_at _ _ _ _ _); rintro e w3 ⟨rfl, b3⟩)
    have HB3 := Lib.hid (HEND.out w3 b3)
    clear b3 x0 x1 x2 x3 HEND
    go_wp2
    go_ret2
    rw [← hr]
    exact ⟨_, rfl, HB3.out.1, HB3.out.2⟩
  have g0b : (k == 0) = false := beq_false_of_ne g0
  by_cases g1 : k = 1
  · subst g1
    have hc : ctlT t = .num := by unfold ctlT; rw [if_neg (by rw [HK.out.1]; omega), if_pos HK.out.1]
    have hr := HO.out
    rw [hc] at hr
    simp only at hr
    clear hc
    go_enter Tryz.func38, Tryz.ntmps38
    go_upto_region 1 with fail
    (try rw [HE.out])
    clear g0b
    go_wp2
    go_ret2
    rw [← hr]
    exact ⟨_, rfl, GoalsV.nil _, HB1.out⟩
  have g1b : (k == 1) = false := beq_false_of_ne g1
  have HG := Lib.hid (And.intro g0 g1)
  go_enter Tryz.func38, Tryz.ntmps38
  go_upto_region 1 with fail
  (try rw [HE.out])
  have C1 := IS.out w1 HB1.out commaS 2
  obtain ⟨b1, hb1⟩ : ∃ b, isT t commaS 2 = b := ⟨_, rfl⟩
  have HC1 := Lib.hid hb1
  rw [hb1] at C1
  clear hb1 g0 g1
  (go_wp2_with fail; go_fit (C1); rintro e w2 ⟨rfl, b2⟩)
  have HB2 := Lib.hid (Ext.trans' HB1.out b2)
  have HX2 := Lib.hid (HX1.out.ext b2)
  clear C1 b2 g0b g1b x0 x1 x2 x3
  obtain ⟨x0, x1, x2, x3, _⟩ := HX2.out.four
  cases b1
  rotate_left
  · obtain ⟨x, y, hxy, hc⟩ := is_join HC1.out
    have hr := HO.out
    rw [hc] at hr
    simp only at hr
    have hu2 := HU.out.stay (stays_bel HB2.out)
    rw [hxy] at hu2
    obtain rfl : m = 2 := by rw [← HK.out.2.2.2, hxy]; rfl
    obtain ⟨b, off, k1, n1, s1, a1, m1, c1, k2, n2, s2, a2, m2, c2, rfl, d0, d1, d2, d3, f0, f1, f2, f3, ht1, ht2, _⟩ := args_two hu2
    have hsz := size_args hxy
    rw [sizesN, sizesN, sizesN] at hsz
    have HT := Lib.hid (fun (wq : World) (hq : Below w2.heap.size w2 wq) => two_at (HD.out.mono (Nat.le_trans HB2.out.size hq.size)) (TmV.ext hq _ _ (TmV.stay (Stays.unhide D w2) _ _ ht1)) (TmV.ext hq _ _ (TmV.stay (Stays.unhide D w2) _ _ ht2))
      (fun w' h' => HIH.out x (by have := HSZ.out; omega) D w' _ (HD.out.mono (Nat.le_trans HB2.out.size (Nat.le_trans hq.size h'.size))) (TmV.stay (stays_bel (Ext.trans' hq h')) _ _ ht1))
      (fun w' h' => HIH.out y (by have := HSZ.out; omega) D w' _ (HD.out.mono (Nat.le_trans HB2.out.size (Nat.le_trans hq.size h'.size))) (TmV.stay (stays_bel (Ext.trans' hq h')) _ _ ht2))
      (fun p q hp hq => by have h1 := of_len hp; have h2 := of_len hq; have := HSZ.out; omega))
    rw [hr] at HT
    clear hu2 ht1 ht2 hxy hc hr hsz
    go_wp2_with fail
    refine wp_region_held_drew (S := fun w' => (w'.cell? ⟨w.heap.size, 3, none⟩ = some (.slice (some ⟨b, off, none⟩) 2 c) ∧ w'.cell? ⟨b, off, none⟩ = some (.int .i64 k1) ∧ w'.cell? ⟨b, off + 1, none⟩ = some (.int .i64 n1) ∧ w'.cell? ⟨b, off + 2, none⟩ = some (.string s1) ∧ w'.cell? ⟨b, off + 3, none⟩ = some (.slice a1 m1 c1) ∧ w'.cell? ⟨b, off + 4, none⟩ = some (.int .i64 k2) ∧ w'.cell? ⟨b, off + 4 + 1, none⟩ = some (.int .i64 n2) ∧ w'.cell? ⟨b, off + 4 + 2, none⟩ = some (.string s2) ∧ w'.cell? ⟨b, off + 4 + 3, none⟩ = some (.slice a2 m2 c2)) ∧ Below w2.heap.size w2 w') (by kernel_rfl) (⟨⟨x3, d0, d1, d2, d3, f0, f1, f2, f3⟩, (Below.refl _ _).drew⟩) (fun hHeld => ?_)
    first | (refine held_t (i := 0) hHeld ?_; apply Exists.intro; refine ⟨fun wq hq => ?_, ?_⟩; (focus ((try dsimp only at hq); go_simp; (first | done | with_reducible rfl | fail)))) | refine held_s (i := 0) hHeld ?_ | fail
    first | (refine held_t (i := 1) hHeld ?_; apply Exists.intro; refine ⟨fun wq hq => ?_, ?_⟩; (focus ((try dsimp only at hq); go_simp; (first | done | with_reducible rfl | fail)))) | refine held_s (i := 1) hHeld ?_ | fail
    first | (refine held_t (i := 2) hHeld ?_; apply Exists.intro; refine ⟨fun wq hq => ?_, ?_⟩; (focus ((try dsimp only at hq); go_simp; (first | done | with_reducible rfl | fail)))) | refine held_s (i := 2) hHeld ?_ | fail
    first | (refine held_t (i := 3) hHeld ?_; apply Exists.intro; refine ⟨fun wq hq => ?_, ?_⟩; (focus ((try dsimp only at hq); go_simp; (first | done | with_reducible rfl | fail)))) | refine held_s (i := 3) hHeld ?_ | fail
    first | (refine held_t (i := 4) hHeld ?_; apply Exists.intro; refine ⟨fun wq hq => ?_, ?_⟩; (focus ((try dsimp only at hq); go_simp; (first | done | with_reducible rfl | fail)))) | refine held_s (i := 4) hHeld ?_ | fail
    first | (refine held_t (i := 5) hHeld ?_; apply Exists.intro; refine ⟨fun wq hq => ?_, ?_⟩; (focus ((try dsimp only at hq); go_simp; (first | done | with_reducible rfl | fail)))) | refine held_s (i := 5) hHeld ?_ | fail
    first | (refine held_t (i := 6) hHeld ?_; apply Exists.intro; refine ⟨fun wq hq => ?_, ?_⟩; (focus ((try dsimp only at hq); go_simp; (first | done | with_reducible rfl | fail)))) | refine held_s (i := 6) hHeld ?_ | fail
    first | (refine held_t (i := 7) hHeld ?_; apply Exists.intro; refine ⟨fun wq hq => ?_, ?_⟩; (focus ((try dsimp only at hq); go_simp; (first | done | with_reducible rfl | fail)))) | refine held_s (i := 7) hHeld ?_ | fail
    try simp only [Act.put, List.setIfInBounds_toArray, List.set_cons_zero, List.set_cons_succ]
    refine held_c 8 fun K hK => ?_
    go_simp
    (go_at_call 59; refine (HT.out _ hHeld.2).mono ?_; rintro e w6 ⟨v6, rfl, hv6, h6⟩; have HV6 := Lib.hid hv6; clear hv6)
    refine hK.out _ _ (⟨⟨cell_later h6 hHeld.1.1, cell_later h6 hHeld.1.2.1, cell_later h6 hHeld.1.2.2.1, cell_later h6 hHeld.1.2.2.2.1, cell_later h6 hHeld.1.2.2.2.2.1, cell_later h6 hHeld.1.2.2.2.2.2.1, cell_later h6 hHeld.1.2.2.2.2.2.2.1, cell_later h6 hHeld.1.2.2.2.2.2.2.2.1, cell_later h6 hHeld.1.2.2.2.2.2.2.2.2⟩, Ext.trans' hHeld.2 h6⟩) (fun hHeld => ?_)
    clear hK K
    try simp only [Act.put, List.setIfInBounds_toArray, List.set_cons_zero, List.set_cons_succ]
    first | (refine held_t (i := 9) hHeld ?_; apply Exists.intro; refine ⟨fun wq hq => ?_, ?_⟩; (focus ((try dsimp only at hq); go_simp; (first | done | with_reducible rfl | fail)))) | refine held_s (i := 9) hHeld ?_ | fail
    first | (refine held_t (i := 10) hHeld ?_; apply Exists.intro; refine ⟨fun wq hq => ?_, ?_⟩; (focus ((try dsimp only at hq); go_simp; (first | done | with_reducible rfl | fail)))) | refine held_s (i := 10) hHeld ?_ | fail
    first | (refine held_t (i := 11) hHeld ?_; apply Exists.intro; refine ⟨fun wq hq => ?_, ?_⟩; (focus ((try dsimp only at hq); go_simp; (first | done | with_reducible rfl | fail)))) | refine held_s (i := 11) hHeld ?_ | fail
    first | (refine held_t (i := 12) hHeld ?_; apply Exists.intro; refine ⟨fun wq hq => ?_, ?_⟩; (focus ((try dsimp only at hq); go_simp; (first | done | with_reducible rfl | fail)))) | refine held_s (i := 12) hHeld ?_ | fail
    try simp only [Act.put, List.setIfInBounds_toArray, List.set_cons_zero, List.set_cons_succ]
    refine wpAnyH_done (by kernel_rfl) ?_ _
    have HEND := Lib.hid hHeld.2
    clear hHeld x0 x1 x2 x3 d0 d1 d2 d3 f0 f1 f2 f3
    go_wp2
    go_ret2
    exact ⟨_, rfl, HV6.out, Ext.trans' HB2.out HEND.out⟩
  have C1 := IS.out w2 HB2.out trueS 0
  obtain ⟨b2, hb2⟩ : ∃ b, isT t trueS 0 = b := ⟨_, rfl⟩
  have HC2 := Lib.hid hb2
  rw [hb2] at C1
  clear hb2
  (go_wp2_with fail; go_fit (C1); rintro e w3 ⟨rfl, b3⟩)
  have HB3 := Lib.hid (Ext.trans' HB2.out b3)
  have HX3 := Lib.hid (HX2.out.ext b3)
  clear C1 b3 x0 x1 x2 x3
  obtain ⟨x0, x1, x2, x3, _⟩ := HX3.out.four
  cases b2
  rotate_left
  · have hc := is_yes HC2.out
    have hr := HO.out
    rw [hc] at hr
    simp only at hr
    clear hc x0 x1 x2 x3
    go_wp2
    go_ret2
    rw [← hr]
    exact ⟨_, rfl, GoalsV.nil _, HB3.out⟩
  have C1 := IS.out w3 HB3.out bangS 0
  obtain ⟨b3, hb3⟩ : ∃ b, isT t bangS 0 = b := ⟨_, rfl⟩
  have HC3 := Lib.hid hb3
  rw [hb3] at C1
  clear hb3
  (go_wp2_with fail; go_fit (C1); rintro e w4 ⟨rfl, b4⟩)
  have HB4 := Lib.hid (Ext.trans' HB3.out b4)
  have HX4 := Lib.hid (HX3.out.ext b4)
  clear C1 b4 x0 x1 x2 x3
  obtain ⟨x0, x1, x2, x3, _⟩ := HX4.out.four
  cases b3
  rotate_left
  · have hc := is_cut HC3.out
    have hr := HO.out
    rw [hc] at hr
    simp only at hr
    have HEND := Lib.hid (goals_one (ty := 80) (g := .mk 2 zeroT []) (HD.out _ HB4.out.size) (show GlC (hide D w4) (.mk 2 zeroT []) (.slice none 0 0) (.slice none 0 0) from glC_iff.2 ⟨i64_of 2 (by omega) (by omega), leaf_tm _ i64_0 i64_0 (by unfold BIG; decide), RowsV.nil _⟩))
    clear hc x0 x1 x2 x3
    go_wp2
    go_ret2
    rw [← hr]
    exact ⟨_, rfl, HEND.out, Ext.trans' HB4.out (bel1' w4 _)⟩
  obtain ⟨b4, hb4⟩ : ∃ b, isT t semiS 2 = b := ⟨_, rfl⟩
  have HC4 := Lib.hid hb4
  have C1 := IS.out w4 HB4.out semiS 2
  rw [hb4] at C1
  clear hb4
  cases b4
  rotate_left
  · obtain ⟨x, y, hxy, hsa, hsb⟩ := is_semi HC4.out
    have HSE := Lib.hid (And.intro hsa hsb)
    have hu4 := HU.out.stay (stays_bel HB4.out)
    rw [hxy] at hu4
    obtain rfl : m = 2 := by rw [← HK.out.2.2.2, hxy]; rfl
    obtain ⟨b, off, k1, n1, s1, a1, m1, c1, k2, n2, s2, a2, m2, c2, rfl, d0, d1, d2, d3, f0, f1, f2, f3, ht1, ht2, hua⟩ := args_two hu4
    have hsz := size_args hxy
    rw [sizesN, sizesN, sizesN] at hsz
    have HS := Lib.hid (show sizeN x + sizeN y + 1 ≤ M + 1 by have := HSZ.out; omega)
    have HT4 := Lib.hid (And.intro ht1 (And.intro ht2 hua))
    have HC := Lib.hid (And.intro d0 (And.intro d1 (And.intro d2 (And.intro d3 (And.intro f0 (And.intro f1 (And.intro f2 f3)))))))
    clear hsa hsb hu4 hxy hsz ht1 ht2 hua d0 d1 d2 d3 f0 f1 f2 f3
    (go_wp2_with fail; go_fit (C1); rintro e w5 ⟨rfl, b5⟩)
    have HB5 := Lib.hid (Ext.trans' HB4.out b5)
    have HX5 := Lib.hid (HX4.out.ext b5)
    have HT5 := Lib.hid (And.intro (TmV.stay (stays_bel (D := D) b5) _ _ HT4.out.1) (And.intro (TmV.stay (stays_bel (D := D) b5) _ _ HT4.out.2.1) (HT4.out.2.2.stay (stays_bel (D := D) b5))))
    have HC5 := Lib.hid (And.intro (cell_later b5 HC.out.1) (And.intro (cell_later b5 HC.out.2.1) (And.intro (cell_later b5 HC.out.2.2.1) (And.intro (cell_later b5 HC.out.2.2.2.1) (And.intro (cell_later b5 HC.out.2.2.2.2.1) (And.intro (cell_later b5 HC.out.2.2.2.2.2.1) (And.intro (cell_later b5 HC.out.2.2.2.2.2.2.1) (cell_later b5 HC.out.2.2.2.2.2.2.2))))))))
    clear C1 b5 x0 x1 x2 x3
    obtain ⟨x0, x1, x2, x3, _⟩ := HX5.out.four
    obtain ⟨d0, d1, d2, d3, f0, f1, f2, f3⟩ := HC5.out
    have C2 := ris_at (TmV.stay (Stays.unhide D w5) _ _ HT5.out.1) arrowS 2
    obtain ⟨bb, hbb⟩ : ∃ b, isT x arrowS 2 = b := ⟨_, rfl⟩
    have HBB := Lib.hid hbb
    rw [hbb] at C2
    clear hbb
    (go_wp2_with fail; go_fit (C2); rintro e w6 ⟨rfl, b6⟩)
    have HB6 := Lib.hid (Ext.trans' HB5.out b6)
    have HX6 := Lib.hid (HX5.out.ext b6)
    have HT6 := Lib.hid (And.intro (TmV.stay (stays_bel (D := D) b6) _ _ HT5.out.1) (And.intro (TmV.stay (stays_bel (D := D) b6) _ _ HT5.out.2.1) (HT5.out.2.2.stay (stays_bel (D := D) b6))))
    have HC6 := Lib.hid (And.intro (cell_later b6 HC5.out.1) (And.intro (cell_later b6 HC5.out.2.1) (And.intro (cell_later b6 HC5.out.2.2.1) (And.intro (cell_later b6 HC5.out.2.2.2.1) (And.intro (cell_later b6 HC5.out.2.2.2.2.1) (And.intro (cell_later b6 HC5.out.2.2.2.2.2.1) (And.intro (cell_later b6 HC5.out.2.2.2.2.2.2.1) (cell_later b6 HC5.out.2.2.2.2.2.2.2))))))))
    clear C2 b6 x0 x1 x2 x3 d0 d1 d2 d3 f0 f1 f2 f3
    obtain ⟨x0, x1, x2, x3, _⟩ := HX6.out.four
    obtain ⟨d0, d1, d2, d3, f0, f1, f2, f3⟩ := HC6.out
    cases bb
    rotate_left
    · obtain ⟨p, q, hpq, hc⟩ := HSE.out.1 HBB.out
      have hr := HO.out
      rw [hc] at hr
      simp only at hr
      obtain ⟨ht1, ht2, hua⟩ := HT6.out
      obtain rfl : m1 = 2 := by obtain ⟨_, _, e, _⟩ := hua.len; cases e; rw [hpq]; rfl
      rw [hpq] at hua
      obtain ⟨b', off', k3, n3, s3, a3, m3, c3, k4, n4, s4, a4, m4, c4, rfl, g0, g1, g2, g3, j0, j1, j2, j3, ht3, ht4, _⟩ := args_two hua
      have hsp := size_args hpq
      rw [sizesN, sizesN, sizesN] at hsp
      have hs_p : sizeN p ≤ M := by have := HS.out; omega
      have hs_q : sizeN q ≤ M := by have := HS.out; omega
      have hs_y : sizeN y ≤ M := by have := HS.out; omega
      have qp := tm_parts ht3
      have qq := tm_parts ht4
      have qy := tm_parts ht2
      have HT := Lib.hid (fun (wq : World) (hq : Below w6.heap.size w6 wq) => by
        have h := rows_use HIH.out (HD.out.mono HB6.out.size) (kind := 4) (by omega) (by omega) [(p, Value.slice a3 m3 c3), (q, Value.slice a4 m4 c4), (y, Value.slice a2 m2 c2)] (by simp)
          (fun r hr => by
            simp only [List.mem_cons, List.not_mem_nil, or_false] at hr
            rcases hr with rfl | rfl | rfl
            all_goals (first | exact hs_p | exact hs_q | exact hs_y)) wq hq
          (fun r hr => by
            simp only [List.mem_cons, List.not_mem_nil, or_false] at hr
            rcases hr with rfl | rfl | rfl
            all_goals (first | (rw [qp.2]; exact TmV.stay (stays_bel hq) _ _ ht3) | (rw [qq.2]; exact TmV.stay (stays_bel hq) _ _ ht4) | (rw [qy.2]; exact TmV.stay (stays_bel hq) _ _ ht2)))
          46 #[.int .i64 k3, .int .i64 n3, .string s3, .slice a3 m3 c3, .int .i64 k4, .int .i64 n4, .string s4, .slice a4 m4 c4, .int .i64 k2, .int .i64 n2, .string s2, .slice a2 m2 c2] (by simp only [List.flatMap_cons, List.flatMap_nil, List.append_nil, qp.1, qq.1, qy.1]; rfl)
        simp only [List.map_cons, List.map_nil, ofR_three] at h
        rw [hr] at h
        exact h)
      clear hsp hs_p hs_q hs_y ht1 ht2 hua ht3 ht4 hpq hc hr qp qq qy
      go_wp2_with fail
      refine wp_region_held_drew (S := fun w' => (w'.cell? ⟨w.heap.size, 3, none⟩ = some (.slice (some ⟨b, off, none⟩) 2 c) ∧ w'.cell? ⟨b, off + 3, none⟩ = some (.slice (some ⟨b', off', none⟩) 2 c1) ∧ w'.cell? ⟨b', off', none⟩ = some (.int .i64 k3) ∧ w'.cell? ⟨b', off' + 1, none⟩ = some (.int .i64 n3) ∧ w'.cell? ⟨b', off' + 2, none⟩ = some (.string s3) ∧ w'.cell? ⟨b', off' + 3, none⟩ = some (.slice a3 m3 c3) ∧ w'.cell? ⟨b', off' + 4, none⟩ = some (.int .i64 k4) ∧ w'.cell? ⟨b', off' + 4 + 1, none⟩ = some (.int .i64 n4) ∧ w'.cell? ⟨b', off' + 4 + 2, none⟩ = some (.string s4) ∧ w'.cell? ⟨b', off' + 4 + 3, none⟩ = some (.slice a4 m4 c4) ∧ w'.cell? ⟨b, off + 4, none⟩ = some (.int .i64 k2) ∧ w'.cell? ⟨b, off + 4 + 1, none⟩ = some (.int .i64 n2) ∧ w'.cell? ⟨b, off + 4 + 2, none⟩ = some (.string s2) ∧ w'.cell? ⟨b, off + 4 + 3, none⟩ = some (.slice a2 m2 c2)) ∧ Below w6.heap.size w6 w') (by kernel_rfl) (⟨⟨x3, d3, g0, g1, g2, g3, j0, j1, j2, j3, f0, f1, f2, f3⟩, (Below.refl _ _).drew⟩) (fun hHeld => ?_)
      first | (refine held_t (i := 0) hHeld ?_; apply Exists.intro; refine ⟨fun wq hq => ?_, ?_⟩; (focus ((try dsimp only at hq); go_simp; (first | done | with_reducible rfl | fail)))) | refine held_s (i := 0) hHeld ?_ | fail
      first | (refine held_t (i := 1) hHeld ?_; apply Exists.intro; refine ⟨fun wq hq => ?_, ?_⟩; (focus ((try dsimp only at hq); go_simp; (first | done | with_reducible rfl | fail)))) | refine held_s (i := 1) hHeld ?_ | fail
      first | (refine held_t (i := 2) hHeld ?_; apply Exists.intro; refine ⟨fun wq hq => ?_, ?_⟩; (focus ((try dsimp only at hq); go_simp; (first | done | with_reducible rfl | fail)))) | refine held_s (i := 2) hHeld ?_ | fail
      first | (refine held_t (i := 3) hHeld ?_; apply Exists.intro; refine ⟨fun wq hq => ?_, ?_⟩; (focus ((try dsimp only at hq); go_simp; (first | done | with_reducible rfl | fail)))) | refine held_s (i := 3) hHeld ?_ | fail
      first | (refine held_t (i := 4) hHeld ?_; apply Exists.intro; refine ⟨fun wq hq => ?_, ?_⟩; (focus ((try dsimp only at hq); go_simp; (first | done | with_reducible rfl | fail)))) | refine held_s (i := 4) hHeld ?_ | fail
      first | (refine held_t (i := 5) hHeld ?_; apply Exists.intro; refine ⟨fun wq hq => ?_, ?_⟩; (focus ((try dsimp only at hq); go_simp; (first | done | with_reducible rfl | fail)))) | refine held_s (i := 5) hHeld ?_ | fail
      first | (refine held_t (i := 6) hHeld ?_; apply Exists.intro; refine ⟨fun wq hq => ?_, ?_⟩; (focus ((try dsimp only at hq); go_simp; (first | done | with_reducible rfl | fail)))) | refine held_s (i := 6) hHeld ?_ | fail
      first | (refine held_t (i := 7) hHeld ?_; apply Exists.intro; refine ⟨fun wq hq => ?_, ?_⟩; (focus ((try dsimp only at hq); go_simp; (first | done | with_reducible rfl | fail)))) | refine held_s (i := 7) hHeld ?_ | fail
      first | (refine held_t (i := 8) hHeld ?_; apply Exists.intro; refine ⟨fun wq hq => ?_, ?_⟩; (focus ((try dsimp only at hq); go_simp; (first | done | with_reducible rfl | fail)))) | refine held_s (i := 8) hHeld ?_ | fail
      first | (refine held_t (i := 9) hHeld ?_; apply Exists.intro; refine ⟨fun wq hq => ?_, ?_⟩; (focus ((try dsimp only at hq); go_simp; (first | done | with_reducible rfl | fail)))) | refine held_s (i := 9) hHeld ?_ | fail
      first | (refine held_t (i := 10) hHeld ?_; apply Exists.intro; refine ⟨fun wq hq => ?_, ?_⟩; (focus ((try dsimp only at hq); go_simp; (first | done | with_reducible rfl | fail)))) | refine held_s (i := 10) hHeld ?_ | fail
      first | (refine held_t (i := 11) hHeld ?_; apply Exists.intro; refine ⟨fun wq hq => ?_, ?_⟩; (focus ((try dsimp only at hq); go_simp; (first | done | with_reducible rfl | fail)))) | refine held_s (i := 11) hHeld ?_ | fail
      first | (refine held_t (i := 12) hHeld ?_; apply Exists.intro; refine ⟨fun wq hq => ?_, ?_⟩; (focus ((try dsimp only at hq); go_simp; (first | done | with_reducible rfl | fail)))) | refine held_s (i := 12) hHeld ?_ | fail
      first | (refine held_t (i := 13) hHeld ?_; apply Exists.intro; refine ⟨fun wq hq => ?_, ?_⟩; (focus ((try dsimp only at hq); go_simp; (first | done | with_reducible rfl | fail)))) | refine held_s (i := 13) hHeld ?_ | fail
      first | (refine held_t (i := 14) hHeld ?_; apply Exists.intro; refine ⟨fun wq hq => ?_, ?_⟩; (focus ((try dsimp only at hq); go_simp; (first | done | with_reducible rfl | fail)))) | refine held_s (i := 14) hHeld ?_ | fail
      first | (refine held_t (i := 15) hHeld ?_; apply Exists.intro; refine ⟨fun wq hq => ?_, ?_⟩; (focus ((try dsimp only at hq); go_simp; (first | done | with_reducible rfl | fail)))) | refine held_s (i := 15) hHeld ?_ | fail
      first | (refine held_t (i := 16) hHeld ?_; apply Exists.intro; refine ⟨fun wq hq => ?_, ?_⟩; (focus ((try dsimp only at hq); go_simp; (first | done | with_reducible rfl | fail)))) | refine held_s (i := 16) hHeld ?_ | fail
      first | (refine held_t (i := 17) hHeld ?_; apply Exists.intro; refine ⟨fun wq hq => ?_, ?_⟩; (focus ((try dsimp only at hq); go_simp; (first | done | with_reducible rfl | fail)))) | refine held_s (i := 17) hHeld ?_ | fail
      try simp only [Act.put, List.setIfInBounds_toArray, List.set_cons_zero, List.set_cons_succ]
      refine held_c 18 fun K hK => ?_
      go_simp
      have HBW := Lib.hid hHeld.2
      refine hK.out _ _ (⟨⟨cell_later (bel1' _ _) hHeld.1.1, cell_later (bel1' _ _) hHeld.1.2.1, cell_later (bel1' _ _) hHeld.1.2.2.1, cell_later (bel1' _ _) hHeld.1.2.2.2.1, cell_later (bel1' _ _) hHeld.1.2.2.2.2.1, cell_later (bel1' _ _) hHeld.1.2.2.2.2.2.1, cell_later (bel1' _ _) hHeld.1.2.2.2.2.2.2.1, cell_later (bel1' _ _) hHeld.1.2.2.2.2.2.2.2.1, cell_later (bel1' _ _) hHeld.1.2.2.2.2.2.2.2.2.1, cell_later (bel1' _ _) hHeld.1.2.2.2.2.2.2.2.2.2.1, cell_later (bel1' _ _) hHeld.1.2.2.2.2.2.2.2.2.2.2.1, cell_later (bel1' _ _) hHeld.1.2.2.2.2.2.2.2.2.2.2.2.1, cell_later (bel1' _ _) hHeld.1.2.2.2.2.2.2.2.2.2.2.2.2.1, cell_later (bel1' _ _) hHeld.1.2.2.2.2.2.2.2.2.2.2.2.2.2⟩, Ext.trans' hHeld.2 (bel1' _ _)⟩) (fun hHeld => ?_)
      clear hK K
      try simp only [Act.put, List.setIfInBounds_toArray, List.set_cons_zero, List.set_cons_succ]
      refine held_c 19 fun K hK => ?_
      go_simp
      (go_at_call 60; refine (HT.out _ HBW.out).mono ?_; rintro e w7 ⟨v7, rfl, hv7, h7⟩; have HV7 := Lib.hid hv7; clear hv7)
      refine hK.out _ _ (⟨⟨cell_later h7 hHeld.1.1, cell_later h7 hHeld.1.2.1, cell_later h7 hHeld.1.2.2.1, cell_later h7 hHeld.1.2.2.2.1, cell_later h7 hHeld.1.2.2.2.2.1, cell_later h7 hHeld.1.2.2.2.2.2.1, cell_later h7 hHeld.1.2.2.2.2.2.2.1, cell_later h7 hHeld.1.2.2.2.2.2.2.2.1, cell_later h7 hHeld.1.2.2.2.2.2.2.2.2.1, cell_later h7 hHeld.1.2.2.2.2.2.2.2.2.2.1, cell_later h7 hHeld.1.2.2.2.2.2.2.2.2.2.2.1, cell_later h7 hHeld.1.2.2.2.2.2.2.2.2.2.2.2.1, cell_later h7 hHeld.1.2.2.2.2.2.2.2.2.2.2.2.2.1, cell_later h7 hHeld.1.2.2.2.2.2.2.2.2.2.2.2.2.2⟩, Ext.trans' hHeld.2 h7⟩) (fun hHeld => ?_)
      clear hK K
      try simp only [Act.put, List.setIfInBounds_toArray, List.set_cons_zero, List.set_cons_succ]
      first | (refine held_t (i := 20) hHeld ?_; apply Exists.intro; refine ⟨fun wq hq => ?_, ?_⟩; (focus ((try dsimp only at hq); go_simp; (first | done | with_reducible rfl | fail)))) | refine held_s (i := 20) hHeld ?_ | fail
      first | (refine held_t (i := 21) hHeld ?_; apply Exists.intro; refine ⟨fun wq hq => ?_, ?_⟩; (focus ((try dsimp only at hq); go_simp; (first | done | with_reducible rfl | fail)))) | refine held_s (i := 21) hHeld ?_ | fail
      first | (refine held_t (i := 22) hHeld ?_; apply Exists.intro; refine ⟨fun wq hq => ?_, ?_⟩; (focus ((try dsimp only at hq); go_simp; (first | done | with_reducible rfl | fail)))) | refine held_s (i := 22) hHeld ?_ | fail
      first | (refine held_t (i := 23) hHeld ?_; apply Exists.intro; refine ⟨fun wq hq => ?_, ?_⟩; (focus ((try dsimp only at hq); go_simp; (first | done | with_reducible rfl | fail)))) | refine held_s (i := 23) hHeld ?_ | fail
      try simp only [Act.put, List.setIfInBounds_toArray, List.set_cons_zero, List.set_cons_succ]
      refine wpAnyH_done (by kernel_rfl) ?_ _
      have HEND := Lib.hid hHeld.2
      clear hHeld x0 x1 x2 x3 d0 d1 d2 d3 f0 f1 f2 f3 g0 g1 g2 g3 j0 j1 j2 j3
      go_wp2
      go_ret2
      exact ⟨_, rfl, HV7.out, Ext.trans' HB6.out HEND.out⟩
    · have hc := HSE.out.2 HBB.out
      have hr := HO.out
      rw [hc] at hr
      simp only at hr
      have C3 := IS.out w6 HB6.out semiS 2
      rw [HC4.out] at C3
      have HC7 := Lib.hid (And.intro d0 (And.intro d1 (And.intro d2 (And.intro d3 (And.intro f0 (And.intro f1 (And.intro f2 f3)))))))
      clear d0 d1 d2 d3 f0 f1 f2 f3
      (go_wp2_with fail; go_fit (C3); rintro e w7 ⟨rfl, b7⟩)
      have HB7 := Lib.hid (Ext.trans' HB6.out b7)
      have HX7 := Lib.hid (HX6.out.ext b7)
      have ht1 := TmV.stay (stays_bel (D := D) b7) _ _ HT6.out.1
      have ht2 := TmV.stay (stays_bel (D := D) b7) _ _ HT6.out.2.1
      have hs_x : sizeN x ≤ M := by have := HS.out; omega
      have hs_y : sizeN y ≤ M := by have := HS.out; omega
      have d0 := cell_later b7 HC7.out.1
      have d1 := cell_later b7 HC7.out.2.1
      have d2 := cell_later b7 HC7.out.2.2.1
      have d3 := cell_later b7 HC7.out.2.2.2.1
      have f0 := cell_later b7 HC7.out.2.2.2.2.1
      have f1 := cell_later b7 HC7.out.2.2.2.2.2.1
      have f2 := cell_later b7 HC7.out.2.2.2.2.2.2.1
      have f3 := cell_later b7 HC7.out.2.2.2.2.2.2.2
      clear C3 b7 x0 x1 x2 x3
      obtain ⟨x0, x1, x2, x3, _⟩ := HX7.out.four
      have qx := tm_parts ht1
      have qy := tm_parts ht2
      have HT := Lib.hid (fun (wq : World) (hq : Below w7.heap.size w7 wq) => by
        have h := rows_use HIH.out (HD.out.mono HB7.out.size) (kind := 3) (by omega) (by omega) [(x, Value.slice a1 m1 c1), (y, Value.slice a2 m2 c2)] (by simp)
          (fun r hr => by
            simp only [List.mem_cons, List.not_mem_nil, or_false] at hr
            rcases hr with rfl | rfl
            all_goals (first | exact hs_x | exact hs_y)) wq hq
          (fun r hr => by
            simp only [List.mem_cons, List.not_mem_nil, or_false] at hr
            rcases hr with rfl | rfl
            all_goals (first | (rw [qx.2]; exact TmV.stay (stays_bel hq) _ _ ht1) | (rw [qy.2]; exact TmV.stay (stays_bel hq) _ _ ht2)))
          46 #[.int .i64 k1, .int .i64 n1, .string s1, .slice a1 m1 c1, .int .i64 k2, .int .i64 n2, .string s2, .slice a2 m2 c2] (by simp only [List.flatMap_cons, List.flatMap_nil, List.append_nil, qx.1, qy.1]; rfl)
        simp only [List.map_cons, List.map_nil, ofR_two] at h
        rw [hr] at h
        exact h)
      clear hs_x hs_y ht1 ht2 hc hr qx qy
      go_wp2_with fail
      refine wp_region_held_drew (S := fun w' => (w'.cell? ⟨w.heap.size, 3, none⟩ = some (.slice (some ⟨b, off, none⟩) 2 c) ∧ w'.cell? ⟨b, off, none⟩ = some (.int .i64 k1) ∧ w'.cell? ⟨b, off + 1, none⟩ = some (.int .i64 n1) ∧ w'.cell? ⟨b, off + 2, none⟩ = some (.string s1) ∧ w'.cell? ⟨b, off + 3, none⟩ = some (.slice a1 m1 c1) ∧ w'.cell? ⟨b, off + 4, none⟩ = some (.int .i64 k2) ∧ w'.cell? ⟨b, off + 4 + 1, none⟩ = some (.int .i64 n2) ∧ w'.cell? ⟨b, off + 4 + 2, none⟩ = some (.string s2) ∧ w'.cell? ⟨b, off + 4 + 3, none⟩ = some (.slice a2 m2 c2)) ∧ Below w7.heap.size w7 w') (by kernel_rfl) (⟨⟨x3, d0, d1, d2, d3, f0, f1, f2, f3⟩, (Below.refl _ _).drew⟩) (fun hHeld => ?_)
      first | (refine held_t (i := 0) hHeld ?_; apply Exists.intro; refine ⟨fun wq hq => ?_, ?_⟩; (focus ((try dsimp only at hq); go_simp; (first | done | with_reducible rfl | fail)))) | refine held_s (i := 0) hHeld ?_ | fail
      first | (refine held_t (i := 1) hHeld ?_; apply Exists.intro; refine ⟨fun wq hq => ?_, ?_⟩; (focus ((try dsimp only at hq); go_simp; (first | done | with_reducible rfl | fail)))) | refine held_s (i := 1) hHeld ?_ | fail
      first | (refine held_t (i := 2) hHeld ?_; apply Exists.intro; refine ⟨fun wq hq => ?_, ?_⟩; (focus ((try dsimp only at hq); go_simp; (first | done | with_reducible rfl | fail)))) | refine held_s (i := 2) hHeld ?_ | fail
      first | (refine held_t (i := 3) hHeld ?_; apply Exists.intro; refine ⟨fun wq hq => ?_, ?_⟩; (focus ((try dsimp only at hq); go_simp; (first | done | with_reducible rfl | fail)))) | refine held_s (i := 3) hHeld ?_ | fail
      first | (refine held_t (i := 4) hHeld ?_; apply Exists.intro; refine ⟨fun wq hq => ?_, ?_⟩; (focus ((try dsimp only at hq); go_simp; (first | done | with_reducible rfl | fail)))) | refine held_s (i := 4) hHeld ?_ | fail
      first | (refine held_t (i := 5) hHeld ?_; apply Exists.intro; refine ⟨fun wq hq => ?_, ?_⟩; (focus ((try dsimp only at hq); go_simp; (first | done | with_reducible rfl | fail)))) | refine held_s (i := 5) hHeld ?_ | fail
      first | (refine held_t (i := 6) hHeld ?_; apply Exists.intro; refine ⟨fun wq hq => ?_, ?_⟩; (focus ((try dsimp only at hq); go_simp; (first | done | with_reducible rfl | fail)))) | refine held_s (i := 6) hHeld ?_ | fail
      first | (refine held_t (i := 7) hHeld ?_; apply Exists.intro; refine ⟨fun wq hq => ?_, ?_⟩; (focus ((try dsimp only at hq); go_simp; (first | done | with_reducible rfl | fail)))) | refine held_s (i := 7) hHeld ?_ | fail
      try simp only [Act.put, List.setIfInBounds_toArray, List.set_cons_zero, List.set_cons_succ]
      refine held_c 8 fun K hK => ?_
      go_simp
      have HBW := Lib.hid hHeld.2
      refine hK.out _ _ (⟨⟨cell_later (bel1' _ _) hHeld.1.1, cell_later (bel1' _ _) hHeld.1.2.1, cell_later (bel1' _ _) hHeld.1.2.2.1, cell_later (bel1' _ _) hHeld.1.2.2.2.1, cell_later (bel1' _ _) hHeld.1.2.2.2.2.1, cell_later (bel1' _ _) hHeld.1.2.2.2.2.2.1, cell_later (bel1' _ _) hHeld.1.2.2.2.2.2.2.1, cell_later (bel1' _ _) hHeld.1.2.2.2.2.2.2.2.1, cell_later (bel1' _ _) hHeld.1.2.2.2.2.2.2.2.2⟩, Ext.trans' hHeld.2 (bel1' _ _)⟩) (fun hHeld => ?_)
      clear hK K
      try simp only [Act.put, List.setIfInBounds_toArray, List.set_cons_zero, List.set_cons_succ]
      refine held_c 9 fun K hK => ?_
      go_simp
      (go_at_call 60; refine (HT.out _ HBW.out).mono ?_; rintro e w8 ⟨v8, rfl, hv8, h8⟩; have HV8 := Lib.hid hv8; clear hv8)
      refine hK.out _ _ (⟨⟨cell_later h8 hHeld.1.1, cell_later h8 hHeld.1.2.1, cell_later h8 hHeld.1.2.2.1, cell_later h8 hHeld.1.2.2.2.1, cell_later h8 hHeld.1.2.2.2.2.1, cell_later h8 hHeld.1.2.2.2.2.2.1, cell_later h8 hHeld.1.2.2.2.2.2.2.1, cell_later h8 hHeld.1.2.2.2.2.2.2.2.1, cell_later h8 hHeld.1.2.2.2.2.2.2.2.2⟩, Ext.trans' hHeld.2 h8⟩) (fun hHeld => ?_)
      clear hK K
      try simp only [Act.put, List.setIfInBounds_toArray, List.set_cons_zero, List.set_cons_succ]
      first | (refine held_t (i := 10) hHeld ?_; apply Exists.intro; refine ⟨fun wq hq => ?_, ?_⟩; (focus ((try dsimp only at hq); go_simp; (first | done | with_reducible rfl | fail)))) | refine held_s (i := 10) hHeld ?_ | fail
      first | (refine held_t (i := 11) hHeld ?_; apply Exists.intro; refine ⟨fun wq hq => ?_, ?_⟩; (focus ((try dsimp only at hq); go_simp; (first | done | with_reducible rfl | fail)))) | refine held_s (i := 11) hHeld ?_ | fail
      first | (refine held_t (i := 12) hHeld ?_; apply Exists.intro; refine ⟨fun wq hq => ?_, ?_⟩; (focus ((try dsimp only at hq); go_simp; (first | done | with_reducible rfl | fail)))) | refine held_s (i := 12) hHeld ?_ | fail
      first | (refine held_t (i := 13) hHeld ?_; apply Exists.intro; refine ⟨fun wq hq => ?_, ?_⟩; (focus ((try dsimp only at hq); go_simp; (first | done | with_reducible rfl | fail)))) | refine held_s (i := 13) hHeld ?_ | fail
      try simp only [Act.put, List.setIfInBounds_toArray, List.set_cons_zero, List.set_cons_succ]
      refine wpAnyH_done (by kernel_rfl) ?_ _
      have HEND := Lib.hid hHeld.2
      clear hHeld x0 x1 x2 x3 d0 d1 d2 d3 f0 f1 f2 f3
      go_wp2
      go_ret2
      exact ⟨_, rfl, HV8.out, Ext.trans' HB7.out HEND.out⟩
  (go_wp2_with fail; go_fit (C1); rintro e w5 ⟨rfl, b5⟩)
  have HB5 := Lib.hid (Ext.trans' HB4.out b5)
  have HX5 := Lib.hid (HX4.out.ext b5)
  clear C1 b5 x0 x1 x2 x3
  obtain ⟨x0, x1, x2, x3, _⟩ := HX5.out.four
  have C1 := IS.out w5 HB5.out semiS 2
  rw [HC4.out] at C1
  (go_wp2_with fail; go_fit (C1); rintro e w6 ⟨rfl, b6⟩)
  have HB6 := Lib.hid (Ext.trans' HB5.out b6)
  have HX6 := Lib.hid (HX5.out.ext b6)
  clear C1 b6 x0 x1 x2 x3
  obtain ⟨x0, x1, x2, x3, _⟩ := HX6.out.four
  have C1 := IS.out w6 HB6.out arrowS 2
  obtain ⟨b5, hb5⟩ : ∃ b, isT t arrowS 2 = b := ⟨_, rfl⟩
  have HC5 := Lib.hid hb5
  rw [hb5] at C1
  clear hb5
  (go_wp2_with fail; go_fit (C1); rintro e w7 ⟨rfl, b7⟩)
  have HB7 := Lib.hid (Ext.trans' HB6.out b7)
  have HX7 := Lib.hid (HX6.out.ext b7)
  clear C1 b7 x0 x1 x2 x3
  obtain ⟨x0, x1, x2, x3, _⟩ := HX7.out.four
  cases b5
  rotate_left
  · obtain ⟨x, y, hxy, hc⟩ := is_arrow HC5.out
    have hr := HO.out
    rw [hc] at hr
    simp only at hr
    have hu7 := HU.out.stay (stays_bel HB7.out)
    rw [hxy] at hu7
    obtain rfl : m = 2 := by rw [← HK.out.2.2.2, hxy]; rfl
    obtain ⟨b, off, k1, n1, s1, a1, m1, c1, k2, n2, s2, a2, m2, c2, rfl, d0, d1, d2, d3, f0, f1, f2, f3, ht1, ht2, _⟩ := args_two hu7
    have hsz := size_args hxy
    rw [sizesN, sizesN, sizesN] at hsz
    have hp2 := size_pos x
    have hs_x : sizeN x ≤ M := by have := HSZ.out; omega
    have hs_y : sizeN y ≤ M := by have := HSZ.out; omega
    have hs_failT : sizeN failT ≤ M := by have : sizeN failT = 1 := rfl; have := HSZ.out; have := size_pos y; omega
    have htf : TmV (hide D w7) failT (.agg #[.int .i64 2, .int .i64 0, .string failS, .slice none 0 0]) := leaf_tm _ (i64_of 2 (by omega) (by omega)) i64_0 (by unfold BIG; decide)
    have qx := tm_parts ht1
    have qy := tm_parts ht2
    have qfailT := tm_parts htf
    have HT := Lib.hid (fun (wq : World) (hq : Below w7.heap.size w7 wq) => by
      have h := rows_use HIH.out (HD.out.mono HB7.out.size) (kind := 4) (by omega) (by omega) [(x, Value.slice a1 m1 c1), (y, Value.slice a2 m2 c2), (failT, Value.slice none 0 0)] (by simp)
        (fun r hr => by
          simp only [List.mem_cons, List.not_mem_nil, or_false] at hr
          rcases hr with rfl | rfl | rfl
          all_goals (first | exact hs_x | exact hs_y | exact hs_failT)) wq hq
        (fun r hr => by
          simp only [List.mem_cons, List.not_mem_nil, or_false] at hr
          rcases hr with rfl | rfl | rfl
          all_goals (first | (rw [qx.2]; exact TmV.stay (stays_bel hq) _ _ ht1) | (rw [qy.2]; exact TmV.stay (stays_bel hq) _ _ ht2) | (rw [qfailT.2]; exact TmV.stay (stays_bel hq) _ _ htf)))
        46 #[.int .i64 k1, .int .i64 n1, .string s1, .slice a1 m1 c1, .int .i64 k2, .int .i64 n2, .string s2, .slice a2 m2 c2, .int .i64 2, .int .i64 0, .string failS, .slice none 0 0] (by simp only [List.flatMap_cons, List.flatMap_nil, List.append_nil, qx.1, qy.1, qfailT.1]; rfl)
      simp only [List.map_cons, List.map_nil, ofR_three] at h
      rw [hr] at h
      exact h)
    clear hu7 ht1 ht2 hxy hc hr hsz hs_x hs_y hs_failT htf qx qy qfailT hp2
    go_wp2_with fail
    refine wp_region_held_drew (S := fun w' => (w'.cell? ⟨w.heap.size, 3, none⟩ = some (.slice (some ⟨b, off, none⟩) 2 c) ∧ w'.cell? ⟨b, off, none⟩ = some (.int .i64 k1) ∧ w'.cell? ⟨b, off + 1, none⟩ = some (.int .i64 n1) ∧ w'.cell? ⟨b, off + 2, none⟩ = some (.string s1) ∧ w'.cell? ⟨b, off + 3, none⟩ = some (.slice a1 m1 c1) ∧ w'.cell? ⟨b, off + 4, none⟩ = some (.int .i64 k2) ∧ w'.cell? ⟨b, off + 4 + 1, none⟩ = some (.int .i64 n2) ∧ w'.cell? ⟨b, off + 4 + 2, none⟩ = some (.string s2) ∧ w'.cell? ⟨b, off + 4 + 3, none⟩ = some (.slice a2 m2 c2)) ∧ Below w7.heap.size w7 w') (by kernel_rfl) (⟨⟨x3, d0, d1, d2, d3, f0, f1, f2, f3⟩, (Below.refl _ _).drew⟩) (fun hHeld => ?_)
    first | (refine held_t (i := 0) hHeld ?_; apply Exists.intro; refine ⟨fun wq hq => ?_, ?_⟩; (focus ((try dsimp only at hq); go_simp; (first | done | with_reducible rfl | fail)))) | refine held_s (i := 0) hHeld ?_ | fail
    first | (refine held_t (i := 1) hHeld ?_; apply Exists.intro; refine ⟨fun wq hq => ?_, ?_⟩; (focus ((try dsimp only at hq); go_simp; (first | done | with_reducible rfl | fail)))) | refine held_s (i := 1) hHeld ?_ | fail
    first | (refine held_t (i := 2) hHeld ?_; apply Exists.intro; refine ⟨fun wq hq => ?_, ?_⟩; (focus ((try dsimp only at hq); go_simp; (first | done | with_reducible rfl | fail)))) | refine held_s (i := 2) hHeld ?_ | fail
    first | (refine held_t (i := 3) hHeld ?_; apply Exists.intro; refine ⟨fun wq hq => ?_, ?_⟩; (focus ((try dsimp only at hq); go_simp; (first | done | with_reducible rfl | fail)))) | refine held_s (i := 3) hHeld ?_ | fail
    first | (refine held_t (i := 4) hHeld ?_; apply Exists.intro; refine ⟨fun wq hq => ?_, ?_⟩; (focus ((try dsimp only at hq); go_simp; (first | done | with_reducible rfl | fail)))) | refine held_s (i := 4) hHeld ?_ | fail
    first | (refine held_t (i := 5) hHeld ?_; apply Exists.intro; refine ⟨fun wq hq => ?_, ?_⟩; (focus ((try dsimp only at hq); go_simp; (first | done | with_reducible rfl | fail)))) | refine held_s (i := 5) hHeld ?_ | fail
    first | (refine held_t (i := 6) hHeld ?_; apply Exists.intro; refine ⟨fun wq hq => ?_, ?_⟩; (focus ((try dsimp only at hq); go_simp; (first | done | with_reducible rfl | fail)))) | refine held_s (i := 6) hHeld ?_ | fail
    first | (refine held_t (i := 7) hHeld ?_; apply Exists.intro; refine ⟨fun wq hq => ?_, ?_⟩; (focus ((try dsimp only at hq); go_simp; (first | done | with_reducible rfl | fail)))) | refine held_s (i := 7) hHeld ?_ | fail
    try simp only [Act.put, List.setIfInBounds_toArray, List.set_cons_zero, List.set_cons_succ]
    refine held_c 8 fun K hK => ?_
    go_simp
    (go_at_call 39; refine (ratomG_at _ _).mono ?_; rintro e w8 ⟨rfl, h8⟩)
    refine hK.out _ _ (⟨⟨cell_later h8 hHeld.1.1, cell_later h8 hHeld.1.2.1, cell_later h8 hHeld.1.2.2.1, cell_later h8 hHeld.1.2.2.2.1, cell_later h8 hHeld.1.2.2.2.2.1, cell_later h8 hHeld.1.2.2.2.2.2.1, cell_later h8 hHeld.1.2.2.2.2.2.2.1, cell_later h8 hHeld.1.2.2.2.2.2.2.2.1, cell_later h8 hHeld.1.2.2.2.2.2.2.2.2⟩, Ext.trans' hHeld.2 h8⟩) (fun hHeld => ?_)
    clear hK K
    try simp only [Act.put, List.setIfInBounds_toArray, List.set_cons_zero, List.set_cons_succ]
    refine held_c 9 fun K hK => ?_
    go_simp
    have HBW := Lib.hid hHeld.2
    refine hK.out _ _ (⟨⟨cell_later (bel1' _ _) hHeld.1.1, cell_later (bel1' _ _) hHeld.1.2.1, cell_later (bel1' _ _) hHeld.1.2.2.1, cell_later (bel1' _ _) hHeld.1.2.2.2.1, cell_later (bel1' _ _) hHeld.1.2.2.2.2.1, cell_later (bel1' _ _) hHeld.1.2.2.2.2.2.1, cell_later (bel1' _ _) hHeld.1.2.2.2.2.2.2.1, cell_later (bel1' _ _) hHeld.1.2.2.2.2.2.2.2.1, cell_later (bel1' _ _) hHeld.1.2.2.2.2.2.2.2.2⟩, Ext.trans' hHeld.2 (bel1' _ _)⟩) (fun hHeld => ?_)
    clear hK K
    try simp only [Act.put, List.setIfInBounds_toArray, List.set_cons_zero, List.set_cons_succ]
    refine held_c 10 fun K hK => ?_
    go_simp
    (go_at_call 60; refine (HT.out _ HBW.out).mono ?_; rintro e w9 ⟨v9, rfl, hv9, h9⟩; have HV9 := Lib.hid hv9; clear hv9)
    refine hK.out _ _ (⟨⟨cell_later h9 hHeld.1.1, cell_later h9 hHeld.1.2.1, cell_later h9 hHeld.1.2.2.1, cell_later h9 hHeld.1.2.2.2.1, cell_later h9 hHeld.1.2.2.2.2.1, cell_later h9 hHeld.1.2.2.2.2.2.1, cell_later h9 hHeld.1.2.2.2.2.2.2.1, cell_later h9 hHeld.1.2.2.2.2.2.2.2.1, cell_later h9 hHeld.1.2.2.2.2.2.2.2.2⟩, Ext.trans' hHeld.2 h9⟩) (fun hHeld => ?_)
    clear hK K
    try simp only [Act.put, List.setIfInBounds_toArray, List.set_cons_zero, List.set_cons_succ]
    first | (refine held_t (i := 11) hHeld ?_; apply Exists.intro; refine ⟨fun wq hq => ?_, ?_⟩; (focus ((try dsimp only at hq); go_simp; (first | done | with_reducible rfl | fail)))) | refine held_s (i := 11) hHeld ?_ | fail
    first | (refine held_t (i := 12) hHeld ?_; apply Exists.intro; refine ⟨fun wq hq => ?_, ?_⟩; (focus ((try dsimp only at hq); go_simp; (first | done | with_reducible rfl | fail)))) | refine held_s (i := 12) hHeld ?_ | fail
    first | (refine held_t (i := 13) hHeld ?_; apply Exists.intro; refine ⟨fun wq hq => ?_, ?_⟩; (focus ((try dsimp only at hq); go_simp; (first | done | with_reducible rfl | fail)))) | refine held_s (i := 13) hHeld ?_ | fail
    first | (refine held_t (i := 14) hHeld ?_; apply Exists.intro; refine ⟨fun wq hq => ?_, ?_⟩; (focus ((try dsimp only at hq); go_simp; (first | done | with_reducible rfl | fail)))) | refine held_s (i := 14) hHeld ?_ | fail
    try simp only [Act.put, List.setIfInBounds_toArray, List.set_cons_zero, List.set_cons_succ]
    refine wpAnyH_done (by kernel_rfl) ?_ _
    have HEND := Lib.hid hHeld.2
    clear hHeld x0 x1 x2 x3 d0 d1 d2 d3 f0 f1 f2 f3
    go_wp2
    go_ret2
    exact ⟨_, rfl, HV9.out, Ext.trans' HB7.out HEND.out⟩
  have C1 := IS.out w7 HB7.out negS 1
  obtain ⟨b6, hb6⟩ : ∃ b, isT t negS 1 = b := ⟨_, rfl⟩
  have HC6 := Lib.hid hb6
  rw [hb6] at C1
  clear hb6
  (go_wp2_with fail; go_fit (C1); rintro e w8 ⟨rfl, b8⟩)
  have HB8 := Lib.hid (Ext.trans' HB7.out b8)
  have HX8 := Lib.hid (HX7.out.ext b8)
  clear C1 b8 x0 x1 x2 x3
  obtain ⟨x0, x1, x2, x3, _⟩ := HX8.out.four
  cases b6
  rotate_left
  · obtain ⟨x, hxy, hc⟩ := is_neg HC6.out
    have hr := HO.out
    rw [hc] at hr
    simp only at hr
    have hu8 := HU.out.stay (stays_bel HB8.out)
    rw [hxy] at hu8
    obtain rfl : m = 1 := by rw [← HK.out.2.2.2, hxy]; rfl
    obtain ⟨b, off, k1, n1, s1, a1, m1, c1, rfl, d0, d1, d2, d3, ht1⟩ := args_one hu8
    have hsz := size_args hxy
    rw [sizesN, sizesN] at hsz
    have hs_x : sizeN x ≤ M := by have := HSZ.out; omega
    have qx := tm_parts ht1
    have HT := Lib.hid (fun (wq : World) (hq : Below w8.heap.size w8 wq) => by
      have h := rows_use HIH.out (HD.out.mono HB8.out.size) (kind := 5) (by omega) (by omega) [(x, Value.slice a1 m1 c1)] (by simp)
        (fun r hr => by
          simp only [List.mem_cons, List.not_mem_nil, or_false] at hr
          rcases hr with rfl
          all_goals (first | exact hs_x)) wq hq
        (fun r hr => by
          simp only [List.mem_cons, List.not_mem_nil, or_false] at hr
          rcases hr with rfl
          all_goals (first | (rw [qx.2]; exact TmV.stay (stays_bel hq) _ _ ht1)))
        46 #[.int .i64 k1, .int .i64 n1, .string s1, .slice a1 m1 c1] (by simp only [List.flatMap_cons, List.flatMap_nil, List.append_nil, qx.1]; try rfl)
      simp only [List.map_cons, List.map_nil, ofR_one] at h
      rw [hr] at h
      exact h)
    have C2 := HT.out w8 (Below.refl _ _)
    clear hu8 ht1 hxy hc hr hsz hs_x qx
    (go_wp2_with fail; go_fit (C2); rintro e w9 ⟨v9, rfl, h9, b9⟩)
    have HV9 := Lib.hid (And.intro h9 (Ext.trans' HB8.out (Ext.trans' (bel1' w8 _) b9)))
    clear C2 h9 b9 x0 x1 x2 x3 d0 d1 d2 d3
    go_wp2
    go_ret2
    exact ⟨_, rfl, HV9.out.1, HV9.out.2⟩
  have hc := is_call (by rw [HK.out.1]; exact HG.out.1) (by rw [HK.out.1]; exact HG.out.2) HC1.out HC2.out HC3.out HC4.out HC5.out HC6.out
  have hr := HO.out
  rw [hc] at hr
  simp only at hr
  have HEND := Lib.hid (show GoalsV (hide D (w8.alloc (.cells #[.int .i64 1, .int .i64 k, .int .i64 n, .string s, .slice a m c, .slice none 0 0] 80))) [callG t] (.slice (some ⟨w8.heap.size, 0, none⟩) 1 1) from by
    have hp : pVal (t, .slice a m c) = .agg #[.int .i64 k, .int .i64 n, .string s, .slice a m c] := by unfold pVal; rw [HK.out.1, HK.out.2.1, HK.out.2.2.1]
    have h := goals_one (ty := 80) (g := callG t) (u := .slice a m c) (v := .slice none 0 0) (HD.out _ HB8.out.size) (glC_iff.2 ⟨i64_of 1 (by omega) (by omega), by rw [show (callG t).t = t from rfl, hp]; exact TmV.stay (stays_bel HB8.out) _ _ HTM.out, RowsV.nil _⟩)
    rw [show (callG t).t = t from rfl, HK.out.1, HK.out.2.1, HK.out.2.2.1] at h
    exact h)
  clear hc
  go_wp2
  go_ret2
  rw [← hr]
  exact ⟨_, rfl, HEND.out, Ext.trans' HB8.out (bel1' w8 _)⟩
theorem rof_at : ∀ (M : Nat), M ≤ 200000 → OfIH M
  | 0, _ => fun x hx => by have := size_pos x; omega
  | M + 1, hM => fun x hx D w v hD hv => rof_step M (by omega) (rof_at M (by omega)) x hx D w v hD hv
end Go.Proofs.YtaojalicnnnkmaaGreatDoor
