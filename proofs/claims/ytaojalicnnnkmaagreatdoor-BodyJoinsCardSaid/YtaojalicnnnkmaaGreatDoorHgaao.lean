import Derived.Test.YtaojalicnnnkmaaGreatDoorHgaan
import Derived.Test.YtaojalicnnnkmaaGreatDoorHgaak
import Derived.Test.YtaojalicnnnkmaaGreatDoorHgaaa
import Derived.Lib.Strings
import Derived.Test.YtaojalicnnnkmaaGreatDoorHgaab
set_option linter.unusedVariables false
set_option linter.unusedSimpArgs false
/- Package body: add, walked. (gen_ka3.py) -/
namespace Go.Proofs.YtaojalicnnnkmaaGreatDoor
open Go.RowKit
set_option linter.unusedVariables false

def AddIH (M : Nat) : Prop := ∀ x, sizeN x ≤ M → formedT x = true → ∀ (W : World) (D0 D : Nat → Bool) (w : World) (a0 : Option Addr) (m0 c0 : Nat) (ps0 : List GlP) (v : Value), Adds W D0 D w (.slice a0 m0 c0) ps0 → ps0.length = m0 → m0 + 2 * sizeN x ≤ 1000000 → TmV (hide D0 W) x v → Calls Tryz.prog 27 #[.slice a0 m0 c0, v] w (AddP W D0 w (.slice a0 m0 c0) ps0 (ofB x))
theorem AddP.shape {W : World} {D0 : Nat → Bool} {w : World} {v : Value} {ps : List GlP} {o : Option (List Gl)} {e : Ending} {w' : World} (h : AddP W D0 w v ps o e w') :
    ∃ (a : Option Addr) (m c : Nat) (b : Bool), e = .returned (.tuple #[.slice a m c, .bool b]) ∧ w.grownBy w' v.ownBlock ∧ AddP W D0 w v ps o (.returned (.tuple #[.slice a m c, .bool b])) w' := by
  have h' := h
  obtain ⟨hg, h⟩ := h
  cases o with
  | none => exact ⟨none, 0, 0, false, h, hg, by rw [← h]; exact h'⟩
  | some qs =>
    obtain ⟨a, m, c, ps', D', e, _⟩ := h
    exact ⟨a, m, c, true, e, hg, by rw [← e]; exact h'⟩
theorem AddP.from {W : World} {D0 : Nat → Bool} {w wq : World} {v : Value} {ps : List GlP} {o : Option (List Gl)} {e : Ending} {w' : World} (h : AddP W D0 wq v ps o e w') (hb : Below w.heap.size w wq) : AddP W D0 w v ps o e w' := by
  obtain ⟨hg, h⟩ := h
  refine ⟨grown_two (grown_of_bel hb) hg (fun k e => Or.inl e), ?_⟩
  cases o with
  | none => exact h
  | some qs =>
    obtain ⟨a, m, c, ps', D', e, h1, h2, h3, h4⟩ := h
    exact ⟨a, m, c, ps', D', e, h1, h2, fun g hg => (h3 g hg).imp id (fun h => Nat.le_trans hb.size h), h4⟩
/-- One behind the other. -/
theorem AddP.next {W : World} {D0 : Nat → Bool} {w w' w2 : World} {v v' : Value} {ps ps' : List GlP} {qs : List Gl} {o : Option (List Gl)} {e : Ending} (hg : w.grownBy w' v.ownBlock) (hps : ps'.map (·.g) = ps.map (·.g) ++ qs) (hown : ∀ g, v'.ownBlock = some g → v.ownBlock = some g ∨ w.heap.size ≤ g)
    (h : AddP W D0 w' v' ps' o e w2) : AddP W D0 w v ps (o.map fun y => qs ++ y) e w2 := by
  obtain ⟨hg2, h⟩ := h
  refine ⟨grown_two hg hg2 hown, ?_⟩
  cases o with
  | none => exact h
  | some y =>
    obtain ⟨a, m, c, ps2, D', e, h1, h2, h3, h4⟩ := h
    exact ⟨a, m, c, ps2, D', e, by rw [h1, hps, List.append_assoc], h2, fun g hg' => by
      rcases h3 g hg' with h | h
      · exact hown g h
      · exact Or.inr (Nat.le_trans hg.size h), h4⟩
theorem addIH_row {M : Nat} (hM : M ≤ 200000) (IH : AddIH M) {x : Tm} (hs : sizeN x ≤ M) (hf : formedT x = true) (D' : Nat → Bool) (wq : World) (vx : Value) (hD : Old D' wq) (hx : TmV (hide D' wq) x vx) : Calls Tryz.prog 27 #[.slice none 0 0, vx] wq (OfKP D' wq (ofB x)) :=
  (IH x hs hf wq D' D' wq none 0 0 [] vx (Adds.none hD) rfl (by omega) hx).mono (fun e w' h => addP_new hD h (fun qs hq => by have := of_len hq; omega))
theorem addRows_use {M : Nat} (hM : M ≤ 200000) (IH : AddIH M) {W : World} {D0 D : Nat → Bool} {w : World} {a0 : Option Addr} {m0 c0 : Nat} {ps0 : List GlP} (hA : Adds W D0 D w (.slice a0 m0 c0) ps0) (hm0 : ps0.length = m0) (hroom : m0 + 1 ≤ 1000000) {kind : Int} (h0 : 0 ≤ kind) (h1 : kind ≤ 100) (ts : List TmP) (hl : ts.length ≤ 100)
    (hs : ∀ p ∈ ts, sizeN p.1 ≤ M ∧ formedT p.1 = true) (wq : World) (hq : Below w.heap.size w wq) (hp : ∀ p ∈ ts, TmV (hide D wq) p.1 (pVal p)) (ty : TypeId) (cs : Array Value) (hcs : cs.toList = ts.flatMap pCells) :
    Calls Tryz.prog 43 #[.slice a0 m0 c0, .int .i64 kind, .slice (some ⟨wq.heap.size, 0, none⟩) ts.length ts.length] (wq.alloc (.cells cs ty)) (AddP W D0 (wq.alloc (.cells cs ty)) (.slice a0 m0 c0) ps0 ((ofR (ts.map (·.1))).map fun ls => [.mk kind zeroT ls])) := by
  have hDq : Old D wq := hA.old.mono hq.size
  refine addRows_at (hA.later (Ext.trans' hq (bel1' wq _))) hm0 hroom (i64_of _ h0 h1) (tms_new hDq ts hp hl ty cs hcs) (by rw [List.length_map]; exact hl) (fun x hx D' w' vx ho hv => ?_)
  obtain ⟨p, hpm, rfl⟩ := List.mem_map.1 hx
  exact addIH_row hM IH (hs p hpm).1 (hs p hpm).2 D' w' vx ho hv
theorem formed_args {t : Tm} (h : formedT t = true) : ∀ x ∈ t.args, formedT x = true := by
  obtain ⟨k, n, s, ts⟩ := t
  rw [formedT, Bool.and_eq_true] at h
  exact fun x hx => formed_mem h.2 hx
theorem formed_len {t : Tm} (h : formedT t = true) : t.args.length ≤ 8 := by
  obtain ⟨k, n, s, ts⟩ := t
  rw [formedT, Bool.and_eq_true] at h
  have hp := h.1
  show ts.length ≤ 8
  unfold plainT at hp
  split at hp
  · simp only [Bool.and_eq_true, decide_eq_true_eq] at hp; omega
  · split at hp
    · simp only [Bool.and_eq_true, decide_eq_true_eq] at hp; omega
    · split at hp
      · simp only [Bool.and_eq_true, decide_eq_true_eq] at hp; omega
      · cases hp
theorem failT_formed : formedT failT = true := by rfl
theorem Box.rowed {w w' : World} {b : Nat} {row : Option Nat} {vs : List Value} (h : Box w b vs) (g : w.grownBy w' row) (hne : row ≠ some b) : Box w' b vs :=
  h.block (g.block b h.lt (fun e => hne e.symm)) (Nat.lt_of_lt_of_le h.lt g.size)
set_option maxHeartbeats 16000000 in
set_option maxRecDepth 100000 in
theorem gadd_step (M : Nat) (hM : M ≤ 200000) (ih : AddIH M) (t : Tm) (ht : sizeN t ≤ M + 1) (hf : formedT t = true) {W : World} {D0 D : Nat → Bool} {w : World} {a0 : Option Addr} {m0 c0 : Nat} {ps0 : List GlP} {v : Value} (hA : Adds W D0 D w (.slice a0 m0 c0) ps0) (hm0 : ps0.length = m0) (hroom : m0 + 2 * sizeN t ≤ 1000000) (hv : TmV (hide D0 W) t v) :
    Calls Tryz.prog 27 #[.slice a0 m0 c0, v] w (AddP W D0 w (.slice a0 m0 c0) ps0 (ofB t)) := by
  obtain ⟨u, rfl, hs, hk64, hn64, hu⟩ := tmV_iff.1 (show TmV (hide D0 W) (.mk t.k t.n t.s t.args) v from by cases t; exact hv)
  obtain ⟨a, c, rfl, h1, h2, h3⟩ := hu.len
  have HIH := Lib.hid ih
  have HTM := Lib.hid hv
  have HU := Lib.hid hu
  have HA := Lib.hid hA
  have HM0 := Lib.hid hm0
  have HF := Lib.hid hf
  have HSZ := Lib.hid ht
  have hp := size_pos t
  have HRM := Lib.hid hroom
  have HBW := Lib.hid (show Below W.heap.size W w from hA.2.1.bel (Nat.le_refl _) (fun _ _ => rfl))
  have HOB := Lib.hid (show ∀ g, (Value.slice a0 m0 c0).ownBlock = some g → W.heap.size ≤ g ∧ g < w.heap.size from fun g hg => row_in hA.1.1 hg)
  obtain ⟨o, ho⟩ : ∃ o, ofB t = o := ⟨_, rfl⟩
  rw [of_step] at ho
  have HO := Lib.hid ho
  rw [show ofB t = o by rw [of_step]; exact ho]
  obtain ⟨k, hk⟩ : ∃ k, t.k = k := ⟨_, rfl⟩
  obtain ⟨n, hn⟩ : ∃ n, t.n = n := ⟨_, rfl⟩
  obtain ⟨s, hss⟩ : ∃ s, t.s = s := ⟨_, rfl⟩
  obtain ⟨m, hm⟩ : ∃ m, t.args.length = m := ⟨_, rfl⟩
  have HK := Lib.hid (And.intro hk (And.intro hn (And.intro hss hm)))
  rw [hk, hn, hss, hm] at HTM ⊢
  rw [hm] at HU
  obtain ⟨w1, e1, B1, z1, X1⟩ := box_new w #[.int .i64 k, .int .i64 n, .string s, .slice a m c] 31
  have HE := Lib.hid e1
  have HB1 := Lib.hid B1
  have HX1 := Lib.hid X1
  have IS := Lib.hid (fun (wq : World) (hq : Below w.heap.size w wq) (s' : ByteArray) (m' : Nat) (hs' : s'.data.toList ≠ []) => by
    have h := bis_at (TmV.ext (Ext.trans' HBW.out hq) _ _ (TmV.stay (Stays.unhide D0 W) _ _ HTM.out)) s' m'
    rw [nmT_is HF.out hs'] at h
    exact h)
  obtain ⟨i1, hi1, hz1, hs1, hb1⟩ := info_parts infoGoalB
  obtain ⟨x0, x1, x2, x3, _⟩ := X1.four
  have hm63 : m0 + 1 ≤ 1000000 := by omega
  have HPUSH := Lib.hid (fun (wq : World) (hq : Below w.heap.size w wq) => (show wq.ownsRow W.heap.size 35 6 (.slice a0 m0 c0) m0 (ps0.flatMap glCells) ∧ W.heap.size ≤ wq.heap.size from by
    have h := HA.out.later hq
    have h1 := h.1.1
    rw [HM0.out] at h1
    exact ⟨h1, h.2.1.size⟩))
  clear hv hu hA hm0 hf ht hroom hp ih ho hk hn hss hm e1 B1 z1 X1 h1 h2 h3 hs hk64 hn64
  by_cases g1 : k = 1
  · subst g1
    have hc : ctlT t = .num := by unfold ctlT; rw [if_neg (by rw [HK.out.1]; omega), if_pos HK.out.1]
    have hr := HO.out
    rw [hc] at hr
    simp only at hr
    clear hc
    go_enter Tryz.func27, Tryz.ntmps27
    go_upto_region 1 with fail
    (try rw [HE.out])
    go_wp2
    go_ret2
    rw [← hr]
    exact ⟨grown_of_bel HB1.out, rfl⟩
  have g1b : (k == 1) = false := beq_false_of_ne g1
  by_cases g0 : k = 0
  · subst g0
    have hc : ctlT t = .var := by unfold ctlT; rw [if_pos HK.out.1]
    have hr := HO.out
    rw [hc] at hr
    simp only at hr
    have HC := Lib.hid (show Calls Tryz.prog 26 #[.string callS, .slice (some ⟨w1.heap.size, 0, none⟩) 1 1] (w1.alloc (.cells #[.int .i64 0, .int .i64 n, .string s, .slice a m c] 31)) fun e w' => ∃ a9 c9, e = .returned (.agg #[.int .i64 2, .int .i64 0, .string callS, .slice a9 1 c9]) ∧ TmV (hide D w') (nameT callS [t]) (.agg #[.int .i64 2, .int .i64 0, .string callS, .slice a9 1 c9]) ∧ Below (w1.alloc (.cells #[.int .i64 0, .int .i64 n, .string s, .slice a m c] 31)).heap.size (w1.alloc (.cells #[.int .i64 0, .int .i64 n, .string s, .slice a m c] 31)) w' from by
      have hp : pVal (t, .slice a m c) = .agg #[.int .i64 0, .int .i64 n, .string s, .slice a m c] := by unfold pVal; rw [HK.out.1, HK.out.2.1, HK.out.2.2.1]
      have ht1 : TmV (hide D w1) t (pVal (t, .slice a m c)) := by rw [hp]; exact TmV.stay (stays_bel HB1.out) _ _ (HA.out.tm HTM.out)
      have hcs : (#[.int .i64 0, .int .i64 n, .string s, .slice a m c] : Array Value).toList = [(t, Value.slice a m c)].flatMap pCells := by
        rw [List.flatMap_cons, List.flatMap_nil, List.append_nil]; unfold pCells; rw [HK.out.1, HK.out.2.1, HK.out.2.2.1]
      have htm := tms_new (HA.out.old.mono HB1.out.size) [(t, .slice a m c)] (fun p hp' => by rw [List.mem_singleton] at hp'; rw [hp']; exact ht1) (by simp) 31 _ hcs
      have hh : Tms (hide D (w1.alloc (.cells #[.int .i64 0, .int .i64 n, .string s, .slice a m c] 31))) (.slice (some ⟨w1.heap.size, 0, none⟩) 1 1) [t] := htm
      have hr := comp_hide callS (by unfold BIG; decide) (HA.out.old.mono (Nat.le_trans HB1.out.size (bel1' w1 _).size)) hh
      refine hr.mono ?_
      rintro e w' ⟨a2, c2, he, h2, h3⟩
      exact ⟨a2, c2, he, h2, h3⟩)
    clear hc
    go_enter Tryz.func27, Tryz.ntmps27
    go_upto_region 1 with fail
    (try rw [HE.out])
    (go_wp2_with fail; go_fit (HC.out); rintro e w3 ⟨aq, cq, rfl, ht3, b3⟩)
    have HB3 := Lib.hid (Ext.trans' HB1.out (Ext.trans' (bel1' w1 _) b3))
    have HT3 := Lib.hid ht3
    clear b3 x0 x1 x2 x3 ht3 HC
    have hb9 : Below w.heap.size w (w3.alloc (.cells #[Value.int .i64 1, .int .i64 2, .int .i64 0, .string callS, .slice aq 1 cq, .slice none 0 0] 35)) := Ext.trans' HB3.out (bel1' w3 _)
    have hgk : gkOk (hide D (w3.alloc (.cells #[Value.int .i64 1, .int .i64 2, .int .i64 0, .string callS, .slice aq 1 cq, .slice none 0 0] 35))) ⟨callG (nameT callS [t]), .slice aq 1 cq, .slice none 0 0⟩ := ⟨glC_iff.2 ⟨i64_of 1 (by omega) (by omega), TmV.stay (stays_bel (bel1' w3 _)) _ _ HT3.out, RowsV.nil _⟩, skG_iff.2 (SkW.nil _)⟩
    have HROW := Lib.hid (HPUSH.out _ hb9)
    have HONE := Lib.hid (show ∀ u ∈ [Value.int .i64 1, .int .i64 2, .int .i64 0, .string callS, .slice aq 1 cq, .slice none 0 0], u.oneCell' = true from fun u hu => by
      simp only [List.mem_cons, List.not_mem_nil, or_false] at hu
      rcases hu with rfl | rfl | rfl | rfl | rfl | rfl <;> rfl)
    have HEND := Lib.hid (fun (a7 : Option Addr) (c7 : Nat) (w7 : World) (hown : w7.ownsRow W.heap.size 35 6 (.slice a7 (m0 + 1) c7) (m0 + 1) (ps0.flatMap glCells ++ [Value.int .i64 1, .int .i64 2, .int .i64 0, .string callS, .slice aq 1 cq, .slice none 0 0]))
        (hg : (w3.alloc (.cells #[Value.int .i64 1, .int .i64 2, .int .i64 0, .string callS, .slice aq 1 cq, .slice none 0 0] 35)).grownBy w7 (Value.slice a0 m0 c0).ownBlock)
        (hat : (Value.slice a7 (m0 + 1) c7).ownBlock = (Value.slice a0 m0 c0).ownBlock ∨ (Value.slice a7 (m0 + 1) c7).ownBlock = some (w3.alloc (.cells #[Value.int .i64 1, .int .i64 2, .int .i64 0, .string callS, .slice aq 1 cq, .slice none 0 0] 35)).heap.size) =>
      addP_push (p := ⟨callG (nameT callS [t]), .slice aq 1 cq, .slice none 0 0⟩) HA.out HM0.out hb9 hgk hg hat (show w7.ownsRow W.heap.size 35 6 (.slice a7 (m0 + 1) c7) (m0 + 1) (ps0.flatMap glCells ++ glCells ⟨callG (nameT callS [t]), .slice aq 1 cq, .slice none 0 0⟩) by exact hown))
    clear hb9 hgk HT3
    go_wp2_with (at_builtin; refine wpList_append_k rfl _ _ 25 rfl W.heap.size 35 i1 (.agg #[.int .i64 0, .int .i64 0, .int .i64 0, .string ⟨#[]⟩, .slice none 0 0, .slice none 0 0]) 6 88 Tryz.underlying25 hi1 hz1 hs1 (by decide) hb1 rfl (.slice a0 m0 c0) m0 (ps0.flatMap glCells) rfl HROW.out.1 (some ⟨w3.heap.size, 0, none⟩) 1 1 [Value.int .i64 1, .int .i64 2, .int .i64 0, .string callS, .slice aq 1 cq, .slice none 0 0] rfl rfl (Or.inr ⟨_, rfl, fun jj u hu => cell_new w3 #[Value.int .i64 1, .int .i64 2, .int .i64 0, .string callS, .slice aq 1 cq, .slice none 0 0] _ jj u hu⟩) HONE.out (by unfold maxLen; omega) (by omega) HROW.out.2 (m0 + 1) _ rfl rfl ?_; intro a7 c7 w7 hown7 hgrow7 hat7; have HN7 := Lib.hid (HEND.out a7 c7 w7 hown7 hgrow7 hat7); clear hown7 hgrow7 hat7)
    go_ret2
    rw [← hr]
    exact HN7.out
  have g0b : (k == 0) = false := beq_false_of_ne g0
  have HG := Lib.hid (And.intro g0 g1)
  go_enter Tryz.func27, Tryz.ntmps27
  go_upto_region 1 with fail
  (try rw [HE.out])
  clear g0 g1
  have C1 := IS.out w1 HB1.out trueS 0 (by decide)
  obtain ⟨b1, hb1⟩ : ∃ b, isT t trueS 0 = b := ⟨_, rfl⟩
  have HC1 := Lib.hid hb1
  rw [hb1] at C1
  clear hb1
  (go_wp2_with fail; go_fit (C1); rintro e w2 ⟨rfl, bb⟩)
  have HB2 := Lib.hid (Ext.trans' HB1.out bb)
  have HX2 := Lib.hid (HX1.out.ext bb)
  clear C1 bb x0 x1 x2 x3
  obtain ⟨x0, x1, x2, x3, _⟩ := HX2.out.four
  cases b1
  rotate_left
  · have hc := is_yes HC1.out
    have hr := HO.out
    rw [hc] at hr
    simp only at hr
    clear hc x0 x1 x2 x3
    go_wp2
    go_ret2
    rw [← hr]
    exact ⟨grown_of_bel HB2.out, a0, m0, c0, ps0, D, rfl, by simp, HM0.out, fun g hg => Or.inl hg, HA.out.later HB2.out⟩
  have C1 := IS.out w2 HB2.out bangS 0 (by decide)
  obtain ⟨b2, hb2⟩ : ∃ b, isT t bangS 0 = b := ⟨_, rfl⟩
  have HC2 := Lib.hid hb2
  rw [hb2] at C1
  clear hb2
  (go_wp2_with fail; go_fit (C1); rintro e w3 ⟨rfl, bb⟩)
  have HB3 := Lib.hid (Ext.trans' HB2.out bb)
  have HX3 := Lib.hid (HX2.out.ext bb)
  clear C1 bb x0 x1 x2 x3
  obtain ⟨x0, x1, x2, x3, _⟩ := HX3.out.four
  cases b2
  rotate_left
  · have hc := is_cut HC2.out
    have hr := HO.out
    rw [hc] at hr
    simp only at hr
    have hb9 : Below w.heap.size w (w3.alloc (.cells #[Value.int .i64 2, .int .i64 0, .int .i64 0, .string ⟨#[]⟩, .slice none 0 0, .slice none 0 0] 35)) := Ext.trans' HB3.out (bel1' w3 _)
    have hgk : gkOk (hide D (w3.alloc (.cells #[Value.int .i64 2, .int .i64 0, .int .i64 0, .string ⟨#[]⟩, .slice none 0 0, .slice none 0 0] 35))) ⟨.mk 2 zeroT [], .slice none 0 0, .slice none 0 0⟩ := ⟨glC_iff.2 ⟨i64_of 2 (by omega) (by omega), leaf_tm _ i64_0 i64_0 (by unfold BIG; decide), RowsV.nil _⟩, skG_iff.2 (SkW.nil _)⟩
    have HROW := Lib.hid (HPUSH.out _ hb9)
    have HONE := Lib.hid (show ∀ u ∈ [Value.int .i64 2, .int .i64 0, .int .i64 0, .string ⟨#[]⟩, .slice none 0 0, .slice none 0 0], u.oneCell' = true from fun u hu => by
      simp only [List.mem_cons, List.not_mem_nil, or_false] at hu
      rcases hu with rfl | rfl | rfl | rfl | rfl | rfl <;> rfl)
    have HEND := Lib.hid (fun (a7 : Option Addr) (c7 : Nat) (w7 : World) (hown : w7.ownsRow W.heap.size 35 6 (.slice a7 (m0 + 1) c7) (m0 + 1) (ps0.flatMap glCells ++ [Value.int .i64 2, .int .i64 0, .int .i64 0, .string ⟨#[]⟩, .slice none 0 0, .slice none 0 0]))
        (hg : (w3.alloc (.cells #[Value.int .i64 2, .int .i64 0, .int .i64 0, .string ⟨#[]⟩, .slice none 0 0, .slice none 0 0] 35)).grownBy w7 (Value.slice a0 m0 c0).ownBlock)
        (hat : (Value.slice a7 (m0 + 1) c7).ownBlock = (Value.slice a0 m0 c0).ownBlock ∨ (Value.slice a7 (m0 + 1) c7).ownBlock = some (w3.alloc (.cells #[Value.int .i64 2, .int .i64 0, .int .i64 0, .string ⟨#[]⟩, .slice none 0 0, .slice none 0 0] 35)).heap.size) =>
      addP_push (p := ⟨.mk 2 zeroT [], .slice none 0 0, .slice none 0 0⟩) HA.out HM0.out hb9 hgk hg hat (show w7.ownsRow W.heap.size 35 6 (.slice a7 (m0 + 1) c7) (m0 + 1) (ps0.flatMap glCells ++ glCells ⟨.mk 2 zeroT [], .slice none 0 0, .slice none 0 0⟩) by exact hown))
    clear hb9 hgk hc x0 x1 x2 x3
    go_wp2_with (at_builtin; refine wpList_append_k rfl _ _ 25 rfl W.heap.size 35 i1 (.agg #[.int .i64 0, .int .i64 0, .int .i64 0, .string ⟨#[]⟩, .slice none 0 0, .slice none 0 0]) 6 88 Tryz.underlying25 hi1 hz1 hs1 (by decide) hb1 rfl (.slice a0 m0 c0) m0 (ps0.flatMap glCells) rfl HROW.out.1 (some ⟨w3.heap.size, 0, none⟩) 1 1 [Value.int .i64 2, .int .i64 0, .int .i64 0, .string ⟨#[]⟩, .slice none 0 0, .slice none 0 0] rfl rfl (Or.inr ⟨_, rfl, fun jj u hu => cell_new w3 #[Value.int .i64 2, .int .i64 0, .int .i64 0, .string ⟨#[]⟩, .slice none 0 0, .slice none 0 0] _ jj u hu⟩) HONE.out (by unfold maxLen; omega) (by omega) HROW.out.2 (m0 + 1) _ rfl rfl ?_; intro a7 c7 w7 hown7 hgrow7 hat7; have HN7 := Lib.hid (HEND.out a7 c7 w7 hown7 hgrow7 hat7); clear hown7 hgrow7 hat7)
    go_ret2
    rw [← hr]
    exact HN7.out
  have C1 := IS.out w3 HB3.out commaS 2 (by decide)
  obtain ⟨b3, hb3⟩ : ∃ b, isT t commaS 2 = b := ⟨_, rfl⟩
  have HC3 := Lib.hid hb3
  rw [hb3] at C1
  clear hb3
  (go_wp2_with fail; go_fit (C1); rintro e w4 ⟨rfl, bb⟩)
  have HB4 := Lib.hid (Ext.trans' HB3.out bb)
  have HX4 := Lib.hid (HX3.out.ext bb)
  clear C1 bb x0 x1 x2 x3
  obtain ⟨x0, x1, x2, x3, _⟩ := HX4.out.four
  cases b3
  rotate_left
  · obtain ⟨x, y, hxy, hc⟩ := is_join HC3.out
    have hr := HO.out
    rw [hc] at hr
    simp only at hr
    have hu2 := HU.out
    rw [hxy] at hu2
    obtain rfl : m = 2 := by rw [← HK.out.2.2.2, hxy]; rfl
    obtain ⟨b, off, k1, n1, s1, a1, m1, c1, k2, n2, s2, a2, m2, c2, rfl, d0, d1, d2, d3, f0, f1, f2, f3, ht1, ht2, _⟩ := args_two hu2
    have hsz := size_args hxy
    rw [sizesN, sizesN, sizesN] at hsz
    have hfx := formed_args HF.out x (by rw [hxy]; simp)
    have hfy := formed_args HF.out y (by rw [hxy]; simp)
    have HD := Lib.hid (And.intro d0 (And.intro d1 (And.intro d2 (And.intro d3 (And.intro f0 (And.intro f1 (And.intro f2 f3)))))))
    have C1 := HIH.out x (by have := HSZ.out; omega) hfx W D0 D w4 a0 m0 c0 ps0 _ (HA.out.later HB4.out) HM0.out (by have := HRM.out; omega) ht1
    have HY := Lib.hid (fun (D6 : Nat → Bool) (w6 : World) (a6 : Option Addr) (m6 c6 : Nat) (ps6 : List GlP) (qs : List Gl) (hq : ofB x = some qs) (h1 : ps6.map (·.g) = ps0.map (·.g) ++ qs) (h2 : ps6.length = m6) (h3 : Adds W D0 D6 w6 (.slice a6 m6 c6) ps6) =>
      HIH.out y (by have := HSZ.out; omega) hfy W D0 D6 w6 a6 m6 c6 ps6 _ h3 h2 (by
        have e1 := congrArg List.length h1
        rw [List.length_map, List.length_append, List.length_map] at e1
        have e2 := of_len hq
        have e3 := HM0.out
        have e4 := HRM.out
        omega) ht2)
    obtain ⟨ox, hox⟩ : ∃ q, ofB x = q := ⟨_, rfl⟩
    rw [hox] at C1 hr HY
    replace d0 := cell_later (Ext.trans' HBW.out HB4.out) d0
    replace d1 := cell_later (Ext.trans' HBW.out HB4.out) d1
    replace d2 := cell_later (Ext.trans' HBW.out HB4.out) d2
    replace d3 := cell_later (Ext.trans' HBW.out HB4.out) d3
    have HBX := Lib.hid (show W.heap.size ≤ w.heap.size from HBW.out.size)
    clear f0 f1 f2 f3 hu2 ht1 ht2 hxy hc hsz hox hfx hfy
    cases ox with
    | none =>
      have hr2 : o = none := hr.symm
      subst hr2
      (go_wp2_with fail; go_fit (C1); rintro e w6 ⟨hg6, rfl⟩)
      have HEND := Lib.hid (grown_two (grown_of_bel (row := (Value.slice a0 m0 c0).ownBlock) HB4.out) hg6 (fun k e => Or.inl e))
      clear C1 hg6 d0 d1 d2 d3 x0 x1 x2 x3 hr HY
      go_wp2
      go_ret2
      exact ⟨HEND.out, rfl⟩
    | some qs =>
      (go_wp2_with fail; go_fit (C1); rintro e w6 ⟨hg6, a6, m6, c6, ps6, D6, rfl, q1, q2, q3, q4⟩)
      have C2 := HY.out D6 w6 a6 m6 c6 ps6 qs rfl q1 q2 q4
      have HX6 := Lib.hid (HX4.out.rowed hg6 (fun e => by have := (HOB.out _ e).2; omega))
      have hb6 : Below W.heap.size W w6 := q4.2.1.bel (Nat.le_refl _) (fun _ _ => rfl)
      have HEND := Lib.hid (fun (oy : Option (List Gl)) (e : Ending) (w7 : World) (h : AddP W D0 w6 (.slice a6 m6 c6) ps6 oy e w7) =>
        (AddP.next hg6 q1 q3 h).from HB4.out)
      clear d0 d1 d2 d3 x0 x1 x2 x3
      obtain ⟨x0, x1, x2, x3, _⟩ := HX6.out.four
      have f0 := cell_later hb6 HD.out.2.2.2.2.1
      have f1 := cell_later hb6 HD.out.2.2.2.2.2.1
      have f2 := cell_later hb6 HD.out.2.2.2.2.2.2.1
      have f3 := cell_later hb6 HD.out.2.2.2.2.2.2.2
      have hr3 : ((ofB y).map fun z => qs ++ z) = o := hr
      have HR3 := Lib.hid hr3
      clear C1 hg6 q1 q2 q3 q4 hb6 hr HY hr3
      (go_wp2_with fail; go_fit (C2); rintro e w7 hP)
      obtain ⟨a7, m7, c7, b7, rfl, hg7, hP7⟩ := hP.shape
      have HP7 := Lib.hid (HEND.out _ _ _ hP7)
      clear C2 hP hg7 hP7 f0 f1 f2 f3 x0 x1 x2 x3
      go_wp2
      go_ret2
      rw [← HR3.out]
      exact HP7.out
  obtain ⟨b4, hb4⟩ : ∃ b, isT t semiS 2 = b := ⟨_, rfl⟩
  have HC4 := Lib.hid hb4
  have C1 := IS.out w4 HB4.out semiS 2 (by decide)
  rw [hb4] at C1
  clear hb4
  cases b4
  rotate_left
  · obtain ⟨x, y, hxy, hsa, hsb⟩ := is_semi HC4.out
    have HSE := Lib.hid (And.intro hsa hsb)
    have hu4 := HU.out
    rw [hxy] at hu4
    obtain rfl : m = 2 := by rw [← HK.out.2.2.2, hxy]; rfl
    obtain ⟨b, off, k1, n1, s1, a1, m1, c1, k2, n2, s2, a2, m2, c2, rfl, d0, d1, d2, d3, f0, f1, f2, f3, ht1, ht2, hua⟩ := args_two hu4
    have hsz := size_args hxy
    rw [sizesN, sizesN, sizesN] at hsz
    have HS := Lib.hid (show sizeN x + sizeN y + 1 ≤ M + 1 by have := HSZ.out; omega)
    have HFX := Lib.hid (And.intro (formed_args HF.out x (by rw [hxy]; simp)) (formed_args HF.out y (by rw [hxy]; simp)))
    have HXY := Lib.hid hxy
    have HT4 := Lib.hid (And.intro ht1 (And.intro ht2 hua))
    have HC := Lib.hid (And.intro d0 (And.intro d1 (And.intro d2 (And.intro d3 (And.intro f0 (And.intro f1 (And.intro f2 f3)))))))
    clear hsa hsb hu4 hxy hsz ht1 ht2 hua d0 d1 d2 d3 f0 f1 f2 f3
    (go_wp2_with fail; go_fit (C1); rintro e w5 ⟨rfl, b5⟩)
    have HB5 := Lib.hid (Ext.trans' HB4.out b5)
    have HX5 := Lib.hid (HX4.out.ext b5)
    clear C1 b5 x0 x1 x2 x3
    obtain ⟨x0, x1, x2, x3, _⟩ := HX5.out.four
    have d0 := cell_later (Ext.trans' HBW.out HB5.out) HC.out.1
    have d1 := cell_later (Ext.trans' HBW.out HB5.out) HC.out.2.1
    have d2 := cell_later (Ext.trans' HBW.out HB5.out) HC.out.2.2.1
    have d3 := cell_later (Ext.trans' HBW.out HB5.out) HC.out.2.2.2.1
    have C2 := bis_at (TmV.ext (Ext.trans' HBW.out HB5.out) _ _ (TmV.stay (Stays.unhide D0 W) _ _ HT4.out.1)) arrowS 2
    rw [nmT_is HFX.out.1 (by decide)] at C2
    obtain ⟨bb, hbb⟩ : ∃ b, isT x arrowS 2 = b := ⟨_, rfl⟩
    have HBB := Lib.hid hbb
    rw [hbb] at C2
    clear hbb
    (go_wp2_with fail; go_fit (C2); rintro e w6 ⟨rfl, b6⟩)
    have HB6 := Lib.hid (Ext.trans' HB5.out b6)
    have HX6 := Lib.hid (HX5.out.ext b6)
    have HW6 := Lib.hid (Ext.trans' HBW.out HB6.out)
    clear C2 b6 x0 x1 x2 x3 d0 d1 d2 d3
    obtain ⟨x0, x1, x2, x3, _⟩ := HX6.out.four
    have d0 := cell_later HW6.out HC.out.1
    have d1 := cell_later HW6.out HC.out.2.1
    have d2 := cell_later HW6.out HC.out.2.2.1
    have d3 := cell_later HW6.out HC.out.2.2.2.1
    have f0 := cell_later HW6.out HC.out.2.2.2.2.1
    have f1 := cell_later HW6.out HC.out.2.2.2.2.2.1
    have f2 := cell_later HW6.out HC.out.2.2.2.2.2.2.1
    have f3 := cell_later HW6.out HC.out.2.2.2.2.2.2.2
    cases bb
    rotate_left
    · obtain ⟨p, q, hpq, hc⟩ := HSE.out.1 HBB.out
      have hr := HO.out
      rw [hc] at hr
      simp only at hr
      obtain ⟨ht1, ht2, hua⟩ := HT4.out
      obtain rfl : m1 = 2 := by obtain ⟨_, _, e, _⟩ := hua.len; cases e; rw [hpq]; rfl
      rw [hpq] at hua
      obtain ⟨b', off', k3, n3, s3, a3, m3, c3, k4, n4, s4, a4, m4, c4, rfl, g0, g1, g2, g3, j0, j1, j2, j3, ht3, ht4, _⟩ := args_two hua
      have hsp := size_args hpq
      rw [sizesN, sizesN, sizesN] at hsp
      have hs_p : sizeN p ≤ M ∧ formedT p = true := ⟨by have := HS.out; omega, formed_args HFX.out.1 p (by rw [hpq]; simp)⟩
      have hs_q : sizeN q ≤ M ∧ formedT q = true := ⟨by have := HS.out; omega, formed_args HFX.out.1 q (by rw [hpq]; simp)⟩
      have hs_y : sizeN y ≤ M ∧ formedT y = true := ⟨by have := HS.out; omega, HFX.out.2⟩
      have qp := tm_parts ht3
      have qq := tm_parts ht4
      have qy := tm_parts ht2
      have hbl : b < W.heap.size ∧ b' < W.heap.size := ⟨World.block_lt_of_cell? _ _ HC.out.1, World.block_lt_of_cell? _ _ g0⟩
      have HT := Lib.hid (fun (wq : World) (hq : Below w6.heap.size w6 wq) => by
        have hwq := Ext.trans' HB6.out hq
        have hst : Stays (hide D0 W) (hide D wq) := (HA.out.2.1.stays (fun _ h => absurd h (by simp))).trans (stays_bel hwq)
        have h := addRows_use hM HIH.out HA.out HM0.out hm63 (kind := 4) (by omega) (by omega) [(p, Value.slice a3 m3 c3), (q, Value.slice a4 m4 c4), (y, Value.slice a2 m2 c2)] (by simp)
          (fun r hr => by
            simp only [List.mem_cons, List.not_mem_nil, or_false] at hr
            rcases hr with rfl | rfl | rfl
            all_goals (first | exact hs_p | exact hs_q | exact hs_y)) wq hwq
          (fun r hr => by
            simp only [List.mem_cons, List.not_mem_nil, or_false] at hr
            rcases hr with rfl | rfl | rfl
            all_goals (first | (rw [qp.2]; exact TmV.stay hst _ _ ht3) | (rw [qq.2]; exact TmV.stay hst _ _ ht4) | (rw [qy.2]; exact TmV.stay hst _ _ ht2)))
          31 #[.int .i64 k3, .int .i64 n3, .string s3, .slice a3 m3 c3, .int .i64 k4, .int .i64 n4, .string s4, .slice a4 m4 c4, .int .i64 k2, .int .i64 n2, .string s2, .slice a2 m2 c2] (by simp only [List.flatMap_cons, List.flatMap_nil, List.append_nil, qp.1, qq.1, qy.1]; rfl)
        simp only [List.map_cons, List.map_nil, ofR_three] at h
        rw [hr] at h
        exact h)
      replace g0 := cell_later HW6.out g0
      replace g1 := cell_later HW6.out g1
      replace g2 := cell_later HW6.out g2
      replace g3 := cell_later HW6.out g3
      replace j0 := cell_later HW6.out j0
      replace j1 := cell_later HW6.out j1
      replace j2 := cell_later HW6.out j2
      replace j3 := cell_later HW6.out j3
      have HNE := Lib.hid (show (Value.slice a0 m0 c0).ownBlock ≠ some w.heap.size ∧ (Value.slice a0 m0 c0).ownBlock ≠ some b ∧ (Value.slice a0 m0 c0).ownBlock ≠ some b' from
        ⟨fun e => by have := (HOB.out _ e).2; omega, fun e => by have := (HOB.out _ e).1; omega, fun e => by have := (HOB.out _ e).1; omega⟩)
      clear hsp hs_p hs_q hs_y ht1 ht2 hua ht3 ht4 hpq hc hr qp qq qy hbl
      go_wp2_with fail
      refine g_begin (B := fun w' => w'.cell? ⟨w.heap.size, 3, none⟩ = some (.slice (some ⟨b, off, none⟩) 2 c) ∧ w'.cell? ⟨b, off + 3, none⟩ = some (.slice (some ⟨b', off', none⟩) 2 c1) ∧ w'.cell? ⟨b', off', none⟩ = some (.int .i64 k3) ∧ w'.cell? ⟨b', off' + 1, none⟩ = some (.int .i64 n3) ∧ w'.cell? ⟨b', off' + 2, none⟩ = some (.string s3) ∧ w'.cell? ⟨b', off' + 3, none⟩ = some (.slice a3 m3 c3) ∧ w'.cell? ⟨b', off' + 4, none⟩ = some (.int .i64 k4) ∧ w'.cell? ⟨b', off' + 4 + 1, none⟩ = some (.int .i64 n4) ∧ w'.cell? ⟨b', off' + 4 + 2, none⟩ = some (.string s4) ∧ w'.cell? ⟨b', off' + 4 + 3, none⟩ = some (.slice a4 m4 c4) ∧ w'.cell? ⟨b, off + 4, none⟩ = some (.int .i64 k2) ∧ w'.cell? ⟨b, off + 4 + 1, none⟩ = some (.int .i64 n2) ∧ w'.cell? ⟨b, off + 4 + 2, none⟩ = some (.string s2) ∧ w'.cell? ⟨b, off + 4 + 3, none⟩ = some (.slice a2 m2 c2)) (C := fun w' => Below w6.heap.size w6 w') 20 (by kernel_rfl) ⟨x3, d3, g0, g1, g2, g3, j0, j1, j2, j3, f0, f1, f2, f3⟩ ((Below.refl _ _).drew) (fun hHB hHC => ?_)
      refine g_tb (i := 0) ⟨hHB, fun _ => hHC⟩ ?_; apply Exists.intro; refine ⟨fun wq hq => ?_, ?_⟩; (focus ((try dsimp only at hq); go_simp; (first | done | with_reducible rfl | fail)))
      refine g_tb (i := 1) ⟨hHB, fun _ => hHC⟩ ?_; apply Exists.intro; refine ⟨fun wq hq => ?_, ?_⟩; (focus ((try dsimp only at hq); go_simp; (first | done | with_reducible rfl | fail)))
      refine g_tb (i := 2) ⟨hHB, fun _ => hHC⟩ ?_; apply Exists.intro; refine ⟨fun wq hq => ?_, ?_⟩; (focus ((try dsimp only at hq); go_simp; (first | done | with_reducible rfl | fail)))
      refine g_tb (i := 3) ⟨hHB, fun _ => hHC⟩ ?_; apply Exists.intro; refine ⟨fun wq hq => ?_, ?_⟩; (focus ((try dsimp only at hq); go_simp; (first | done | with_reducible rfl | fail)))
      refine g_tb (i := 4) ⟨hHB, fun _ => hHC⟩ ?_; apply Exists.intro; refine ⟨fun wq hq => ?_, ?_⟩; (focus ((try dsimp only at hq); go_simp; (first | done | with_reducible rfl | fail)))
      refine g_tb (i := 5) ⟨hHB, fun _ => hHC⟩ ?_; apply Exists.intro; refine ⟨fun wq hq => ?_, ?_⟩; (focus ((try dsimp only at hq); go_simp; (first | done | with_reducible rfl | fail)))
      refine g_tb (i := 6) ⟨hHB, fun _ => hHC⟩ ?_; apply Exists.intro; refine ⟨fun wq hq => ?_, ?_⟩; (focus ((try dsimp only at hq); go_simp; (first | done | with_reducible rfl | fail)))
      refine g_tb (i := 7) ⟨hHB, fun _ => hHC⟩ ?_; apply Exists.intro; refine ⟨fun wq hq => ?_, ?_⟩; (focus ((try dsimp only at hq); go_simp; (first | done | with_reducible rfl | fail)))
      refine g_tb (i := 8) ⟨hHB, fun _ => hHC⟩ ?_; apply Exists.intro; refine ⟨fun wq hq => ?_, ?_⟩; (focus ((try dsimp only at hq); go_simp; (first | done | with_reducible rfl | fail)))
      refine g_tb (i := 9) ⟨hHB, fun _ => hHC⟩ ?_; apply Exists.intro; refine ⟨fun wq hq => ?_, ?_⟩; (focus ((try dsimp only at hq); go_simp; (first | done | with_reducible rfl | fail)))
      refine g_tb (i := 10) ⟨hHB, fun _ => hHC⟩ ?_; apply Exists.intro; refine ⟨fun wq hq => ?_, ?_⟩; (focus ((try dsimp only at hq); go_simp; (first | done | with_reducible rfl | fail)))
      refine g_tb (i := 11) ⟨hHB, fun _ => hHC⟩ ?_; apply Exists.intro; refine ⟨fun wq hq => ?_, ?_⟩; (focus ((try dsimp only at hq); go_simp; (first | done | with_reducible rfl | fail)))
      refine g_tb (i := 12) ⟨hHB, fun _ => hHC⟩ ?_; apply Exists.intro; refine ⟨fun wq hq => ?_, ?_⟩; (focus ((try dsimp only at hq); go_simp; (first | done | with_reducible rfl | fail)))
      refine g_tb (i := 13) ⟨hHB, fun _ => hHC⟩ ?_; apply Exists.intro; refine ⟨fun wq hq => ?_, ?_⟩; (focus ((try dsimp only at hq); go_simp; (first | done | with_reducible rfl | fail)))
      refine g_tb (i := 14) ⟨hHB, fun _ => hHC⟩ ?_; apply Exists.intro; refine ⟨fun wq hq => ?_, ?_⟩; (focus ((try dsimp only at hq); go_simp; (first | done | with_reducible rfl | fail)))
      refine g_tb (i := 15) ⟨hHB, fun _ => hHC⟩ ?_; apply Exists.intro; refine ⟨fun wq hq => ?_, ?_⟩; (focus ((try dsimp only at hq); go_simp; (first | done | with_reducible rfl | fail)))
      refine g_tb (i := 16) ⟨hHB, fun _ => hHC⟩ ?_; apply Exists.intro; refine ⟨fun wq hq => ?_, ?_⟩; (focus ((try dsimp only at hq); go_simp; (first | done | with_reducible rfl | fail)))
      refine g_tb (i := 17) ⟨hHB, fun _ => hHC⟩ ?_; apply Exists.intro; refine ⟨fun wq hq => ?_, ?_⟩; (focus ((try dsimp only at hq); go_simp; (first | done | with_reducible rfl | fail)))
      refine g_tb (i := 18) ⟨hHB, fun _ => hHC⟩ ?_; apply Exists.intro; refine ⟨fun wq hq => ?_, ?_⟩; (focus ((try dsimp only at hq); go_simp; (first | done | with_reducible rfl | fail)))
      try simp only [Act.put, List.setIfInBounds_toArray, List.set_cons_zero, List.set_cons_succ]
      refine g_ready (rs := [19]) (by kernel_rfl) (by simp) ?_
      refine AllReadyG.cons (by simp only [List.getElem?_toArray, List.getElem?_cons_zero, List.getElem?_cons_succ]; rfl) (fun K hK => ?_) AllReadyG.nil
      go_simp
      have HBQ := Lib.hid hHC
      refine hK.out _ _ ⟨⟨cell_later (bel1' _ _) hHB.1, cell_later (bel1' _ _) hHB.2.1, cell_later (bel1' _ _) hHB.2.2.1, cell_later (bel1' _ _) hHB.2.2.2.1, cell_later (bel1' _ _) hHB.2.2.2.2.1, cell_later (bel1' _ _) hHB.2.2.2.2.2.1, cell_later (bel1' _ _) hHB.2.2.2.2.2.2.1, cell_later (bel1' _ _) hHB.2.2.2.2.2.2.2.1, cell_later (bel1' _ _) hHB.2.2.2.2.2.2.2.2.1, cell_later (bel1' _ _) hHB.2.2.2.2.2.2.2.2.2.1, cell_later (bel1' _ _) hHB.2.2.2.2.2.2.2.2.2.2.1, cell_later (bel1' _ _) hHB.2.2.2.2.2.2.2.2.2.2.2.1, cell_later (bel1' _ _) hHB.2.2.2.2.2.2.2.2.2.2.2.2.1, cell_later (bel1' _ _) hHB.2.2.2.2.2.2.2.2.2.2.2.2.2⟩, fun _ => Ext.trans' hHC (bel1' _ _)⟩ (fun hHeld => ?_)
      replace hHB := hHeld.1
      replace hHC := hHeld.2 (by kernel_rfl)
      dsimp only at hHB hHC
      clear hHeld hK K
      try simp only [Act.put, List.setIfInBounds_toArray, List.set_cons_zero, List.set_cons_succ]
      try simp only [Act.put, List.setIfInBounds_toArray, List.set_cons_zero, List.set_cons_succ]
      refine g_ready (rs := [20]) (by kernel_rfl) (by simp) ?_
      refine AllReadyG.cons (by simp only [List.getElem?_toArray, List.getElem?_cons_zero, List.getElem?_cons_succ]; rfl) (fun K hK => ?_) AllReadyG.nil
      go_simp
      (go_at_call 43; refine (HT.out _ HBQ.out).mono ?_; rintro e w7 hP; obtain ⟨a7, m7, c7, b7, rfl, hgx, hP7⟩ := hP.shape; have HP7 := Lib.hid (hP7.from (Ext.trans' HB6.out (Ext.trans' HBQ.out (bel1' _ _)))); clear hP hP7)
      refine hK.out _ _ ⟨⟨hgx.cell hHB.1 (fun e => HNE.out.1 e.symm), hgx.cell hHB.2.1 (fun e => HNE.out.2.1 e.symm), hgx.cell hHB.2.2.1 (fun e => HNE.out.2.2 e.symm), hgx.cell hHB.2.2.2.1 (fun e => HNE.out.2.2 e.symm), hgx.cell hHB.2.2.2.2.1 (fun e => HNE.out.2.2 e.symm), hgx.cell hHB.2.2.2.2.2.1 (fun e => HNE.out.2.2 e.symm), hgx.cell hHB.2.2.2.2.2.2.1 (fun e => HNE.out.2.2 e.symm), hgx.cell hHB.2.2.2.2.2.2.2.1 (fun e => HNE.out.2.2 e.symm), hgx.cell hHB.2.2.2.2.2.2.2.2.1 (fun e => HNE.out.2.2 e.symm), hgx.cell hHB.2.2.2.2.2.2.2.2.2.1 (fun e => HNE.out.2.2 e.symm), hgx.cell hHB.2.2.2.2.2.2.2.2.2.2.1 (fun e => HNE.out.2.1 e.symm), hgx.cell hHB.2.2.2.2.2.2.2.2.2.2.2.1 (fun e => HNE.out.2.1 e.symm), hgx.cell hHB.2.2.2.2.2.2.2.2.2.2.2.2.1 (fun e => HNE.out.2.1 e.symm), hgx.cell hHB.2.2.2.2.2.2.2.2.2.2.2.2.2 (fun e => HNE.out.2.1 e.symm)⟩, (fun h => absurd h (by decide +kernel))⟩ (fun hHeld => ?_)
      replace hHB := hHeld.1
      dsimp only at hHB
      clear hHeld hK K
      try simp only [Act.put, List.setIfInBounds_toArray, List.set_cons_zero, List.set_cons_succ]
      refine g_tb (i := 21) ⟨hHB, (fun h => absurd h (by decide +kernel))⟩ ?_; apply Exists.intro; refine ⟨fun wq hq => ?_, ?_⟩; (focus ((try dsimp only at hq); go_simp; (first | done | with_reducible rfl | fail)))
      refine g_tb (i := 22) ⟨hHB, (fun h => absurd h (by decide +kernel))⟩ ?_; apply Exists.intro; refine ⟨fun wq hq => ?_, ?_⟩; (focus ((try dsimp only at hq); go_simp; (first | done | with_reducible rfl | fail)))
      refine g_tb (i := 23) ⟨hHB, (fun h => absurd h (by decide +kernel))⟩ ?_; apply Exists.intro; refine ⟨fun wq hq => ?_, ?_⟩; (focus ((try dsimp only at hq); go_simp; (first | done | with_reducible rfl | fail)))
      refine g_tb (i := 24) ⟨hHB, (fun h => absurd h (by decide +kernel))⟩ ?_; apply Exists.intro; refine ⟨fun wq hq => ?_, ?_⟩; (focus ((try dsimp only at hq); go_simp; (first | done | with_reducible rfl | fail)))
      refine g_done (by kernel_rfl) ?_ _
      clear hHB x0 x1 x2 x3 d0 d1 d2 d3 f0 f1 f2 f3 g0 g1 g2 g3 j0 j1 j2 j3
      go_wp2
      go_ret2
      exact HP7.out
    · have hc := HSE.out.2 HBB.out
      have hr := HO.out
      rw [hc] at hr
      simp only at hr
      have C3 := IS.out w6 HB6.out semiS 2 (by decide)
      rw [HC4.out] at C3
      clear d0 d1 d2 d3 f0 f1 f2 f3
      (go_wp2_with fail; go_fit (C3); rintro e w7 ⟨rfl, b7⟩)
      have HB7 := Lib.hid (Ext.trans' HB6.out b7)
      have HX7 := Lib.hid (HX6.out.ext b7)
      have C4 := addRows_at (HA.out.later HB7.out) HM0.out hm63 (i64_of 3 (by omega) (by omega)) ((HU.out.stay (HA.out.2.1.stays (fun _ h => absurd h (by simp)))).stay (stays_bel HB7.out)) (by have := formed_len HF.out; omega)
        (fun z hz D' wq vx hD hx => by
          rw [HXY.out] at hz
          simp only [List.mem_cons, List.not_mem_nil, or_false] at hz
          rcases hz with rfl | rfl
          · exact addIH_row hM HIH.out (by have := HS.out; omega) HFX.out.1 D' wq vx hD hx
          · exact addIH_row hM HIH.out (by have := HS.out; omega) HFX.out.2 D' wq vx hD hx)
      rw [HXY.out, ofR_two, hr] at C4
      clear C3 b7 x0 x1 x2 x3 hc hr
      obtain ⟨x0, x1, x2, x3, _⟩ := HX7.out.four
      (go_wp2_with fail; go_fit (C4); rintro e w8 hP)
      obtain ⟨a8, m8, c8, b8, rfl, hg8, hP8⟩ := hP.shape
      have HP8 := Lib.hid (hP8.from HB7.out)
      clear C4 hP hP8 hg8 x0 x1 x2 x3
      go_wp2
      go_ret2
      exact HP8.out
  (go_wp2_with fail; go_fit (C1); rintro e w5 ⟨rfl, b5⟩)
  have HB5 := Lib.hid (Ext.trans' HB4.out b5)
  have HX5 := Lib.hid (HX4.out.ext b5)
  clear C1 b5 x0 x1 x2 x3
  obtain ⟨x0, x1, x2, x3, _⟩ := HX5.out.four
  have C1 := IS.out w5 HB5.out semiS 2 (by decide)
  rw [HC4.out] at C1
  (go_wp2_with fail; go_fit (C1); rintro e w6 ⟨rfl, b6⟩)
  have HB6 := Lib.hid (Ext.trans' HB5.out b6)
  have HX6 := Lib.hid (HX5.out.ext b6)
  clear C1 b6 x0 x1 x2 x3
  obtain ⟨x0, x1, x2, x3, _⟩ := HX6.out.four
  have C1 := IS.out w6 HB6.out arrowS 2 (by decide)
  obtain ⟨b6, hb6⟩ : ∃ b, isT t arrowS 2 = b := ⟨_, rfl⟩
  have HC6 := Lib.hid hb6
  rw [hb6] at C1
  clear hb6
  (go_wp2_with fail; go_fit (C1); rintro e w7 ⟨rfl, bb⟩)
  have HB7 := Lib.hid (Ext.trans' HB6.out bb)
  have HX7 := Lib.hid (HX6.out.ext bb)
  clear C1 bb x0 x1 x2 x3
  obtain ⟨x0, x1, x2, x3, _⟩ := HX7.out.four
  cases b6
  rotate_left
  · obtain ⟨x, y, hxy, hc⟩ := is_arrow HC6.out
    have hr := HO.out
    rw [hc] at hr
    simp only at hr
    have hu7 := HU.out
    rw [hxy] at hu7
    obtain rfl : m = 2 := by rw [← HK.out.2.2.2, hxy]; rfl
    obtain ⟨b, off, k1, n1, s1, a1, m1, c1, k2, n2, s2, a2, m2, c2, rfl, d0, d1, d2, d3, f0, f1, f2, f3, ht1, ht2, _⟩ := args_two hu7
    have hsz := size_args hxy
    rw [sizesN, sizesN, sizesN] at hsz
    have hp2 := size_pos x
    have hs_x : sizeN x ≤ M ∧ formedT x = true := ⟨by have := HSZ.out; omega, formed_args HF.out x (by rw [hxy]; simp)⟩
    have hs_y : sizeN y ≤ M ∧ formedT y = true := ⟨by have := HSZ.out; omega, formed_args HF.out y (by rw [hxy]; simp)⟩
    have hs_f : sizeN failT ≤ M ∧ formedT failT = true := ⟨by have : sizeN failT = 1 := rfl; have := HSZ.out; have := size_pos y; omega, failT_formed⟩
    have htf : TmV (hide D w7) failT (.agg #[.int .i64 2, .int .i64 0, .string failS, .slice none 0 0]) := leaf_tm _ (i64_of 2 (by omega) (by omega)) i64_0 (by unfold BIG; decide)
    have qx := tm_parts ht1
    have qy := tm_parts ht2
    have qf := tm_parts htf
    have hbl : b < W.heap.size := World.block_lt_of_cell? _ _ d0
    have HT := Lib.hid (fun (wq : World) (hq : Below w7.heap.size w7 wq) => by
      have hwq := Ext.trans' HB7.out hq
      have hst : Stays (hide D0 W) (hide D wq) := (HA.out.2.1.stays (fun _ h => absurd h (by simp))).trans (stays_bel hwq)
      have h := addRows_use hM HIH.out HA.out HM0.out hm63 (kind := 4) (by omega) (by omega) [(x, Value.slice a1 m1 c1), (y, Value.slice a2 m2 c2), (failT, Value.slice none 0 0)] (by simp)
        (fun r hr => by
          simp only [List.mem_cons, List.not_mem_nil, or_false] at hr
          rcases hr with rfl | rfl | rfl
          all_goals (first | exact hs_x | exact hs_y | exact hs_f)) wq hwq
        (fun r hr => by
          simp only [List.mem_cons, List.not_mem_nil, or_false] at hr
          rcases hr with rfl | rfl | rfl
          all_goals (first | (rw [qx.2]; exact TmV.stay hst _ _ ht1) | (rw [qy.2]; exact TmV.stay hst _ _ ht2) | (rw [qf.2]; exact TmV.stay (stays_bel hq) _ _ htf)))
        31 #[.int .i64 k1, .int .i64 n1, .string s1, .slice a1 m1 c1, .int .i64 k2, .int .i64 n2, .string s2, .slice a2 m2 c2, .int .i64 2, .int .i64 0, .string failS, .slice none 0 0] (by simp only [List.flatMap_cons, List.flatMap_nil, List.append_nil, qx.1, qy.1, qf.1]; rfl)
      simp only [List.map_cons, List.map_nil, ofR_three] at h
      rw [hr] at h
      exact h)
    have HW7 := Lib.hid (Ext.trans' HBW.out HB7.out)
    replace d0 := cell_later HW7.out d0
    replace d1 := cell_later HW7.out d1
    replace d2 := cell_later HW7.out d2
    replace d3 := cell_later HW7.out d3
    replace f0 := cell_later HW7.out f0
    replace f1 := cell_later HW7.out f1
    replace f2 := cell_later HW7.out f2
    replace f3 := cell_later HW7.out f3
    have HNE := Lib.hid (show (Value.slice a0 m0 c0).ownBlock ≠ some w.heap.size ∧ (Value.slice a0 m0 c0).ownBlock ≠ some b from
      ⟨fun e => by have := (HOB.out _ e).2; omega, fun e => by have := (HOB.out _ e).1; omega⟩)
    clear hu7 ht1 ht2 hxy hc hr hsz hs_x hs_y hs_f htf qx qy qf hp2 hbl
    go_wp2_with fail
    refine g_begin (B := fun w' => w'.cell? ⟨w.heap.size, 3, none⟩ = some (.slice (some ⟨b, off, none⟩) 2 c) ∧ w'.cell? ⟨b, off, none⟩ = some (.int .i64 k1) ∧ w'.cell? ⟨b, off + 1, none⟩ = some (.int .i64 n1) ∧ w'.cell? ⟨b, off + 2, none⟩ = some (.string s1) ∧ w'.cell? ⟨b, off + 3, none⟩ = some (.slice a1 m1 c1) ∧ w'.cell? ⟨b, off + 4, none⟩ = some (.int .i64 k2) ∧ w'.cell? ⟨b, off + 4 + 1, none⟩ = some (.int .i64 n2) ∧ w'.cell? ⟨b, off + 4 + 2, none⟩ = some (.string s2) ∧ w'.cell? ⟨b, off + 4 + 3, none⟩ = some (.slice a2 m2 c2)) (C := fun w' => Below w7.heap.size w7 w') 11 (by kernel_rfl) ⟨x3, d0, d1, d2, d3, f0, f1, f2, f3⟩ ((Below.refl _ _).drew) (fun hHB hHC => ?_)
    refine g_tb (i := 0) ⟨hHB, fun _ => hHC⟩ ?_; apply Exists.intro; refine ⟨fun wq hq => ?_, ?_⟩; (focus ((try dsimp only at hq); go_simp; (first | done | with_reducible rfl | fail)))
    refine g_tb (i := 1) ⟨hHB, fun _ => hHC⟩ ?_; apply Exists.intro; refine ⟨fun wq hq => ?_, ?_⟩; (focus ((try dsimp only at hq); go_simp; (first | done | with_reducible rfl | fail)))
    refine g_tb (i := 2) ⟨hHB, fun _ => hHC⟩ ?_; apply Exists.intro; refine ⟨fun wq hq => ?_, ?_⟩; (focus ((try dsimp only at hq); go_simp; (first | done | with_reducible rfl | fail)))
    refine g_tb (i := 3) ⟨hHB, fun _ => hHC⟩ ?_; apply Exists.intro; refine ⟨fun wq hq => ?_, ?_⟩; (focus ((try dsimp only at hq); go_simp; (first | done | with_reducible rfl | fail)))
    refine g_tb (i := 4) ⟨hHB, fun _ => hHC⟩ ?_; apply Exists.intro; refine ⟨fun wq hq => ?_, ?_⟩; (focus ((try dsimp only at hq); go_simp; (first | done | with_reducible rfl | fail)))
    refine g_tb (i := 5) ⟨hHB, fun _ => hHC⟩ ?_; apply Exists.intro; refine ⟨fun wq hq => ?_, ?_⟩; (focus ((try dsimp only at hq); go_simp; (first | done | with_reducible rfl | fail)))
    refine g_tb (i := 6) ⟨hHB, fun _ => hHC⟩ ?_; apply Exists.intro; refine ⟨fun wq hq => ?_, ?_⟩; (focus ((try dsimp only at hq); go_simp; (first | done | with_reducible rfl | fail)))
    refine g_tb (i := 7) ⟨hHB, fun _ => hHC⟩ ?_; apply Exists.intro; refine ⟨fun wq hq => ?_, ?_⟩; (focus ((try dsimp only at hq); go_simp; (first | done | with_reducible rfl | fail)))
    refine g_tb (i := 8) ⟨hHB, fun _ => hHC⟩ ?_; apply Exists.intro; refine ⟨fun wq hq => ?_, ?_⟩; (focus ((try dsimp only at hq); go_simp; (first | done | with_reducible rfl | fail)))
    try simp only [Act.put, List.setIfInBounds_toArray, List.set_cons_zero, List.set_cons_succ]
    refine g_ready (rs := [9]) (by kernel_rfl) (by simp) ?_
    refine AllReadyG.cons (by simp only [List.getElem?_toArray, List.getElem?_cons_zero, List.getElem?_cons_succ]; rfl) (fun K hK => ?_) AllReadyG.nil
    go_simp
    (go_at_call 13; refine (atom_at _ _).mono ?_; rintro e w8 ⟨rfl, h8⟩)
    refine hK.out _ _ ⟨⟨cell_later h8 hHB.1, cell_later h8 hHB.2.1, cell_later h8 hHB.2.2.1, cell_later h8 hHB.2.2.2.1, cell_later h8 hHB.2.2.2.2.1, cell_later h8 hHB.2.2.2.2.2.1, cell_later h8 hHB.2.2.2.2.2.2.1, cell_later h8 hHB.2.2.2.2.2.2.2.1, cell_later h8 hHB.2.2.2.2.2.2.2.2⟩, fun _ => Ext.trans' hHC h8⟩ (fun hHeld => ?_)
    replace hHB := hHeld.1
    replace hHC := hHeld.2 (by kernel_rfl)
    dsimp only at hHB hHC
    clear hHeld hK K
    try simp only [Act.put, List.setIfInBounds_toArray, List.set_cons_zero, List.set_cons_succ]
    try simp only [Act.put, List.setIfInBounds_toArray, List.set_cons_zero, List.set_cons_succ]
    refine g_ready (rs := [10]) (by kernel_rfl) (by simp) ?_
    refine AllReadyG.cons (by simp only [List.getElem?_toArray, List.getElem?_cons_zero, List.getElem?_cons_succ]; rfl) (fun K hK => ?_) AllReadyG.nil
    go_simp
    have HBQ := Lib.hid hHC
    refine hK.out _ _ ⟨⟨cell_later (bel1' _ _) hHB.1, cell_later (bel1' _ _) hHB.2.1, cell_later (bel1' _ _) hHB.2.2.1, cell_later (bel1' _ _) hHB.2.2.2.1, cell_later (bel1' _ _) hHB.2.2.2.2.1, cell_later (bel1' _ _) hHB.2.2.2.2.2.1, cell_later (bel1' _ _) hHB.2.2.2.2.2.2.1, cell_later (bel1' _ _) hHB.2.2.2.2.2.2.2.1, cell_later (bel1' _ _) hHB.2.2.2.2.2.2.2.2⟩, fun _ => Ext.trans' hHC (bel1' _ _)⟩ (fun hHeld => ?_)
    replace hHB := hHeld.1
    replace hHC := hHeld.2 (by kernel_rfl)
    dsimp only at hHB hHC
    clear hHeld hK K
    try simp only [Act.put, List.setIfInBounds_toArray, List.set_cons_zero, List.set_cons_succ]
    try simp only [Act.put, List.setIfInBounds_toArray, List.set_cons_zero, List.set_cons_succ]
    refine g_ready (rs := [11]) (by kernel_rfl) (by simp) ?_
    refine AllReadyG.cons (by simp only [List.getElem?_toArray, List.getElem?_cons_zero, List.getElem?_cons_succ]; rfl) (fun K hK => ?_) AllReadyG.nil
    go_simp
    (go_at_call 43; refine (HT.out _ HBQ.out).mono ?_; rintro e w7 hP; obtain ⟨a7, m7, c7, b7, rfl, hgx, hP7⟩ := hP.shape; have HP7 := Lib.hid (hP7.from (Ext.trans' HB7.out (Ext.trans' HBQ.out (bel1' _ _)))); clear hP hP7)
    refine hK.out _ _ ⟨⟨hgx.cell hHB.1 (fun e => HNE.out.1 e.symm), hgx.cell hHB.2.1 (fun e => HNE.out.2 e.symm), hgx.cell hHB.2.2.1 (fun e => HNE.out.2 e.symm), hgx.cell hHB.2.2.2.1 (fun e => HNE.out.2 e.symm), hgx.cell hHB.2.2.2.2.1 (fun e => HNE.out.2 e.symm), hgx.cell hHB.2.2.2.2.2.1 (fun e => HNE.out.2 e.symm), hgx.cell hHB.2.2.2.2.2.2.1 (fun e => HNE.out.2 e.symm), hgx.cell hHB.2.2.2.2.2.2.2.1 (fun e => HNE.out.2 e.symm), hgx.cell hHB.2.2.2.2.2.2.2.2 (fun e => HNE.out.2 e.symm)⟩, (fun h => absurd h (by decide +kernel))⟩ (fun hHeld => ?_)
    replace hHB := hHeld.1
    dsimp only at hHB
    clear hHeld hK K
    try simp only [Act.put, List.setIfInBounds_toArray, List.set_cons_zero, List.set_cons_succ]
    refine g_tb (i := 12) ⟨hHB, (fun h => absurd h (by decide +kernel))⟩ ?_; apply Exists.intro; refine ⟨fun wq hq => ?_, ?_⟩; (focus ((try dsimp only at hq); go_simp; (first | done | with_reducible rfl | fail)))
    refine g_tb (i := 13) ⟨hHB, (fun h => absurd h (by decide +kernel))⟩ ?_; apply Exists.intro; refine ⟨fun wq hq => ?_, ?_⟩; (focus ((try dsimp only at hq); go_simp; (first | done | with_reducible rfl | fail)))
    refine g_tb (i := 14) ⟨hHB, (fun h => absurd h (by decide +kernel))⟩ ?_; apply Exists.intro; refine ⟨fun wq hq => ?_, ?_⟩; (focus ((try dsimp only at hq); go_simp; (first | done | with_reducible rfl | fail)))
    refine g_tb (i := 15) ⟨hHB, (fun h => absurd h (by decide +kernel))⟩ ?_; apply Exists.intro; refine ⟨fun wq hq => ?_, ?_⟩; (focus ((try dsimp only at hq); go_simp; (first | done | with_reducible rfl | fail)))
    refine g_done (by kernel_rfl) ?_ _
    clear hHB x0 x1 x2 x3 d0 d1 d2 d3 f0 f1 f2 f3
    go_wp2
    go_ret2
    exact HP7.out
  have C1 := IS.out w7 HB7.out negS 1 (by decide)
  obtain ⟨b7, hb7⟩ : ∃ b, isT t negS 1 = b := ⟨_, rfl⟩
  have HC7 := Lib.hid hb7
  rw [hb7] at C1
  clear hb7
  (go_wp2_with fail; go_fit (C1); rintro e w8 ⟨rfl, bb⟩)
  have HB8 := Lib.hid (Ext.trans' HB7.out bb)
  have HX8 := Lib.hid (HX7.out.ext bb)
  clear C1 bb x0 x1 x2 x3
  obtain ⟨x0, x1, x2, x3, _⟩ := HX8.out.four
  cases b7
  rotate_left
  · obtain ⟨x, hxy, hc⟩ := is_neg HC7.out
    have hr := HO.out
    rw [hc] at hr
    simp only at hr
    have hsz := size_args hxy
    rw [sizesN, sizesN] at hsz
    have C4 := addRows_at (HA.out.later HB8.out) HM0.out hm63 (i64_of 5 (by omega) (by omega)) ((HU.out.stay (HA.out.2.1.stays (fun _ h => absurd h (by simp)))).stay (stays_bel HB8.out)) (by have := formed_len HF.out; omega)
      (fun z hz D' wq vx hD hx => by
        rw [hxy] at hz
        simp only [List.mem_cons, List.not_mem_nil, or_false] at hz
        subst hz
        exact addIH_row hM HIH.out (by have := HSZ.out; omega) (formed_args HF.out z (by rw [hxy]; simp)) D' wq vx hD hx)
    rw [hxy, ofR_one, hr] at C4
    clear hxy hc hr hsz
    (go_wp2_with fail; go_fit (C4); rintro e w9 hP)
    obtain ⟨a9, m9, c9, b9, rfl, hg9, hP9⟩ := hP.shape
    have HP9 := Lib.hid (hP9.from HB8.out)
    clear C4 hP hP9 hg9 x0 x1 x2 x3
    go_wp2
    go_ret2
    exact HP9.out
  have hc := is_call (by rw [HK.out.1]; exact HG.out.1) (by rw [HK.out.1]; exact HG.out.2) HC3.out HC1.out HC2.out HC4.out HC6.out HC7.out
  have hr := HO.out
  rw [hc] at hr
  simp only at hr
  have hp : pVal (t, .slice a m c) = .agg #[.int .i64 k, .int .i64 n, .string s, .slice a m c] := by unfold pVal; rw [HK.out.1, HK.out.2.1, HK.out.2.2.1]
  have hgc : glCells ⟨callG t, .slice a m c, .slice none 0 0⟩ = [.int .i64 1, .int .i64 k, .int .i64 n, .string s, .slice a m c, .slice none 0 0] := by
    show [Value.int .i64 1, .int .i64 t.k, .int .i64 t.n, .string t.s, .slice a m c, .slice none 0 0] = _
    rw [HK.out.1, HK.out.2.1, HK.out.2.2.1]
  have hb9 : Below w.heap.size w (w8.alloc (.cells #[Value.int .i64 1, .int .i64 k, .int .i64 n, .string s, .slice a m c, .slice none 0 0] 35)) := Ext.trans' HB8.out (bel1' w8 _)
  have hgk : gkOk (hide D (w8.alloc (.cells #[Value.int .i64 1, .int .i64 k, .int .i64 n, .string s, .slice a m c, .slice none 0 0] 35))) ⟨callG t, .slice a m c, .slice none 0 0⟩ := ⟨glC_iff.2 ⟨i64_of 1 (by omega) (by omega), by rw [show (callG t).t = t from rfl, hp]; exact TmV.stay (stays_bel (Ext.trans' HB8.out (bel1' w8 _))) _ _ (HA.out.tm HTM.out), RowsV.nil _⟩, skG_iff.2 (SkW.nil _)⟩
  have HROW := Lib.hid (HPUSH.out _ hb9)
  have HONE := Lib.hid (show ∀ u ∈ [Value.int .i64 1, .int .i64 k, .int .i64 n, .string s, .slice a m c, .slice none 0 0], u.oneCell' = true from fun u hu => by
    simp only [List.mem_cons, List.not_mem_nil, or_false] at hu
    rcases hu with rfl | rfl | rfl | rfl | rfl | rfl <;> rfl)
  have HEND := Lib.hid (fun (a7 : Option Addr) (c7 : Nat) (w7 : World) (hown : w7.ownsRow W.heap.size 35 6 (.slice a7 (m0 + 1) c7) (m0 + 1) (ps0.flatMap glCells ++ [Value.int .i64 1, .int .i64 k, .int .i64 n, .string s, .slice a m c, .slice none 0 0]))
      (hg : (w8.alloc (.cells #[Value.int .i64 1, .int .i64 k, .int .i64 n, .string s, .slice a m c, .slice none 0 0] 35)).grownBy w7 (Value.slice a0 m0 c0).ownBlock)
      (hat : (Value.slice a7 (m0 + 1) c7).ownBlock = (Value.slice a0 m0 c0).ownBlock ∨ (Value.slice a7 (m0 + 1) c7).ownBlock = some (w8.alloc (.cells #[Value.int .i64 1, .int .i64 k, .int .i64 n, .string s, .slice a m c, .slice none 0 0] 35)).heap.size) =>
    addP_push (p := ⟨callG t, .slice a m c, .slice none 0 0⟩) HA.out HM0.out hb9 hgk hg hat (show w7.ownsRow W.heap.size 35 6 (.slice a7 (m0 + 1) c7) (m0 + 1) (ps0.flatMap glCells ++ glCells ⟨callG t, .slice a m c, .slice none 0 0⟩) by rw [hgc]; exact hown))
  clear hb9 hgk hc hp hgc
  go_wp2_with (at_builtin; refine wpList_append_k rfl _ _ 25 rfl W.heap.size 35 i1 (.agg #[.int .i64 0, .int .i64 0, .int .i64 0, .string ⟨#[]⟩, .slice none 0 0, .slice none 0 0]) 6 88 Tryz.underlying25 hi1 hz1 hs1 (by decide) hb1 rfl (.slice a0 m0 c0) m0 (ps0.flatMap glCells) rfl HROW.out.1 (some ⟨w8.heap.size, 0, none⟩) 1 1 [Value.int .i64 1, .int .i64 k, .int .i64 n, .string s, .slice a m c, .slice none 0 0] rfl rfl (Or.inr ⟨_, rfl, fun jj u hu => cell_new w8 #[Value.int .i64 1, .int .i64 k, .int .i64 n, .string s, .slice a m c, .slice none 0 0] _ jj u hu⟩) HONE.out (by unfold maxLen; omega) (by omega) HROW.out.2 (m0 + 1) _ rfl rfl ?_; intro a7 c7 w7 hown7 hgrow7 hat7; have HN7 := Lib.hid (HEND.out a7 c7 w7 hown7 hgrow7 hat7); clear hown7 hgrow7 hat7)
  go_ret2
  rw [← hr]
  exact HN7.out
theorem gadd_at : ∀ (M : Nat), M ≤ 200000 → AddIH M
  | 0, _ => fun x hx => by have := size_pos x; omega
  | M + 1, hM => fun x hx hf W D0 D w a0 m0 c0 ps0 v hA hm0 hroom hv => gadd_step M (by omega) (gadd_at M (by omega)) x hx hf hA hm0 hroom hv
end Go.Proofs.YtaojalicnnnkmaaGreatDoor
/- The document's side of chapter 14: Of. -/
namespace Go.Proofs.YtaojalicnnnkmaaGreatDoor
open Go.RowKit
set_option linter.unusedVariables false

theorem ofE_erO {t : Tm} (hg : goodT t = true) : (ofE t).2 = erO (ofB t) ∧ (ofE t).1 = (ofB t).getD [] := by
  unfold ofE
  rw [if_pos hg]
  cases ofB t <;> exact ⟨rfl, rfl⟩
end Go.Proofs.YtaojalicnnnkmaaGreatDoor
/- Package body: Of, reserved, headError. -/
namespace Go.Proofs.YtaojalicnnnkmaaGreatDoor
open Go.RowKit
set_option linter.unusedVariables false

/-- What Of answers. -/
def OfKE (w : World) (t : Tm) (e : Ending) (w' : World) : Prop := ∃ r, e = .returned (.tuple #[r, .int .i64 (ofE t).2]) ∧ GoalsK w' (ofE t).1 r ∧ Below w.heap.size w w'
theorem gadd_bare {t : Tm} (hg : goodT t = true) (w : World) (v : Value) (hv : TmV w t v) : Calls Tryz.prog 27 #[.slice none 0 0, v] w fun e w' => Below w.heap.size w w' ∧ match ofB t with
    | none => e = .returned (.tuple #[.slice none 0 0, .bool false])
    | some qs => ∃ (a : Option Addr) (c : Nat), e = .returned (.tuple #[.slice a qs.length c, .bool true]) ∧ GoalsK w' qs (.slice a qs.length c) := by
  obtain ⟨h1, _, h3⟩ := good_parts hg
  have h := addIH_row (M := 2000) (by omega) (gadd_at 2000 (by omega)) h1 h3 (fun _ => false) w v (fun _ _ => rfl) (by rw [hide_none]; exact hv)
  refine h.mono ?_
  rintro e w' ⟨hb, h⟩
  refine ⟨hb, ?_⟩
  revert h
  cases ofB t with
  | none => exact fun h => h
  | some qs =>
    intro h
    obtain ⟨a, c, h1, h2⟩ := h
    rw [hide_none] at h2
    exact ⟨a, c, h1, h2⟩
set_option maxHeartbeats 4000000 in
theorem bOf_at (t : Tm) (w : World) (v : Value) (hv : TmV w t v) : Calls Tryz.prog 8 #[v] w (OfKE w t) := by
  obtain ⟨k, n, s, a, m, c, rfl, -, -, -, -⟩ := four_of hv
  obtain ⟨w1, e1, B1, z1, X1⟩ := box_new w #[.int .i64 k, .int .i64 n, .string s, .slice a m c] 31
  have HE := Lib.hid e1
  obtain ⟨x0, x1, x2, x3, _⟩ := X1.four
  have HX := Lib.hid X1
  have HB1 := Lib.hid B1
  have C1 := Good_at t w1 _ (TmV.ext B1 _ _ hv)
  have HV := Lib.hid hv
  clear e1 B1 z1 X1 hv
  cases hg : goodT t
  · have hr : ofE t = ([], 1) := by unfold ofE; rw [hg]; rfl
    have HR := Lib.hid hr
    rw [hg] at C1
    clear hr hg
    go_enter Tryz.func8, Tryz.ntmps8
    go_upto_region 1 with fail
    (try rw [HE.out])
    (go_wp2_with fail; go_fit (C1); rintro e w2 ⟨rfl, b2⟩)
    have HB2 := Lib.hid (Ext.trans' HB1.out b2)
    clear C1 b2 x0 x1 x2 x3
    go_wp2
    go_ret2
    unfold OfKE
    rw [HR.out]
    exact ⟨_, rfl, GoalsK.nil _, HB2.out⟩
  · have HG := Lib.hid hg
    rw [hg] at C1
    have HO := Lib.hid (ofE_erO hg)
    clear hg
    go_enter Tryz.func8, Tryz.ntmps8
    go_upto_region 1 with fail
    (try rw [HE.out])
    (go_wp2_with fail; go_fit (C1); rintro e w2 ⟨rfl, b2⟩)
    have HB2 := Lib.hid (Ext.trans' HB1.out b2)
    obtain ⟨y0, y1, y2, y3, _⟩ := (HX.out.ext b2).four
    have C2 := gadd_bare HG.out w2 _ (TmV.ext HB2.out _ _ HV.out)
    clear C1 b2 x0 x1 x2 x3
    cases ho : ofB t with
    | none =>
      rw [ho] at C2 HO
      (go_wp2_with fail; go_fit (C2); rintro e w3 ⟨b3, rfl⟩)
      have HB3 := Lib.hid (Ext.trans' HB2.out b3)
      clear C2 b3 y0 y1 y2 y3 ho
      go_wp2
      go_ret2
      unfold OfKE
      rw [HO.out.1, HO.out.2]
      exact ⟨_, rfl, GoalsK.nil _, HB3.out⟩
    | some qs =>
      rw [ho] at C2 HO
      (go_wp2_with fail; go_fit (C2); rintro e w3 ⟨b3, a3, c3, rfl, h3⟩)
      have HB3 := Lib.hid (And.intro (Ext.trans' HB2.out b3) h3)
      clear C2 b3 h3 y0 y1 y2 y3 ho
      go_wp2
      go_ret2
      unfold OfKE
      rw [HO.out.1, HO.out.2]
      exact ⟨_, rfl, HB3.out.2, HB3.out.1⟩
end Go.Proofs.YtaojalicnnnkmaaGreatDoor
