import Derived.Test.YtaojalicnnnkmaaGreatDoorHyyar
import Derived.Test.YtaojalicnnnkmaaGreatDoorHyyan
import Derived.Test.YtaojalicnnnkmaaGreatDoorHyyag
import Derived.Deep.RegionHeld3
import Derived.Deep.Quiet
import Derived.Test.YtaojalicnnnkmaaGreatDoorHyyac
import Derived.Test.YtaojalicnnnkmaaGreatDoorHyyaq
set_option linter.unusedVariables false
set_option linter.unusedSimpArgs false
/- Package body: Cuts, walked. -/
namespace Go.Proofs.YtaojalicnnnkmaaGreatDoor
open Go.RowKit
set_option linter.unusedVariables false

/-- Those rows whose cuts are the clause's. -/
def openG (g : Gl) : List (List Gl) := if g.kind = 5 then [] else if g.kind = 4 then g.l.drop 1 else g.l
theorem cut_open (g : Gl) : cutG g = (g.kind == 2 || cutR (openG g)) := by
  rw [cutG_eq]
  unfold openG
  by_cases h5 : g.kind = 5
  · rw [if_pos h5, h5]
    simp [cutR]
  · rw [if_neg h5]
    have : (g.kind == 5) = false := beq_false_of_ne h5
    rw [this]
    by_cases h4 : g.kind = 4
    · rw [if_pos h4, if_pos h4]; rfl
    · rw [if_neg h4, if_neg h4]; rfl
theorem open_mem {g : Gl} {r : List Gl} (h : r ∈ openG g) : r ∈ g.l := by
  unfold openG at h
  split at h
  · cases h
  · split at h
    · exact List.mem_of_mem_drop h
    · exact h
/-- All but the first. -/
theorem RowsK.tail {w : World} {ls : List (List Gl)} {a : Option Addr} {m c : Nat} (h : RowsK w ls (.slice a m c)) (hm : 0 < m) : ∃ b off, a = some ⟨b, off, none⟩ ∧ m ≤ c ∧ c ≤ maxLen ∧ RowsK w (ls.drop 1) (.slice (some ⟨b, off + 1, none⟩) (m - 1) (c - 1)) := by
  obtain ⟨⟨a1, c1, e, h1, h2, h3, h4⟩, ⟨a2, c2, e', g⟩⟩ := h
  injection e with e1 e2 e3
  injection e' with e1' e2' e3'
  subst e1
  subst e3
  subst e1'
  have hne : ls ≠ [] := fun e => by rw [e] at e2; simp at e2; omega
  obtain ⟨b, off, rfl, hb, hr⟩ := h4.resolve_left hne
  obtain ⟨b', off', e4, gr⟩ := g.resolve_left hne
  cases e4
  obtain ⟨x, r, rfl⟩ := List.exists_cons_of_ne_nil hne
  have hl : r.length = m - 1 := by rw [e2]; simp
  refine ⟨b, off, rfl, by rw [e2]; exact h1, h2, ⟨_, c - 1, ?_, ?_, by omega, ?_, Or.inr ⟨b, off + 1, rfl, hb, (rsRow_cons.1 hr).2⟩⟩, ⟨_, c - 1, ?_, Or.inr ⟨b, off + 1, rfl, (skR_cons.1 gr).2⟩⟩⟩
  · show Value.slice _ _ _ = .slice _ r.length _
    rw [hl]
  · show r.length ≤ _
    rw [hl]; rw [← e2] at h1; omega
  · show r.length * 24 ≤ BIG
    rw [List.length_cons] at h3; omega
  · show Value.slice _ _ _ = .slice _ r.length _
    rw [hl]
set_option maxHeartbeats 4000000 in
theorem bopen_at {W : World} {g : Gl} {w : World} {k : Int} {kt nt : Int} {st : ByteArray} {at_ : Option Addr} {mt ct : Nat} {ar : Option Addr} {mr cr : Nat} (hk : g.kind = k) (hv : RowsK W g.l (.slice ar mr cr)) :
    Calls Tryz.prog 51 #[.agg #[.int .i64 k, .int .i64 kt, .int .i64 nt, .string st, .slice at_ mt ct, .slice ar mr cr]] w fun e w' => ∃ a m c, e = .returned (.slice a m c) ∧ RowsK W (openG g) (.slice a m c) ∧ Below w.heap.size w w' := by
  obtain ⟨w1, e1, B1, z1, X1⟩ := box_new w #[.int .i64 k, .int .i64 kt, .int .i64 nt, .string st, .slice at_ mt ct, .slice ar mr cr] 35
  have HB := Lib.hid (bel1' w (.cells #[.int .i64 k, .int .i64 kt, .int .i64 nt, .string st, .slice at_ mt ct, .slice ar mr cr] 35))
  have x0 := X1.cells 0 _ rfl
  have x5 := X1.cells 5 _ rfl
  have HV := Lib.hid hv
  obtain ⟨ro, hro⟩ : ∃ ro, openG g = ro := ⟨_, rfl⟩
  rw [hro]
  have HO := Lib.hid hro
  have hmr : mr = g.l.length := by obtain ⟨_, _, e, _⟩ := hv.1.len; cases e; rfl
  have hbd : mr ≤ cr ∧ cr ≤ 9223372036854775807 := by obtain ⟨_, _, e, h5, h6, _⟩ := hv.1.len; cases e; unfold maxLen at h6; omega
  by_cases h5 : k = 5
  · subst h5
    have hr : ro = [] := by rw [← HO.out]; unfold openG; rw [if_pos hk]
    subst hr
    clear hv e1 B1 z1 X1 hro hk hmr
    go_enter Tryz.func51, Tryz.ntmps51
    go_wp2
    go_ret
    exact ⟨_, _, _, rfl, ⟨RowsV.nil _, SkW.nil _⟩, HB.out⟩
  · have h5b : (k == 5) = false := beq_false_of_ne h5
    by_cases h4 : k = 4
    · subst h4
      have hr : ro = g.l.drop 1 := by rw [← HO.out]; unfold openG; rw [if_neg (by rw [hk]; exact h5), if_pos hk]
      by_cases hm : mr = 0
      · have hr2 : ro = [] := by rw [hr, List.length_eq_zero_iff.1 (hmr.symm.trans hm)]; rfl
        have HRT := Lib.hid (show RowsK W ro (.slice ar mr cr) by
          rw [hr2]; have := HV.out; rw [List.length_eq_zero_iff.1 (hmr.symm.trans hm)] at this; exact this)
        subst hm
        clear hv e1 B1 z1 X1 hro hk hmr hr hr2
        go_enter Tryz.func51, Tryz.ntmps51
        go_wp2
        go_ret
        exact ⟨_, _, _, rfl, HRT.out, HB.out⟩
      · obtain ⟨b, off, rfl, q1, q2, htl⟩ := HV.out.tail (by omega)
        rw [← hr] at htl
        have HTL := Lib.hid htl
        have hm1 : (0 : Int) < mr := by omega
        have hm2 : (1 : Int) ≤ mr := by omega
        by_cases hc1 : cr = 1
        · subst hc1
          obtain rfl : mr = 1 := by omega
          have HNIL := Lib.hid (show RowsK W ro (.slice (some ⟨b, off, none⟩) 0 0) by
            have h1 := HTL.out.1.len
            obtain ⟨_, _, e, _⟩ := h1
            have : ro = [] := by injection e with _ e2 _; exact List.length_eq_zero_iff.1 e2.symm
            rw [this]
            exact ⟨⟨_, 0, rfl, Nat.le_refl _, Nat.zero_le _, by simp, Or.inl rfl⟩, ⟨_, 0, rfl, Or.inl rfl⟩⟩)
          clear hv e1 B1 z1 X1 hro hk hmr hr htl hm HTL
          go_enter Tryz.func51, Tryz.ntmps51
          go_wp2
          go_ret
          exact ⟨_, _, _, rfl, HNIL.out, HB.out⟩
        · have hc2 : (cr - 1 == 0) = false := by apply beq_false_of_ne; omega
          have hc3 : ¬ cr - 1 = 0 := by omega
          clear hv e1 B1 z1 X1 hro hk hmr hr htl hm
          go_enter Tryz.func51, Tryz.ntmps51
          go_wp2
          go_ret
          exact ⟨_, _, _, rfl, HTL.out, HB.out⟩
    · have h4b : (k == 4) = false := beq_false_of_ne h4
      have hr : ro = g.l := by rw [← HO.out]; unfold openG; rw [if_neg (by rw [hk]; exact h5), if_neg (by rw [hk]; exact h4)]
      subst hr
      clear hv e1 B1 z1 X1 hro hk hmr h5 h4
      go_enter Tryz.func51, Tryz.ntmps51
      go_wp2
      go_ret
      exact ⟨_, _, _, rfl, HV.out, HB.out⟩
/-- No cut so far, or one. -/
def CuP (W w : World) (mb : Nat) (L : List (Key × Value)) (r : Bool) (e : Ending) (w' : World) : Prop := e = .returned (.bool r) ∧ w.grownBy w' (some mb) ∧ (r = false → ∃ L', KMap w' mb L' ∧ After (RightU W) L L')
/-- A row in which there is no cut is gone through. -/
theorem After.stop {R : Key → Value → Prop} {L L1 L2 : List (Key × Value)} {k : Key} {v : Value} (h1 : ∀ k', lookK k' L1 = if k' = k then some v else lookK k' L) (h2 : After R L1 L2) (hr : R k v) : After R L L2 := fun k' d hk => by
  rcases h2 k' d hk with g | g
  · rw [h1] at g
    by_cases e : k' = k
    · rw [if_pos e] at g
      injection g with g
      rw [e, ← g]
      exact Or.inr hr
    · rw [if_neg e] at g
      exact Or.inl g
  · exact Or.inr g
def URow (W : World) (mb : Nat) (r : List Gl) : Prop := ∀ (v : Value) (w : World) (L : List (Key × Value)), GoalsV W r v → SkV W r v → Below W.heap.size W w → KMap w mb L → AllU L → Notes (RightU W) W L (cntL r) → Calls Tryz.prog 34 #[.map (some mb), v] w (CuP W w mb L (cutL r))
/-- The first row with a cut, or -1. -/
def IxP (W w : World) (mb : Nat) (L : List (Key × Value)) (c : Bool) (e : Ending) (w' : World) : Prop := ∃ z : Int, e = .returned (.int .i64 z) ∧ -1 ≤ z ∧ z ≤ 9223372036854775807 ∧ (decide (0 ≤ z) = c) ∧ w.grownBy w' (some mb) ∧ (c = false → ∃ L', KMap w' mb L' ∧ After (RightU W) L L')
set_option maxHeartbeats 8000000 in
theorem uidx_at {W : World} {mb : Nat} (hmb : W.heap.size ≤ mb) (ls : List (List Gl)) (IH : ∀ r ∈ ls, URow W mb r) {a : Option Addr} {m c : Nat} (w : World) (L : List (Key × Value)) (hv : RowsK W ls (.slice a m c)) (hb : Below W.heap.size W w) (hk : KMap w mb L) (hu : AllU L) (hn : ∀ r ∈ ls, ∀ L3, After (RightU W) L L3 → Notes (RightU W) W L3 (cntL r)) :
    Calls Tryz.prog 68 #[.slice a m c, .func (.func 34) #[.map (some mb)] #[]] w (IxP W w mb L (cutR ls)) := by
  obtain ⟨_, _, e0, h1, h2, h3⟩ := hv.1.len
  have hml : m = ls.length := by cases e0; rfl
  cases e0
  unfold maxLen at h2
  obtain ⟨m, hm⟩ : ∃ m, ls.length = m := ⟨_, rfl⟩
  have HM := Lib.hid hm
  have HV := Lib.hid hv
  rw [hm] at h1 h3 HV ⊢
  obtain ⟨T, hT⟩ : ∃ T, cutR ls = T := ⟨_, rfl⟩
  have HT := Lib.hid hT
  rw [hT]
  have HB := Lib.hid hb
  have HK := Lib.hid hk
  have HU := Lib.hid hu
  have HN := Lib.hid hn
  have HIH := Lib.hid IH
  clear hv hm hT hb hk hu hn IH hml
  go_enter Tryz.func68, Tryz.ntmps68
  go_wp2_with fail
  go_loopw [8] (fun i wr => ∃ (j : Nat) (L2 : List (Key × Value)), j ≤ m ∧ i = .int .i64 j ∧ Hid (cutR (ls.drop j) = T) ∧ Hid (w.grownBy wr (some mb)) ∧ Hid (KMap wr mb L2 ∧ After (RightU W) L L2)) (fun i _ => m - (intOf i).toNat)
  case atStart => exact ⟨0, L, Nat.zero_le _, rfl, Lib.hid (by rw [List.drop_zero]; exact HT.out), Lib.hid (grown_bel (Below.refl _ _)), Lib.hid ⟨HK.out, After.refl _ _⟩⟩
  case round =>
    obtain ⟨j, L2, hj, rfl, HZ, HG, HL2⟩ := hrel
    have HBR := Lib.hid (grown_base hmb HB.out HG.out)
    by_cases hjm : j < m
    · obtain ⟨r, hr⟩ : ∃ r, ls[j]? = some r := ⟨_, List.getElem?_eq_getElem (by rw [HM.out]; exact hjm)⟩
      have hjm2 : (j : Int) < m := by omega
      obtain ⟨b, off, a2, c2, e, _, f0, hgv⟩ := HV.out.1.get hr
      have hsv := HV.out.2.row hr e f0
      cases e
      have C := HIH.out r (List.mem_of_getElem? hr) _ wr L2 hgv hsv HBR.out HL2.out.1 (HU.out.after HL2.out.2) (HN.out r (List.mem_of_getElem? hr) L2 HL2.out.2)
      have hz := HZ.out
      rw [cutR_drop hr] at hz
      replace f0 := cell_later HBR.out f0
      obtain ⟨lr, hlr⟩ : ∃ n, r.length = n := ⟨_, rfl⟩
      rw [hlr] at C f0
      cases hc : cutL r
      · rw [hc] at C hz
        rw [Bool.false_or] at hz
        have HZ2 := Lib.hid hz
        clear hr hgv hsv hlr hz hc HZ
        (go_wp2_with fail; go_fit (C); rintro e w' ⟨rfl, hg', hL'⟩)
        obtain ⟨L4, hk4, ha4⟩ := hL' rfl
        have HG4 := Lib.hid (grown_trans HG.out hg')
        have HL4 := Lib.hid (And.intro hk4 (HL2.out.2.trans ha4))
        clear C hg' hk4 ha4 f0 hL'
        go_wp2
        go_roundw
        case rel => exact ⟨j + 1, L4, by omega, by go_num, HZ2, HG4, HL4⟩
        case measure => simp [intOf]; omega
      · rw [hc] at C hz
        rw [Bool.true_or] at hz
        have HZ2 := Lib.hid hz
        clear hr hgv hsv hlr hz hc HZ
        (go_wp2_with fail; go_fit (C); rintro e w' ⟨rfl, hg', _⟩)
        have HG4 := Lib.hid (grown_trans HG.out hg')
        clear C hg' f0
        go_wp2
        go_ret
        exact ⟨_, rfl, by omega, by omega, by rw [← HZ2.out]; simp, HG4.out, fun h => by rw [← HZ2.out] at h; cases h⟩
    · have hje : j = m := by omega
      subst hje
      have hz : T = false := by have := HZ.out; rw [List.drop_eq_nil_of_le (by rw [HM.out]; exact Nat.le_refl _), cutR] at this; exact this.symm
      subst hz
      go_wp2
      go_ret
      exact ⟨-1, rfl, by omega, by omega, by simp, HG.out, fun _ => ⟨L2, HL2.out⟩⟩
theorem ucont_at {W : World} {mb : Nat} (hmb : W.heap.size ≤ mb) (ls : List (List Gl)) (IH : ∀ r ∈ ls, URow W mb r) {a : Option Addr} {m c : Nat} (w : World) (L : List (Key × Value)) (hv : RowsK W ls (.slice a m c)) (hb : Below W.heap.size W w) (hk : KMap w mb L) (hu : AllU L) (hn : ∀ r ∈ ls, ∀ L3, After (RightU W) L L3 → Notes (RightU W) W L3 (cntL r)) :
    Calls Tryz.prog 50 #[.slice a m c, .func (.func 34) #[.map (some mb)] #[]] w (CuP W w mb L (cutR ls)) := by
  have C := uidx_at hmb ls IH w L hv hb hk hu hn
  obtain ⟨T, hT⟩ : ∃ T, cutR ls = T := ⟨_, rfl⟩
  rw [hT] at C ⊢
  clear hv hb hk hu hn IH hT
  go_enter Tryz.func50, Tryz.ntmps50
  (go_wp2_with fail; go_fit (C); rintro e w' ⟨z, rfl, g1, g2, g3, g4, g5⟩)
  have HG := Lib.hid (And.intro g4 g5)
  clear g4 g5 C
  subst g3
  go_wp2
  go_ret
  exact ⟨rfl, HG.out⟩
end Go.Proofs.YtaojalicnnnkmaaGreatDoor
/- Package body: searched.row and Cuts, walked. -/
namespace Go.Proofs.YtaojalicnnnkmaaGreatDoor
open Go.RowKit
set_option linter.unusedVariables false

theorem zeroSB (w : World) : (zeroValue 100).run Tryz.prog w = .ok (.agg #[]) w := by kernel_rfl
set_option maxHeartbeats 8000000 in
set_option maxRecDepth 100000 in
theorem urow_at {W : World} {mb : Nat} (hmb : W.heap.size ≤ mb) : ∀ (M : Nat) (l : List Gl), cntL l ≤ M → URow W mb l
  | M, l, h, v, w, L, hv, hs, hb, hk, hu, hn => by
    obtain ⟨a, c, rfl, h1, h2, h3⟩ := hv.len
    unfold maxLen at h2
    have IH := Lib.hid (fun (r : List Gl) (hr : cntL r < M) => urow_at hmb (M - 1) r (by omega))
    have HV := Lib.hid (And.intro hv hs)
    obtain ⟨m, hm⟩ : ∃ m, l.length = m := ⟨_, rfl⟩
    have HM := Lib.hid hm
    obtain ⟨T, hT⟩ : ∃ T, cutL l = T := ⟨_, rfl⟩
    have HT := Lib.hid hT
    have HH := Lib.hid h
    have HB := Lib.hid hb
    have HK := Lib.hid hk
    have HN := Lib.hid hn
    have HU := Lib.hid hu
    rw [hm] at h1 h3 HV ⊢
    rw [hT]
    by_cases h0 : m = 0
    · subst h0
      have : T = false := by
        obtain rfl : l = [] := List.length_eq_zero_iff.1 HM.out
        exact HT.out.symm
      subst this
      clear hv hs hb hk hu hn hm hT h
      go_enter Tryz.func34, Tryz.ntmps34
      go_wp2
      go_ret
      exact ⟨rfl, grown_bel (Below.refl _ _), fun _ => ⟨L, HK.out, After.refl _ _⟩⟩
    obtain ⟨b, off, rfl, hrow⟩ := GoalsK.at HV.out.2 (by omega)
    have h0' : ((m : Int) == 0) = false := by apply beq_false_of_ne; omega
    have h0n : 0 < m := by omega
    obtain ⟨w1, e1, B1, z1, X1⟩ := box_new w #[.pointer (some ⟨b, off, none⟩), .int .i64 m] 97
    have HE := Lib.hid e1
    have HB1 := Lib.hid B1
    have HX1 := Lib.hid X1
    have HR := Lib.hid hrow
    have hpl : Plain w1 b := by
      obtain ⟨_, b', off', e, hp, _⟩ := hrow
      cases e
      exact (hp.below hb).below B1
    have look := (HK.out.below B1).look (mt := 74) Tryz.underlying74 (zeroSB w1) (⟨b, off, none⟩, m) hpl
    have HPL := Lib.hid hpl
    have x0 := X1.cells 0 _ rfl
    have x1 := X1.cells 1 _ rfl
    obtain ⟨w2, e2, B2, z2, X2⟩ := box_new w1 #[] 100
    have HE2 := Lib.hid e2
    have HB2 := Lib.hid B2
    have HX2 := Lib.hid X2
    clear hv hs hb hk hu hn hm hT h e1 B1 z1 X1 hrow hpl e2 B2 z2 X2
    rcases look with ⟨d, hd, hrun⟩ | ⟨hd, hrun⟩
    · obtain rfl : d = .agg #[] := HU.out _ _ hd
      have hdt : T = false := by
        rcases HN.out _ _ hd with ⟨_, l', g1, g2⟩ | ⟨l', g1, g2⟩
        · rw [← HT.out, ← (g1.same HR.out).2, g2]
        · have := (g1.same HR.out).1
          omega
      subst hdt
      have HEND := Lib.hid (show CuP W w mb L false (.returned (.bool false)) w2 from ⟨rfl, grown_bel (Ext.trans' HB1.out HB2.out), fun _ => ⟨L, (HK.out.below HB1.out).below HB2.out, After.refl _ _⟩⟩)
      clear hd
      go_enter Tryz.func34, Tryz.ntmps34
      go_wp2_with (at_lookup; (try rw [HE.out]); refine wpList_look_run rfl _ _ _ rfl rfl rfl hrun ?_)
      (try rw [HE2.out])
      go_ret
      exact HEND.out
    · obtain ⟨L1, w3, hrun1, hk1, hg1, hl1⟩ := ((HK.out.below HB1.out).below HB2.out).put (mt := 74) Tryz.underlying74 (⟨b, off, none⟩, m) (HPL.out.below HB2.out) (.agg #[])
      have HL1 := Lib.hid hl1
      have HK1 := Lib.hid (And.intro hk1 hg1)
      have HBW2 := Lib.hid (Ext.trans' HB.out (Ext.trans' HB1.out HB2.out))
      have HU1 := Lib.hid (HU.out.put hl1)
      have HNN := Lib.hid (fun (r : List Gl) (L3 : List (Key × Value)) (ha : After (RightU W) L1 L3) (hr : cntL r < cntL l) => (Notes.put HN.out hl1 HR.out rfl hr).after ha (Nat.le_refl _))
      have y0 : (w1.alloc (.cells #[] 100)).cell? ⟨w.heap.size, 0, none⟩ = some (.pointer (some ⟨b, off, none⟩)) := by rw [HE2.out]; exact cell_later HB2.out x0
      have y1 : (w1.alloc (.cells #[] 100)).cell? ⟨w.heap.size, 1, none⟩ = some (.int .i64 m) := by rw [HE2.out]; exact cell_later HB2.out x1
      clear hl1 hk1 hg1 hd HN
      go_enter Tryz.func34, Tryz.ntmps34
      go_wp2_with (first | (at_lookup; (try rw [HE.out]); refine wpList_look_run rfl _ _ _ rfl rfl rfl hrun ?_) | (at_mapUpdate; (try rw [HE2.out]); refine wpList_put_run rfl _ _ _ _ rfl rfl rfl rfl hrun1 ?_) | fail)
      go_loopw [30] (fun i wr => ∃ (j : Nat) (L2 : List (Key × Value)), j ≤ m ∧ i = .int .i64 j ∧ Hid (cutL (l.drop j) = T) ∧ Hid (w2.grownBy wr (some mb)) ∧ Hid (KMap wr mb L2 ∧ After (RightU W) L1 L2)) (fun i _ => m - (intOf i).toNat)
      case atStart => exact ⟨0, L1, Nat.zero_le _, rfl, Lib.hid (by rw [List.drop_zero]; exact HT.out), Lib.hid HK1.out.2, Lib.hid ⟨HK1.out.1, After.refl _ _⟩⟩
      case round =>
        obtain ⟨j, L2, hj, rfl, HZ, HG, HL2⟩ := hrel
        have HBR := Lib.hid (grown_base hmb HBW2.out HG.out)
        clear x0 x1 y0 y1
        by_cases hjm : j < m
        · obtain ⟨g, hg⟩ : ∃ g, l[j]? = some g := ⟨_, List.getElem?_eq_getElem (by rw [HM.out]; exact hjm)⟩
          obtain ⟨b', off', kt, nt, st, at_, mt, ct, ar, mr, cr, e, _, d0, d1, d2, d3, d4, d5, _, _, hrows⟩ := HV.out.1.get hg
          have hsk := HV.out.2.row hg rfl (by cases e; exact d5)
          cases e
          have hgl : mr = g.l.length := by obtain ⟨_, _, e, _⟩ := hrows.len; cases e; rfl
          have hzz := HZ.out
          rw [cutL_drop hg, cut_open] at hzz
          have hjm2 : (j : Int) < m := by omega
          obtain ⟨kg, hkg⟩ : ∃ k, g.kind = k := ⟨_, rfl⟩
          rw [hkg] at d0 hzz
          replace d0 := cell_later HBR.out d0
          replace d1 := cell_later HBR.out d1
          replace d2 := cell_later HBR.out d2
          replace d3 := cell_later HBR.out d3
          replace d4 := cell_later HBR.out d4
          replace d5 := cell_later HBR.out d5
          obtain ⟨w4, e4, B4, z4, X4⟩ := box_new wr #[.int .i64 kg, .int .i64 kt, .int .i64 nt, .string st, .slice at_ mt ct, .slice ar mr cr] 35
          have HE4 := Lib.hid e4
          have HB4 := Lib.hid B4
          have q0 := X4.cells 0 _ rfl
          have q1 := X4.cells 1 _ rfl
          have q2 := X4.cells 2 _ rfl
          have q3 := X4.cells 3 _ rfl
          have q4 := X4.cells 4 _ rfl
          have q5 := X4.cells 5 _ rfl
          have HRW := Lib.hid (And.intro hrows hsk)
          by_cases hk2 : kg = 2
          · subst hk2
            have hTT : T = true := by rw [← hzz]; rfl
            subst hTT
            have HEND := Lib.hid (show CuP W w mb L true (.returned (.bool true)) w4 from ⟨rfl, grown_trans (grown_bel (Ext.trans' HB1.out HB2.out)) (grown_trans HG.out (grown_bel B4)), fun h => by cases h⟩)
            clear hrows hg hgl hzz hkg hsk e4 B4 z4 X4 HZ q0 q1 q2 q3 q4 q5
            go_wp2
            (try rw [HE4.out])
            go_ret
            exact HEND.out
          · have hk2b : (kg == 2) = false := beq_false_of_ne hk2
            rw [hk2b, Bool.false_or] at hzz
            have C1 := bopen_at (W := W) (w := w4) (kt := kt) (nt := nt) (st := st) (at_ := at_) (mt := mt) (ct := ct) hkg HRW.out
            have HLT := Lib.hid (fun (r : List Gl) (hr : r ∈ openG g) => cnt_row (List.mem_of_getElem? hg) (open_mem hr))
            have HC := Lib.hid (fun (w5 : World) (hb : Below w4.heap.size w4 w5) (a5 : Option Addr) (m5 c5 : Nat) (h5 : RowsK W (openG g) (.slice a5 m5 c5)) => ucont_at hmb (openG g) (fun r hr => IH.out r (by have := HLT.out r hr; have := HH.out; omega)) w5 L2 h5 (Ext.trans' HBR.out (Ext.trans' HB4.out hb)) (HL2.out.1.below (Ext.trans' HB4.out hb)) (HU1.out.after HL2.out.2) (fun r hr L3 ha => HNN.out r L3 (HL2.out.2.trans ha) (HLT.out r hr)))
            have hmf : ∀ (fn : Fn) (first cap : Array Value) (w : World), (Instr.makeFunc fn first cap).run Tryz.prog w = .ok (.func fn first cap) w := fun _ _ _ _ => rfl
            cases hcr : cutR (openG g)
            · rw [hcr] at HC hzz
              rw [Bool.false_or] at hzz
              have HZ2 := Lib.hid hzz
              clear hrows hg hgl hkg hsk e4 B4 z4 X4 HZ HRW hcr hzz
              go_wp2_with fail
              (try rw [HE4.out])
              (go_wp2_with fail; go_fit (C1); rintro e w5 ⟨a5, m5, c5, rfl, hro, b5⟩)
              have C2 := HC.out w5 b5 a5 m5 c5 hro
              have HB5 := Lib.hid (Ext.trans' HB4.out b5)
              clear C1 hro b5 q0 q1 q2 q3 q4 q5 d0 d1 d2 d3 d4 d5
              (go_wp2_with fail; go_fit (C2); rintro e w6 ⟨rfl, hg6, hL6⟩)
              obtain ⟨L6, hk6, ha6⟩ := hL6 rfl
              have HG6 := Lib.hid (grown_trans HG.out (grown_trans (grown_bel HB5.out) hg6))
              have HL6 := Lib.hid (And.intro hk6 (HL2.out.2.trans ha6))
              clear C2 hL6 hk6 ha6 hg6
              go_wp2
              go_roundw
              case rel => exact ⟨j + 1, L6, by omega, by go_num, HZ2, HG6, HL6⟩
              case measure => simp [intOf]; omega
            · rw [hcr] at HC hzz
              have hTT : T = true := by rw [← hzz]; rfl
              subst hTT
              clear hrows hg hgl hkg hsk e4 B4 z4 X4 HZ HRW hcr hzz
              go_wp2_with fail
              (try rw [HE4.out])
              (go_wp2_with fail; go_fit (C1); rintro e w5 ⟨a5, m5, c5, rfl, hro, b5⟩)
              have C2 := HC.out w5 b5 a5 m5 c5 hro
              have HB5 := Lib.hid (Ext.trans' HB4.out b5)
              clear C1 hro b5 q0 q1 q2 q3 q4 q5 d0 d1 d2 d3 d4 d5
              (go_wp2_with fail; go_fit (C2); rintro e w6 ⟨rfl, hg6, _⟩)
              have HEND := Lib.hid (show CuP W w mb L true (.returned (.bool true)) w6 from ⟨rfl, grown_trans (grown_bel (Ext.trans' HB1.out HB2.out)) (grown_trans HG.out (grown_trans (grown_bel HB5.out) hg6)), fun h => by cases h⟩)
              clear C2 hg6
              go_wp2
              go_ret
              exact HEND.out
        · have hje : j = m := by omega
          subst hje
          have hz : T = false := by have := HZ.out; rw [List.drop_eq_nil_of_le (by rw [HM.out]; exact Nat.le_refl _), cutL] at this; exact this.symm
          subst hz
          have HEND := Lib.hid (show CuP W w mb L false (.returned (.bool false)) wr from ⟨rfl, grown_trans (grown_bel (Ext.trans' HB1.out HB2.out)) HG.out, fun _ => ⟨L2, HL2.out.1, After.stop HL1.out HL2.out.2 ⟨rfl, l, HR.out, HT.out⟩⟩⟩)
          go_wp2
          go_ret
          exact HEND.out
set_option maxHeartbeats 4000000 in
/-- Cuts. -/
theorem Cuts_at (l : List Gl) (w : World) (v : Value) (hv : GoalsK w l v) : Calls Tryz.prog 14 #[v] w fun e w' => e = .returned (.bool (cutL l)) ∧ Below w.heap.size w w' := by
  obtain ⟨a, c, rfl, -, -, -⟩ := hv.1.len
  have hb : Below w.heap.size w (w.alloc (.map #[] 0)) := bel1' _ _
  have C := urow_at (W := w) (mb := w.heap.size) (Nat.le_refl _) (cntL l) l (Nat.le_refl _) _ (w.alloc (.map #[] 0)) [] hv.1 hv.2 hb
    ⟨⟨#[], 0, heap_alloc_new w _, rfl⟩, fun p hp => by simp at hp⟩ (fun k d h => by cases h) (fun k d h => by cases h)
  obtain ⟨T, hT⟩ : ∃ T, cutL l = T := ⟨_, rfl⟩
  obtain ⟨m, hm⟩ : ∃ m, l.length = m := ⟨_, rfl⟩
  rw [hT] at C ⊢
  rw [hm] at C ⊢
  have hmm := @run_makeMap Tryz.prog
  have HB := Lib.hid hb
  clear hv hT hm hb
  go_enter Tryz.func14, Tryz.ntmps14
  (go_wp2_with fail; go_fit (C); rintro e w1 ⟨rfl, g1, _⟩)
  have B1 := Lib.hid (grown_base (Nat.le_refl _) HB.out g1)
  clear g1 C
  go_wp2
  go_ret
  exact ⟨rfl, B1.out⟩
end Go.Proofs.YtaojalicnnnkmaaGreatDoor
/- Stage 14's laws: say, awake. -/
namespace Go.Proofs.YtaojalicnnnkmaaGreatDoor
open Go.Shelf Go.RowKit
set_option linter.unusedVariables false

/-- A text's term. -/
def SayP (w : World) (t : Tm) (e : Ending) (w' : World) : Prop := ∃ v, e = .returned v ∧ TmV w' t v ∧ Below w.heap.size w w'
set_option maxHeartbeats 4000000 in
theorem say_at (s : ByteArray) (hs : s.size ≤ 1000) {t : Tm} {ns : List NmP} (hr : readB oneR opsB (bl (s ++ ⟨#[32, 46]⟩)) = .ok (t, ns)) {w : World} (he : Err w) : Calls Tryz.prog 9 #[.string s] w (SayP w t) := by
  obtain ⟨w1, e1, B1, z1, X1⟩ := box_new w #[.int .i64 0, .int .i64 0, .string ⟨#[]⟩, .slice none 0 0] 31
  have HE := Lib.hid e1
  have HB1 := Lib.hid B1
  have HX1 := Lib.hid X1
  have HERR := Lib.hid (fun (wq : World) (hq : Below w.heap.size w wq) => he.ext hq)
  have HR := Lib.hid hr
  have hsz : (s ++ ⟨#[32, 46]⟩ : ByteArray).size ≤ 140737488351232 := by
    have : (s ++ ⟨#[32, 46]⟩ : ByteArray).size = s.size + 2 := by simp [ByteArray.size_append]; rfl
    omega
  have HSZ := Lib.hid hsz
  obtain ⟨c, hc⟩ : ∃ c, (s ++ ⟨#[32, 46]⟩ : ByteArray) = c := ⟨_, rfl⟩
  rw [hc] at HR HSZ
  have HCC := Lib.hid hc
  clear he hr hsz e1 B1 z1 X1 hc
  go_enter Tryz.func9, Tryz.ntmps9
  go_upto_region 1 with fail
  (try rw [HE.out])
  (go_wp2_with fail; go_fit (plain_walk _); rintro e w2 ⟨v2, rfl, ho, b2⟩)
  have C := term8_hide (D0 := fun q => q == w.heap.size) (fun q hq => by have h1 := HX1.out.lt; have h2 := b2.size; exact beq_false_of_ne (by omega)) (ops_hide (w := w) (ty := 31) (by rw [HE.out]; exact b2) ho) c (HERR.out _ (Ext.trans' HB1.out b2)) HSZ.out
  rw [HR.out] at C
  have HB2 := Lib.hid b2
  clear ho b2
  go_wp2_with fail
  (try rw [HCC.out])
  (go_wp2_with fail; go_fit (C); rintro e w3 ⟨⟨v, vn, rfl, hv, _⟩, b3⟩)
  obtain ⟨k, n, st, a, m, c2, rfl, -, -, -, -⟩ := four_of hv.bare
  obtain ⟨w4, e4, B4, z4, X4⟩ := box_new w3 #[.int .i64 k, .int .i64 n, .string st, .slice a m c2] 31
  have HE4 := Lib.hid e4
  have HB4 := Lib.hid (Ext.trans' HB1.out (Ext.trans' HB2.out (Ext.trans' b3 B4)))
  obtain ⟨q0, q1, q2, q3, _⟩ := X4.four
  obtain ⟨r0, r1, r2, r3, rf⟩ := (HX1.out.ext (Ext.trans' HB2.out (Ext.trans' b3 B4))).four
  have hne : w3.heap.size ≠ w.heap.size := by have h1 := HB1.out.size; have h2 := HB2.out.size; have h3 := b3.size; have h4 := HX1.out.lt; omega
  have HNE := Lib.hid hne
  have HT := Lib.hid (show TmV (set4 w4 w.heap.size (.int .i64 k) (.int .i64 n) (.string st) (.slice a m c2)) t (.agg #[.int .i64 k, .int .i64 n, .string st, .slice a m c2]) from by
    have h : TmV (hide (fun q => q == w.heap.size) w4) t (.agg #[.int .i64 k, .int .i64 n, .string st, .slice a m c2]) := TmV.later B4 hv
    exact TmV.stay (Stays.unhide _ _) _ _ (h.put4 (b := w.heap.size) (by simp) _ _ _ _))
  clear C hv b3 e4 B4 z4 X4 hne
  go_upto_region 2 with fail
  (try rw [HE4.out])
  go_wp2
  refine bodyPost_ret (v := .agg #[.int .i64 k, .int .i64 n, .string st, .slice a m c2]) (by rw [results_cell1 rfl]; go_simp) rfl ⟨_, rfl, HT.out, Below.set4 HB4.out (Nat.le_refl _) _ _ _ _⟩
end Go.Proofs.YtaojalicnnnkmaaGreatDoor
/- Stage 14's laws: awake. -/
namespace Go.Proofs.YtaojalicnnnkmaaGreatDoor
open Go.Shelf Go.RowKit
set_option linter.unusedVariables false
set_option maxRecDepth 100000

def atT (c : UInt8) : Tm := nameT ⟨#[c]⟩ []
def aw14S : ByteArray := ⟨#[97, 44, 32, 33, 44, 32, 98]⟩
def aw14T : Tm := nameT commaS [atT 97, nameT commaS [atT 33, atT 98]]
def aw14L : List Gl := [callG (atT 97), .mk 2 zeroT [], callG (atT 98)]
theorem aw14_read : readB oneR opsB (bl (aw14S ++ ⟨#[32, 46]⟩)) = .ok (aw14T, []) := by kernel_rfl
theorem aw14_of : ofE aw14T = (aw14L, 0) := by
  have h1 : goodT aw14T = true := by decide +kernel
  have h2 : ofB aw14T = some aw14L := by rfl
  unfold ofE
  rw [if_pos h1, h2]
theorem aw14_cnt : cntL aw14L = 3 := by rfl
theorem aw14_cut : cutL aw14L = true := by rfl
set_option maxHeartbeats 8000000 in
theorem awake14_at {w : World} (he : Err w) : Calls Tryz.prog 7 #[] w fun e w' => e = .returned (.bool true) ∧ Below w.heap.size w w' := by
  have C1 := say_at aw14S (by decide) aw14_read he
  unfold aw14S at C1
  clear he
  go_enter Tryz.func7, Tryz.ntmps7
  (go_wp2_with fail; go_fit (C1); rintro e w1 ⟨v1, rfl, ht1, b1⟩)
  have HB1 := Lib.hid b1
  have C2 := bOf_at aw14T w1 v1 ht1
  unfold OfKE at C2
  rw [aw14_of] at C2
  clear C1 ht1 b1
  (go_wp2_with fail; go_fit (C2); rintro e w2 ⟨v2, rfl, hg2, b2⟩)
  have HB2 := Lib.hid (Ext.trans' HB1.out b2)
  have HG2 := Lib.hid (show GoalsK w2 aw14L v2 from hg2)
  obtain ⟨a, c, hv2, hc1, hc2, _⟩ := HG2.out.1.len
  have hl3 : aw14L.length = 3 := rfl
  rw [hl3] at hv2 hc1
  subst hv2
  unfold maxLen at hc2
  obtain ⟨b, off, kt, nt, st, at_, mt, ct, ar, mr, cr, rfl, _, d0, -, -, -, -, -, -, -, -⟩ := HG2.out.1.get (i := 0) (g := callG (atT 97)) rfl
  obtain ⟨b', off', kt1, nt1, st1, at1, mt1, ct1, ar1, mr1, cr1, e1, _, f0, -, -, -, -, -, -, -, -⟩ := HG2.out.1.get (i := 1) (g := .mk 2 zeroT []) rfl
  cases e1
  obtain ⟨b', off', kt2, nt2, st2, at2, mt2, ct2, ar2, mr2, cr2, e2, _, -, g1, g2, g3, g4, -, -, ht, -⟩ := HG2.out.1.get (i := 2) (g := callG (atT 98)) rfl
  cases e2
  have HT := Lib.hid (show TmV w2 (atT 98) (.agg #[.int .i64 kt2, .int .i64 nt2, .string st2, .slice at2 mt2 ct2]) from ht)
  have D0 : w2.cell? ⟨b, off + 0 * 6, none⟩ = some (.int .i64 1) := d0
  have F0 : w2.cell? ⟨b, off + 1 * 6, none⟩ = some (.int .i64 2) := f0
  rw [Nat.zero_mul, Nat.add_zero] at D0
  rw [Nat.one_mul] at F0
  have G1 : w2.cell? ⟨b, off + 12 + 1, none⟩ = some (.int .i64 kt2) := g1
  have G2 : w2.cell? ⟨b, off + 12 + 1 + 1, none⟩ = some (.int .i64 nt2) := g2
  have G3 : w2.cell? ⟨b, off + 12 + 1 + 2, none⟩ = some (.string st2) := g3
  have G4 : w2.cell? ⟨b, off + 12 + 1 + 3, none⟩ = some (.slice at2 mt2 ct2) := g4
  have hsm : (goodT (atT 98) && goodT (atT 98) && sameT (atT 98) (atT 98)) = true := by decide +kernel
  have HS := Lib.hid (fun (wq : World) (hq : Below w2.heap.size w2 wq) => Same_at (TmV.ext hq _ _ HT.out) (show TmV wq (atT 98) (.agg #[.int .i64 2, .int .i64 0, .string ⟨#[98]⟩, .slice none 0 0]) from leaf_tm _ (i64_of 2 (by omega) (by omega)) i64_0 (by unfold BIG; decide)))
  rw [hsm] at HS
  clear hsm
  have HN := Lib.hid (fun (wq : World) (hq : Below w2.heap.size w2 wq) => Count_at aw14L (by rw [aw14_cnt]; omega) wq _ (HG2.out.keep (keeps_bare hq)))
  have HU := Lib.hid (fun (wq : World) (hq : Below w2.heap.size w2 wq) => Cuts_at aw14L wq _ (HG2.out.keep (keeps_bare hq)))
  rw [aw14_cnt] at HN
  rw [aw14_cut] at HU
  clear C2 hg2 b2 d0 f0 g1 g2 g3 g4 ht
  go_wp2_with fail
  refine wp_region_held_drew (S := (fun w' => (w'.cell? ⟨b, off, none⟩ = some (Value.int .i64 1) ∧ w'.cell? ⟨b, off + 6, none⟩ = some (Value.int .i64 2) ∧ w'.cell? ⟨b, off + 12 + 1, none⟩ = some (Value.int .i64 kt2) ∧ w'.cell? ⟨b, off + 12 + 1 + 1, none⟩ = some (Value.int .i64 nt2) ∧ w'.cell? ⟨b, off + 12 + 1 + 2, none⟩ = some (Value.string st2) ∧ w'.cell? ⟨b, off + 12 + 1 + 3, none⟩ = some (Value.slice at2 mt2 ct2)) ∧ Below w2.heap.size w2 w')) (by kernel_rfl) (⟨⟨D0, F0, G1, G2, G3, G4⟩, (Below.refl _ _).drew⟩) (fun hHeld => ?_)
  first | (refine held_t (i := 0) hHeld ?_; apply Exists.intro; refine ⟨fun wq hq => ?_, ?_⟩; (focus ((try dsimp only at hq); go_simp; (first | done | with_reducible rfl | fail)))) | refine held_s (i := 0) hHeld ?_ | fail
  first | (refine held_t (i := 1) hHeld ?_; apply Exists.intro; refine ⟨fun wq hq => ?_, ?_⟩; (focus ((try dsimp only at hq); go_simp; (first | done | with_reducible rfl | fail)))) | refine held_s (i := 1) hHeld ?_ | fail
  try simp only [Act.put, List.setIfInBounds_toArray, List.set_cons_zero, List.set_cons_succ]
  first | (refine held_t (i := 2) hHeld ?_; apply Exists.intro; refine ⟨fun wq hq => ?_, ?_⟩; (focus ((try dsimp only at hq); go_simp; (first | done | with_reducible rfl | fail)))) | refine held_s (i := 2) hHeld ?_ | fail
  first | (refine held_t (i := 3) hHeld ?_; apply Exists.intro; refine ⟨fun wq hq => ?_, ?_⟩; (focus ((try dsimp only at hq); go_simp; (first | done | with_reducible rfl | fail)))) | refine held_s (i := 3) hHeld ?_ | fail
  try simp only [Act.put, List.setIfInBounds_toArray, List.set_cons_zero, List.set_cons_succ]
  first | (refine held_t (i := 4) hHeld ?_; apply Exists.intro; refine ⟨fun wq hq => ?_, ?_⟩; (focus ((try dsimp only at hq); go_simp; (first | done | with_reducible rfl | fail)))) | refine held_s (i := 4) hHeld ?_ | fail
  first | (refine held_t (i := 5) hHeld ?_; apply Exists.intro; refine ⟨fun wq hq => ?_, ?_⟩; (focus ((try dsimp only at hq); go_simp; (first | done | with_reducible rfl | fail)))) | refine held_s (i := 5) hHeld ?_ | fail
  try simp only [Act.put, List.setIfInBounds_toArray, List.set_cons_zero, List.set_cons_succ]
  first | (refine held_t (i := 6) hHeld ?_; apply Exists.intro; refine ⟨fun wq hq => ?_, ?_⟩; (focus ((try dsimp only at hq); go_simp; (first | done | with_reducible rfl | fail)))) | refine held_s (i := 6) hHeld ?_ | fail
  first | (refine held_t (i := 7) hHeld ?_; apply Exists.intro; refine ⟨fun wq hq => ?_, ?_⟩; (focus ((try dsimp only at hq); go_simp; (first | done | with_reducible rfl | fail)))) | refine held_s (i := 7) hHeld ?_ | fail
  try simp only [Act.put, List.setIfInBounds_toArray, List.set_cons_zero, List.set_cons_succ]
  first | (refine held_t (i := 8) hHeld ?_; apply Exists.intro; refine ⟨fun wq hq => ?_, ?_⟩; (focus ((try dsimp only at hq); go_simp; (first | done | with_reducible rfl | fail)))) | refine held_s (i := 8) hHeld ?_ | fail
  first | (refine held_t (i := 9) hHeld ?_; apply Exists.intro; refine ⟨fun wq hq => ?_, ?_⟩; (focus ((try dsimp only at hq); go_simp; (first | done | with_reducible rfl | fail)))) | refine held_s (i := 9) hHeld ?_ | fail
  try simp only [Act.put, List.setIfInBounds_toArray, List.set_cons_zero, List.set_cons_succ]
  first | (refine held_t (i := 10) hHeld ?_; apply Exists.intro; refine ⟨fun wq hq => ?_, ?_⟩; (focus ((try dsimp only at hq); go_simp; (first | done | with_reducible rfl | fail)))) | refine held_s (i := 10) hHeld ?_ | fail
  first | (refine held_t (i := 11) hHeld ?_; apply Exists.intro; refine ⟨fun wq hq => ?_, ?_⟩; (focus ((try dsimp only at hq); go_simp; (first | done | with_reducible rfl | fail)))) | refine held_s (i := 11) hHeld ?_ | fail
  try simp only [Act.put, List.setIfInBounds_toArray, List.set_cons_zero, List.set_cons_succ]
  first | (refine held_t (i := 12) hHeld ?_; apply Exists.intro; refine ⟨fun wq hq => ?_, ?_⟩; (focus ((try dsimp only at hq); go_simp; (first | done | with_reducible rfl | fail)))) | refine held_s (i := 12) hHeld ?_ | fail
  first | (refine held_t (i := 13) hHeld ?_; apply Exists.intro; refine ⟨fun wq hq => ?_, ?_⟩; (focus ((try dsimp only at hq); go_simp; (first | done | with_reducible rfl | fail)))) | refine held_s (i := 13) hHeld ?_ | fail
  try simp only [Act.put, List.setIfInBounds_toArray, List.set_cons_zero, List.set_cons_succ]
  first | (refine held_t (i := 14) hHeld ?_; apply Exists.intro; refine ⟨fun wq hq => ?_, ?_⟩; (focus ((try dsimp only at hq); go_simp; (first | done | with_reducible rfl | fail)))) | refine held_s (i := 14) hHeld ?_ | fail
  first | (refine held_t (i := 15) hHeld ?_; apply Exists.intro; refine ⟨fun wq hq => ?_, ?_⟩; (focus ((try dsimp only at hq); go_simp; (first | done | with_reducible rfl | fail)))) | refine held_s (i := 15) hHeld ?_ | fail
  try simp only [Act.put, List.setIfInBounds_toArray, List.set_cons_zero, List.set_cons_succ]
  first | (refine held_t (i := 16) hHeld ?_; apply Exists.intro; refine ⟨fun wq hq => ?_, ?_⟩; (focus ((try dsimp only at hq); go_simp; (first | done | with_reducible rfl | fail)))) | refine held_s (i := 16) hHeld ?_ | fail
  first | (refine held_t (i := 17) hHeld ?_; apply Exists.intro; refine ⟨fun wq hq => ?_, ?_⟩; (focus ((try dsimp only at hq); go_simp; (first | done | with_reducible rfl | fail)))) | refine held_s (i := 17) hHeld ?_ | fail
  try simp only [Act.put, List.setIfInBounds_toArray, List.set_cons_zero, List.set_cons_succ]
  first | (refine held_t (i := 18) hHeld ?_; apply Exists.intro; refine ⟨fun wq hq => ?_, ?_⟩; (focus ((try dsimp only at hq); go_simp; (first | done | with_reducible rfl | fail)))) | refine held_s (i := 18) hHeld ?_ | fail
  first | (refine held_t (i := 19) hHeld ?_; apply Exists.intro; refine ⟨fun wq hq => ?_, ?_⟩; (focus ((try dsimp only at hq); go_simp; (first | done | with_reducible rfl | fail)))) | refine held_s (i := 19) hHeld ?_ | fail
  try simp only [Act.put, List.setIfInBounds_toArray, List.set_cons_zero, List.set_cons_succ]
  first | (refine held_t (i := 20) hHeld ?_; apply Exists.intro; refine ⟨fun wq hq => ?_, ?_⟩; (focus ((try dsimp only at hq); go_simp; (first | done | with_reducible rfl | fail)))) | refine held_s (i := 20) hHeld ?_ | fail
  first | (refine held_t (i := 21) hHeld ?_; apply Exists.intro; refine ⟨fun wq hq => ?_, ?_⟩; (focus ((try dsimp only at hq); go_simp; (first | done | with_reducible rfl | fail)))) | refine held_s (i := 21) hHeld ?_ | fail
  try simp only [Act.put, List.setIfInBounds_toArray, List.set_cons_zero, List.set_cons_succ]
  first | (refine held_t (i := 22) hHeld ?_; apply Exists.intro; refine ⟨fun wq hq => ?_, ?_⟩; (focus ((try dsimp only at hq); go_simp; (first | done | with_reducible rfl | fail)))) | refine held_s (i := 22) hHeld ?_ | fail
  first | (refine held_t (i := 23) hHeld ?_; apply Exists.intro; refine ⟨fun wq hq => ?_, ?_⟩; (focus ((try dsimp only at hq); go_simp; (first | done | with_reducible rfl | fail)))) | refine held_s (i := 23) hHeld ?_ | fail
  try simp only [Act.put, List.setIfInBounds_toArray, List.set_cons_zero, List.set_cons_succ]
  first | (refine held_t (i := 24) hHeld ?_; apply Exists.intro; refine ⟨fun wq hq => ?_, ?_⟩; (focus ((try dsimp only at hq); go_simp; (first | done | with_reducible rfl | fail)))) | refine held_s (i := 24) hHeld ?_ | fail
  first | (refine held_t (i := 25) hHeld ?_; apply Exists.intro; refine ⟨fun wq hq => ?_, ?_⟩; (focus ((try dsimp only at hq); go_simp; (first | done | with_reducible rfl | fail)))) | refine held_s (i := 25) hHeld ?_ | fail
  try simp only [Act.put, List.setIfInBounds_toArray, List.set_cons_zero, List.set_cons_succ]
  refine held_c 26 fun K hK => ?_
  go_simp
  (go_at_call 13; refine (atom_at _ _).mono ?_; rintro e wx ⟨rfl, h3⟩)
  refine hK.out _ _ (⟨⟨cell_later h3 hHeld.1.1, cell_later h3 hHeld.1.2.1, cell_later h3 hHeld.1.2.2.1, cell_later h3 hHeld.1.2.2.2.1, cell_later h3 hHeld.1.2.2.2.2.1, cell_later h3 hHeld.1.2.2.2.2.2⟩, Ext.trans' hHeld.2 h3⟩) (fun hHeld => ?_)
  clear hK K
  try simp only [Act.put, List.setIfInBounds_toArray, List.set_cons_zero, List.set_cons_succ]
  refine held_c 27 fun K hK => ?_
  go_simp
  (go_at_call 12; refine (HS.out _ hHeld.2).mono ?_; rintro e wx ⟨rfl, h4⟩)
  refine hK.out _ _ (⟨⟨cell_later h4 hHeld.1.1, cell_later h4 hHeld.1.2.1, cell_later h4 hHeld.1.2.2.1, cell_later h4 hHeld.1.2.2.2.1, cell_later h4 hHeld.1.2.2.2.2.1, cell_later h4 hHeld.1.2.2.2.2.2⟩, Ext.trans' hHeld.2 h4⟩) (fun hHeld => ?_)
  clear hK K
  try simp only [Act.put, List.setIfInBounds_toArray, List.set_cons_zero, List.set_cons_succ]
  first | (refine held_t (i := 28) hHeld ?_; apply Exists.intro; refine ⟨fun wq hq => ?_, ?_⟩; (focus ((try dsimp only at hq); go_simp; (first | done | with_reducible rfl | fail)))) | refine held_s (i := 28) hHeld ?_ | fail
  first | (refine held_t (i := 29) hHeld ?_; apply Exists.intro; refine ⟨fun wq hq => ?_, ?_⟩; (focus ((try dsimp only at hq); go_simp; (first | done | with_reducible rfl | fail)))) | refine held_s (i := 29) hHeld ?_ | fail
  try simp only [Act.put, List.setIfInBounds_toArray, List.set_cons_zero, List.set_cons_succ]
  first | (refine held_t (i := 30) hHeld ?_; apply Exists.intro; refine ⟨fun wq hq => ?_, ?_⟩; (focus ((try dsimp only at hq); go_simp; (first | done | with_reducible rfl | fail)))) | refine held_s (i := 30) hHeld ?_ | fail
  try simp only [Act.put, List.setIfInBounds_toArray, List.set_cons_zero, List.set_cons_succ]
  refine held_c 31 fun K hK => ?_
  go_simp
  (go_at_call 10; refine (HN.out _ hHeld.2).mono ?_; rintro e wx ⟨rfl, h5⟩)
  refine hK.out _ _ (⟨⟨cell_later h5 hHeld.1.1, cell_later h5 hHeld.1.2.1, cell_later h5 hHeld.1.2.2.1, cell_later h5 hHeld.1.2.2.2.1, cell_later h5 hHeld.1.2.2.2.2.1, cell_later h5 hHeld.1.2.2.2.2.2⟩, Ext.trans' hHeld.2 h5⟩) (fun hHeld => ?_)
  clear hK K
  try simp only [Act.put, List.setIfInBounds_toArray, List.set_cons_zero, List.set_cons_succ]
  first | (refine held_t (i := 32) hHeld ?_; apply Exists.intro; refine ⟨fun wq hq => ?_, ?_⟩; (focus ((try dsimp only at hq); go_simp; (first | done | with_reducible rfl | fail)))) | refine held_s (i := 32) hHeld ?_ | fail
  first | (refine held_t (i := 33) hHeld ?_; apply Exists.intro; refine ⟨fun wq hq => ?_, ?_⟩; (focus ((try dsimp only at hq); go_simp; (first | done | with_reducible rfl | fail)))) | refine held_s (i := 33) hHeld ?_ | fail
  try simp only [Act.put, List.setIfInBounds_toArray, List.set_cons_zero, List.set_cons_succ]
  first | (refine held_t (i := 34) hHeld ?_; apply Exists.intro; refine ⟨fun wq hq => ?_, ?_⟩; (focus ((try dsimp only at hq); go_simp; (first | done | with_reducible rfl | fail)))) | refine held_s (i := 34) hHeld ?_ | fail
  first | (refine held_t (i := 35) hHeld ?_; apply Exists.intro; refine ⟨fun wq hq => ?_, ?_⟩; (focus ((try dsimp only at hq); go_simp; (first | done | with_reducible rfl | fail)))) | refine held_s (i := 35) hHeld ?_ | fail
  try simp only [Act.put, List.setIfInBounds_toArray, List.set_cons_zero, List.set_cons_succ]
  refine held_c 36 fun K hK => ?_
  go_simp
  (go_at_call 14; refine (HU.out _ hHeld.2).mono ?_; rintro e wx ⟨rfl, h6⟩)
  refine hK.out _ _ (⟨⟨cell_later h6 hHeld.1.1, cell_later h6 hHeld.1.2.1, cell_later h6 hHeld.1.2.2.1, cell_later h6 hHeld.1.2.2.2.1, cell_later h6 hHeld.1.2.2.2.2.1, cell_later h6 hHeld.1.2.2.2.2.2⟩, Ext.trans' hHeld.2 h6⟩) (fun hHeld => ?_)
  clear hK K
  try simp only [Act.put, List.setIfInBounds_toArray, List.set_cons_zero, List.set_cons_succ]
  first | (refine held_t (i := 37) hHeld ?_; apply Exists.intro; refine ⟨fun wq hq => ?_, ?_⟩; (focus ((try dsimp only at hq); go_simp; (first | done | with_reducible rfl | fail)))) | refine held_s (i := 37) hHeld ?_ | fail
  first | (refine held_t (i := 38) hHeld ?_; apply Exists.intro; refine ⟨fun wq hq => ?_, ?_⟩; (focus ((try dsimp only at hq); go_simp; (first | done | with_reducible rfl | fail)))) | refine held_s (i := 38) hHeld ?_ | fail
  try simp only [Act.put, List.setIfInBounds_toArray, List.set_cons_zero, List.set_cons_succ]
  refine wpAnyH_done (by kernel_rfl) ?_ _
  have HEND := Lib.hid (Ext.trans' HB2.out hHeld.2)
  clear hHeld D0 F0 G1 G2 G3 G4
  go_wp2
  go_ret
  exact ⟨rfl, HEND.out⟩
end Go.Proofs.YtaojalicnnnkmaaGreatDoor
/- The document's side of chapter 14: Clause, walked. -/
namespace Go.Proofs.YtaojalicnnnkmaaGreatDoor
open Go.RowKit
set_option linter.unusedVariables false

theorem Box.all4' {w : World} {b : Nat} {v0 v1 v2 v3 : Value} (h : Box w b [v0, v1, v2, v3]) (u0 u1 u2 u3 : Value) : Box (set4 w b u0 u1 u2 u3) b [u0, u1, u2, u3] :=
  (((h.set (k := 0) (by simp)).set (k := 1) (by simp)).set (k := 2) (by simp)).set (k := 3) (by simp)
theorem Box.far4g {w : World} {b c : Nat} {vs : List Value} (h : Box w b vs) (hne : b ≠ c) (u0 u1 u2 u3 : Value) : Box (set4 w c u0 u1 u2 u3) b vs := (((h.far hne).far hne).far hne).far hne
theorem results_ccT {fn : Func} {p q u : Tmp} {ty tz : TypeId} (h : fn.results = #[.cell p ty, .cell q tz, .tmp u]) (tmps : Array Value) (P : Program) (w : World) :
    (results fn tmps).run P w = ((asAddr (tmps.getD p undef)).run P w).andThen fun a w₁ => ((loadVar ty a).run P w₁).andThen fun x w₂ => ((asAddr (tmps.getD q undef)).run P w₂).andThen fun b w₃ => ((loadVar tz b).run P w₃).andThen fun y w₄ => .ok (.tuple #[x, y, tmps.getD u undef]) w₄ := by
  simp [results, h, Sem.run_bind]
theorem clause_bad {t : Tm} (h : goodT t = false) : clauseE t = (zeroT, zeroT, 1) := by unfold clauseE; rw [if_neg (by rw [h]; simp)]
theorem clause_good {t h r : Tm} (hg : goodT t = true) (hh : headT t = (h, r)) : clauseE t = if h.k = 0 then (zeroT, zeroT, 6) else if h.k = 1 then (zeroT, zeroT, 5) else if heldT h = true then (zeroT, zeroT, 8) else if (ofB r).isSome = true then (h, r, 0) else (zeroT, zeroT, 5) := by
  unfold clauseE; rw [if_pos hg, hh]
theorem zero_tm (w : World) : TmV w zeroT (.agg #[.int .i64 0, .int .i64 0, .string ⟨#[]⟩, .slice none 0 0]) := leaf_tm w i64_0 i64_0 (by unfold BIG; decide)
theorem Box.cells4 {w : World} {b : Nat} {v0 v1 v2 v3 : Value} (h : Box w b [v0, v1, v2, v3]) : w.cell? ⟨b, 0, none⟩ = some v0 ∧ w.cell? ⟨b, 1, none⟩ = some v1 ∧ w.cell? ⟨b, 2, none⟩ = some v2 ∧ w.cell? ⟨b, 3, none⟩ = some v3 :=
  ⟨h.cells 0 _ rfl, h.cells 1 _ rfl, h.cells 2 _ rfl, h.cells 3 _ rfl⟩
theorem far1 {w : World} {b c o : Nat} {u0 u1 u2 u3 v : Value} (h : w.cell? ⟨b, o, none⟩ = some v) (hne : b ≠ c) : (set4 w c u0 u1 u2 u3).cell? ⟨b, o, none⟩ = some v := by
  rw [far_cell hne, far_cell hne, far_cell hne, far_cell hne]; exact h
end Go.Proofs.YtaojalicnnnkmaaGreatDoor
