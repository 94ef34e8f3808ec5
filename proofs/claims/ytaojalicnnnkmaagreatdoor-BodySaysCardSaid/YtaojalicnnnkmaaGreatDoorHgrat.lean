import Derived.Test.YtaojalicnnnkmaaGreatDoorHgrak
import Derived.Test.YtaojalicnnnkmaaGreatDoorHgras
import Derived.Test.YtaojalicnnnkmaaGreatDoorHgraq
import Derived.Test.YtaojalicnnnkmaaGreatDoorHgrab
import Derived.Deep.QuietTactic
import Derived.Test.YtaojalicnnnkmaaGreatDoorHgraa
import Derived.BigQuiet
set_option linter.unusedVariables false
set_option linter.unusedSimpArgs false
/- The document's side of chapter 14: Cuts, walked. (gen_gcuts.py) -/
namespace Go.Proofs.YtaojalicnnnkmaaGreatDoor
open Go.RowKit
set_option linter.unusedVariables false

theorem cutL_drop {l : List Gl} {i : Nat} {g : Gl} (h : l[i]? = some g) : cutL (l.drop i) = (cutG g || cutL (l.drop (i + 1))) := by
  obtain ⟨hlt, rfl⟩ := List.getElem?_eq_some_iff.1 h
  rw [List.drop_eq_getElem_cons hlt, cutL]
theorem cutR_drop {l : List (List Gl)} {i : Nat} {g : List Gl} (h : l[i]? = some g) : cutR (l.drop i) = (cutL g || cutR (l.drop (i + 1))) := by
  obtain ⟨hlt, rfl⟩ := List.getElem?_eq_some_iff.1 h
  rw [List.drop_eq_getElem_cons hlt, cutR]
theorem cutT_eq : ∀ l : List (List Gl), cutT l = cutR (l.drop 1)
  | [] => by rw [cutT, List.drop_nil, cutR]
  | x :: r => by rw [cutT]; rfl
theorem cutG_eq (g : Gl) : cutG g = (g.kind == 2 || (!(g.kind == 5) && (if g.kind = 4 then cutR (g.l.drop 1) else cutR g.l))) := by
  obtain ⟨k, t, ls⟩ := g
  rw [cutG, cutT_eq]
  rfl
set_option maxHeartbeats 8000000 in
set_option maxRecDepth 100000 in
/-- Cuts: of no more than a million goals. -/
theorem rCuts_at : ∀ (M : Nat) (l : List Gl), cntL l ≤ M → ∀ (w : World) (v : Value), GoalsV w l v → Calls Tryz.prog 24 #[v] w fun e w' => e = .returned (.bool (cutL l)) ∧ w = w'
  | M, l, h, w, v, hv => by
    obtain ⟨a, c, rfl, h1, h2, h3⟩ := hv.len
    unfold maxLen at h2
    have IH := Lib.hid (fun (r : List Gl) (hr : cntL r < M) => rCuts_at (M - 1) r (by omega))
    have HV := Lib.hid hv
    obtain ⟨m, hm⟩ : ∃ m, l.length = m := ⟨_, rfl⟩
    have HM := Lib.hid hm
    have HH := Lib.hid h
    obtain ⟨T, hT⟩ : ∃ T, cutL l = T := ⟨_, rfl⟩
    have HT := Lib.hid hT
    rw [hm] at h1 h3 HV ⊢
    rw [hT]
    clear hv hm hT h
    go_enter Tryz.func24, Tryz.ntmps24
    go_wp2_with fail
    go_loop [3, 4] (fun i _ => ∃ j : Nat, j ≤ m ∧ i = .int .i64 j ∧ Hid (cutL (l.drop j) = T)) (fun i _ => m - (intOf i).toNat)
    case atStart => exact ⟨0, Nat.zero_le _, rfl, Lib.hid (by rw [List.drop_zero]; exact HT.out)⟩
    case round =>
      obtain ⟨j, hj, rfl, HZ⟩ := hrel
      by_cases hjm : j < m
      · obtain ⟨g, hg⟩ : ∃ g, l[j]? = some g := ⟨_, List.getElem?_eq_getElem (by rw [HM.out]; exact hjm)⟩
        obtain ⟨b, off, kt, nt, st, at_, mt, ct, ar, mr, cr, rfl, _, d0, d1, d2, d3, d4, d5, hk64, _, hrows⟩ := HV.out.get hg
        have hgl : mr = g.l.length := by obtain ⟨_, _, e, _⟩ := hrows.len; cases e; rfl
        have hmrb : mr ≤ 9223372036854775807 := by obtain ⟨_, _, e, h5, h6, _⟩ := hrows.len; cases e; unfold maxLen at h6; omega
        have HR := Lib.hid hrows
        have HG := Lib.hid (And.intro hg hgl)
        have hzz := HZ.out
        rw [cutL_drop hg, cutG_eq] at hzz
        obtain ⟨k, hk⟩ : ∃ k, g.kind = k := ⟨_, rfl⟩
        rw [hk] at hzz d0
        have hjm2 : (j : Int) < m := by omega
        clear hrows hg hgl d1 d2 d3 d4 hk64 hk
        by_cases g2 : k = 2
        · subst g2
          obtain rfl : T = true := by rw [← hzz]; rfl
          clear hzz
          go_wp2
          go_ret
          exact ⟨rfl, rfl⟩
        have g2b : (k == 2) = false := beq_false_of_ne g2
        by_cases g5 : k = 5
        · subst g5
          have HZ2 := Lib.hid (show cutL (l.drop (j + 1)) = T by simpa using hzz)
          clear hzz
          go_wp2_with fail
          go_loop [4] (fun i => i = .int .i64 0) (fun _ => 0)
          case atStart => exact rfl
          case round =>
            obtain rfl := hrel
            by_cases hm0 : 0 < mr
            · have hm1 : (0 : Int) < mr := by omega
              go_wp2
              go_round
              case rel => exact ⟨j + 1, by omega, by go_num, HZ2⟩
              case measure => simp [intOf]; omega
            · obtain rfl : mr = 0 := by omega
              go_wp2
              go_round
              case rel => exact ⟨j + 1, by omega, by go_num, HZ2⟩
              case measure => simp [intOf]; omega
        have g5b : (k != 5) = true := by simpa using g5
        have g5c : (k == 5) = false := beq_false_of_ne g5
        rw [g2b, g5c] at hzz
        simp only [Bool.false_or, Bool.not_false, Bool.true_and] at hzz
        by_cases g4 : k = 4
        · subst g4
          rw [if_pos rfl] at hzz
          have HZ2 := Lib.hid hzz
          clear hzz
          go_wp2_with fail
          go_loop [4] (fun i => ∃ q : Nat, q ≤ mr ∧ i = .int .i64 q ∧ Hid ((cutR (g.l.drop (if q = 0 then 1 else q)) || cutL (l.drop (j + 1))) = T)) (fun i => mr - (intOf i).toNat)
          case atStart => exact ⟨0, Nat.zero_le _, rfl, Lib.hid (by rw [if_pos rfl]; exact HZ2.out)⟩
          case round =>
            obtain ⟨q, hq, rfl, HY⟩ := hrel
            by_cases hqm : q < mr
            · by_cases hq0 : q = 0
              · subst hq0
                have HY2 := Lib.hid (show (cutR (g.l.drop (if (0 + 1 : Nat) = 0 then 1 else 0 + 1)) || cutL (l.drop (j + 1))) = T from by rw [if_neg (by omega)]; have := HY.out; rw [if_pos rfl] at this; exact this)
                have hm1 : (0 : Int) < mr := by omega
                clear HY
                go_wp2
                go_round
                case rel => exact ⟨0 + 1, by omega, by go_num, HY2⟩
                case measure => simp [intOf]; omega
              · have hq1 : (0 : Int) < q := by omega
                have hq2 : decide ((0 : Int) < q) = true := by simpa using hq1
                obtain ⟨r, hr⟩ : ∃ r, g.l[q]? = some r := ⟨_, List.getElem?_eq_getElem (by rw [← HG.out.2]; exact hqm)⟩
                obtain ⟨b', off', a', c', rfl, _, f0, hgv⟩ := HR.out.get hr
                have hlt := cnt_row (List.mem_of_getElem? HG.out.1) (List.mem_of_getElem? hr)
                have C := IH.out r (by have := HH.out; omega) w _ hgv
                have hyy := HY.out
                rw [if_neg hq0, cutR_drop hr, Bool.or_assoc] at hyy
                obtain ⟨x, hx⟩ : ∃ x, cutL r = x := ⟨_, rfl⟩
                rw [hx] at C hyy
                have hqm2 : (q : Int) < mr := by omega
                clear hr hgv hlt hx HY
                cases x
                · have HY2 := Lib.hid hyy
                  clear hyy
                  (go_wp2_with fail; go_fit (C); rintro e w' ⟨rfl, rfl⟩)
                  clear C
                  go_wp2
                  go_round
                  case rel => exact ⟨q + 1, by omega, by go_num, Lib.hid (by rw [if_neg (by omega)]; have := HY2.out; simpa using this)⟩
                  case measure => simp [intOf]; omega
                · obtain rfl : T = true := by rw [← hyy]; rfl
                  clear hyy
                  (go_wp2_with fail; go_fit (C); rintro e w' ⟨rfl, rfl⟩)
                  clear C
                  go_wp2
                  go_ret
                  exact ⟨rfl, rfl⟩
            · have hqe : q = mr := by omega
              subst hqe
              have HY2 := Lib.hid (show cutL (l.drop (j + 1)) = T by have := HY.out; rw [List.drop_eq_nil_of_le (by rw [← HG.out.2]; split <;> omega), cutR] at this; simpa using this)
              go_wp2
              go_round
              case rel => exact ⟨j + 1, by omega, by go_num, HY2⟩
              case measure => simp [intOf]; omega
        · have g4b : (k != 4) = true := by simpa using g4
          rw [if_neg g4] at hzz
          have HZ2 := Lib.hid hzz
          clear hzz
          go_wp2_with fail
          go_loop [4] (fun i => ∃ q : Nat, q ≤ mr ∧ i = .int .i64 q ∧ Hid ((cutR (g.l.drop q) || cutL (l.drop (j + 1))) = T)) (fun i => mr - (intOf i).toNat)
          case atStart => exact ⟨0, Nat.zero_le _, rfl, Lib.hid (by rw [List.drop_zero]; exact HZ2.out)⟩
          case round =>
            obtain ⟨q, hq, rfl, HY⟩ := hrel
            by_cases hqm : q < mr
            · obtain ⟨r, hr⟩ : ∃ r, g.l[q]? = some r := ⟨_, List.getElem?_eq_getElem (by rw [← HG.out.2]; exact hqm)⟩
              obtain ⟨b', off', a', c', rfl, _, f0, hgv⟩ := HR.out.get hr
              have hlt := cnt_row (List.mem_of_getElem? HG.out.1) (List.mem_of_getElem? hr)
              have C := IH.out r (by have := HH.out; omega) w _ hgv
              have hyy := HY.out
              rw [cutR_drop hr, Bool.or_assoc] at hyy
              obtain ⟨x, hx⟩ : ∃ x, cutL r = x := ⟨_, rfl⟩
              rw [hx] at C hyy
              have hqm2 : (q : Int) < mr := by omega
              clear hr hgv hlt hx HY
              cases x
              · have HY2 := Lib.hid hyy
                clear hyy
                (go_wp2_with fail; go_fit (C); rintro e w' ⟨rfl, rfl⟩)
                clear C
                go_wp2
                go_round
                case rel => exact ⟨q + 1, by omega, by go_num, Lib.hid (by have := HY2.out; simpa using this)⟩
                case measure => simp [intOf]; omega
              · obtain rfl : T = true := by rw [← hyy]; rfl
                clear hyy
                (go_wp2_with fail; go_fit (C); rintro e w' ⟨rfl, rfl⟩)
                clear C
                go_wp2
                go_ret
                exact ⟨rfl, rfl⟩
            · have hqe : q = mr := by omega
              subst hqe
              have HY2 := Lib.hid (show cutL (l.drop (j + 1)) = T by have := HY.out; rw [List.drop_eq_nil_of_le (by rw [← HG.out.2]; exact Nat.le_refl _), cutR] at this; simpa using this)
              go_wp2
              go_round
              case rel => exact ⟨j + 1, by omega, by go_num, HY2⟩
              case measure => simp [intOf]; omega
      · have hje : j = m := by omega
        subst hje
        obtain rfl : T = false := by have := HZ.out; rw [List.drop_eq_nil_of_le (by rw [HM.out]; exact Nat.le_refl _), cutL] at this; exact this.symm
        go_wp2
        go_ret
        exact ⟨rfl, rfl⟩
end Go.Proofs.YtaojalicnnnkmaaGreatDoor
/- Package body: Cuts, walked. -/
namespace Go.Proofs.YtaojalicnnnkmaaGreatDoor
open Go.RowKit
set_option linter.unusedVariables false

/-- Those rows whose cuts are the clause's. -/
def openG (g : Gl) : List (List Gl) := if g.kind = 5 then [] else if g.kind = 4 then g.l.drop 1 else g.l
theorem cut_open (g : Gl) : cutG g = (g.kind == 2 || cutR (openG g)) := by
  rw [cutG_eq]
  unfold openG
  by_cases h5 : g.kind = 5
  · rw [if_pos h5, h5]
    simp [cutR]
  · rw [if_neg h5]
    have : (g.kind == 5) = false := beq_false_of_ne h5
    rw [this]
    by_cases h4 : g.kind = 4
    · rw [if_pos h4, if_pos h4]; rfl
    · rw [if_neg h4, if_neg h4]; rfl
theorem open_mem {g : Gl} {r : List Gl} (h : r ∈ openG g) : r ∈ g.l := by
  unfold openG at h
  split at h
  · cases h
  · split at h
    · exact List.mem_of_mem_drop h
    · exact h
/-- All but the first. -/
theorem RowsK.tail {w : World} {ls : List (List Gl)} {a : Option Addr} {m c : Nat} (h : RowsK w ls (.slice a m c)) (hm : 0 < m) : ∃ b off, a = some ⟨b, off, none⟩ ∧ m ≤ c ∧ c ≤ maxLen ∧ RowsK w (ls.drop 1) (.slice (some ⟨b, off + 1, none⟩) (m - 1) (c - 1)) := by
  obtain ⟨⟨a1, c1, e, h1, h2, h3, h4⟩, ⟨a2, c2, e', g⟩⟩ := h
  injection e with e1 e2 e3
  injection e' with e1' e2' e3'
  subst e1
  subst e3
  subst e1'
  have hne : ls ≠ [] := fun e => by rw [e] at e2; simp at e2; omega
  obtain ⟨b, off, rfl, hb, hr⟩ := h4.resolve_left hne
  obtain ⟨b', off', e4, gr⟩ := g.resolve_left hne
  cases e4
  obtain ⟨x, r, rfl⟩ := List.exists_cons_of_ne_nil hne
  have hl : r.length = m - 1 := by rw [e2]; simp
  refine ⟨b, off, rfl, by rw [e2]; exact h1, h2, ⟨_, c - 1, ?_, ?_, by omega, ?_, Or.inr ⟨b, off + 1, rfl, hb, (rsRow_cons.1 hr).2⟩⟩, ⟨_, c - 1, ?_, Or.inr ⟨b, off + 1, rfl, (skR_cons.1 gr).2⟩⟩⟩
  · show Value.slice _ _ _ = .slice _ r.length _
    rw [hl]
  · show r.length ≤ _
    rw [hl]; rw [← e2] at h1; omega
  · show r.length * 24 ≤ BIG
    rw [List.length_cons] at h3; omega
  · show Value.slice _ _ _ = .slice _ r.length _
    rw [hl]
set_option maxHeartbeats 4000000 in
theorem bopen_at {W : World} {g : Gl} {w : World} {k : Int} {kt nt : Int} {st : ByteArray} {at_ : Option Addr} {mt ct : Nat} {ar : Option Addr} {mr cr : Nat} (hk : g.kind = k) (hv : RowsK W g.l (.slice ar mr cr)) :
    Calls Tryz.prog 51 #[.agg #[.int .i64 k, .int .i64 kt, .int .i64 nt, .string st, .slice at_ mt ct, .slice ar mr cr]] w fun e w' => ∃ a m c, e = .returned (.slice a m c) ∧ RowsK W (openG g) (.slice a m c) ∧ Below w.heap.size w w' := by
  obtain ⟨w1, e1, B1, z1, X1⟩ := box_new w #[.int .i64 k, .int .i64 kt, .int .i64 nt, .string st, .slice at_ mt ct, .slice ar mr cr] 35
  have HB := Lib.hid (bel1' w (.cells #[.int .i64 k, .int .i64 kt, .int .i64 nt, .string st, .slice at_ mt ct, .slice ar mr cr] 35))
  have x0 := X1.cells 0 _ rfl
  have x5 := X1.cells 5 _ rfl
  have HV := Lib.hid hv
  obtain ⟨ro, hro⟩ : ∃ ro, openG g = ro := ⟨_, rfl⟩
  rw [hro]
  have HO := Lib.hid hro
  have hmr : mr = g.l.length := by obtain ⟨_, _, e, _⟩ := hv.1.len; cases e; rfl
  have hbd : mr ≤ cr ∧ cr ≤ 9223372036854775807 := by obtain ⟨_, _, e, h5, h6, _⟩ := hv.1.len; cases e; unfold maxLen at h6; omega
  by_cases h5 : k = 5
  · subst h5
    have hr : ro = [] := by rw [← HO.out]; unfold openG; rw [if_pos hk]
    subst hr
    clear hv e1 B1 z1 X1 hro hk hmr
    go_enter Tryz.func51, Tryz.ntmps51
    go_wp2
    go_ret
    exact ⟨_, _, _, rfl, ⟨RowsV.nil _, SkW.nil _⟩, HB.out⟩
  · have h5b : (k == 5) = false := beq_false_of_ne h5
    by_cases h4 : k = 4
    · subst h4
      have hr : ro = g.l.drop 1 := by rw [← HO.out]; unfold openG; rw [if_neg (by rw [hk]; exact h5), if_pos hk]
      by_cases hm : mr = 0
      · have hr2 : ro = [] := by rw [hr, List.length_eq_zero_iff.1 (hmr.symm.trans hm)]; rfl
        have HRT := Lib.hid (show RowsK W ro (.slice ar mr cr) by
          rw [hr2]; have := HV.out; rw [List.length_eq_zero_iff.1 (hmr.symm.trans hm)] at this; exact this)
        subst hm
        clear hv e1 B1 z1 X1 hro hk hmr hr hr2
        go_enter Tryz.func51, Tryz.ntmps51
        go_wp2
        go_ret
        exact ⟨_, _, _, rfl, HRT.out, HB.out⟩
      · obtain ⟨b, off, rfl, q1, q2, htl⟩ := HV.out.tail (by omega)
        rw [← hr] at htl
        have HTL := Lib.hid htl
        have hm1 : (0 : Int) < mr := by omega
        have hm2 : (1 : Int) ≤ mr := by omega
        by_cases hc1 : cr = 1
        · subst hc1
          obtain rfl : mr = 1 := by omega
          have HNIL := Lib.hid (show RowsK W ro (.slice (some ⟨b, off, none⟩) 0 0) by
            have h1 := HTL.out.1.len
            obtain ⟨_, _, e, _⟩ := h1
            have : ro = [] := by injection e with _ e2 _; exact List.length_eq_zero_iff.1 e2.symm
            rw [this]
            exact ⟨⟨_, 0, rfl, Nat.le_refl _, Nat.zero_le _, by simp, Or.inl rfl⟩, ⟨_, 0, rfl, Or.inl rfl⟩⟩)
          clear hv e1 B1 z1 X1 hro hk hmr hr htl hm HTL
          go_enter Tryz.func51, Tryz.ntmps51
          go_wp2
          go_ret
          exact ⟨_, _, _, rfl, HNIL.out, HB.out⟩
        · have hc2 : (cr - 1 == 0) = false := by apply beq_false_of_ne; omega
          have hc3 : ¬ cr - 1 = 0 := by omega
          clear hv e1 B1 z1 X1 hro hk hmr hr htl hm
          go_enter Tryz.func51, Tryz.ntmps51
          go_wp2
          go_ret
          exact ⟨_, _, _, rfl, HTL.out, HB.out⟩
    · have h4b : (k == 4) = false := beq_false_of_ne h4
      have hr : ro = g.l := by rw [← HO.out]; unfold openG; rw [if_neg (by rw [hk]; exact h5), if_neg (by rw [hk]; exact h4)]
      subst hr
      clear hv e1 B1 z1 X1 hro hk hmr h5 h4
      go_enter Tryz.func51, Tryz.ntmps51
      go_wp2
      go_ret
      exact ⟨_, _, _, rfl, HV.out, HB.out⟩
/-- No cut so far, or one. -/
def CuP (W w : World) (mb : Nat) (L : List (Key × Value)) (r : Bool) (e : Ending) (w' : World) : Prop := e = .returned (.bool r) ∧ w.grownBy w' (some mb) ∧ (r = false → ∃ L', KMap w' mb L' ∧ After (RightU W) L L')
/-- A row in which there is no cut is gone through. -/
theorem After.stop {R : Key → Value → Prop} {L L1 L2 : List (Key × Value)} {k : Key} {v : Value} (h1 : ∀ k', lookK k' L1 = if k' = k then some v else lookK k' L) (h2 : After R L1 L2) (hr : R k v) : After R L L2 := fun k' d hk => by
  rcases h2 k' d hk with g | g
  · rw [h1] at g
    by_cases e : k' = k
    · rw [if_pos e] at g
      injection g with g
      rw [e, ← g]
      exact Or.inr hr
    · rw [if_neg e] at g
      exact Or.inl g
  · exact Or.inr g
def URow (W : World) (mb : Nat) (r : List Gl) : Prop := ∀ (v : Value) (w : World) (L : List (Key × Value)), GoalsV W r v → SkV W r v → Below W.heap.size W w → KMap w mb L → AllU L → Notes (RightU W) W L (cntL r) → Calls Tryz.prog 34 #[.map (some mb), v] w (CuP W w mb L (cutL r))
/-- The first row with a cut, or -1. -/
def IxP (W w : World) (mb : Nat) (L : List (Key × Value)) (c : Bool) (e : Ending) (w' : World) : Prop := ∃ z : Int, e = .returned (.int .i64 z) ∧ -1 ≤ z ∧ z ≤ 9223372036854775807 ∧ (decide (0 ≤ z) = c) ∧ w.grownBy w' (some mb) ∧ (c = false → ∃ L', KMap w' mb L' ∧ After (RightU W) L L')
set_option maxHeartbeats 8000000 in
theorem uidx_at {W : World} {mb : Nat} (hmb : W.heap.size ≤ mb) (ls : List (List Gl)) (IH : ∀ r ∈ ls, URow W mb r) {a : Option Addr} {m c : Nat} (w : World) (L : List (Key × Value)) (hv : RowsK W ls (.slice a m c)) (hb : Below W.heap.size W w) (hk : KMap w mb L) (hu : AllU L) (hn : ∀ r ∈ ls, ∀ L3, After (RightU W) L L3 → Notes (RightU W) W L3 (cntL r)) :
    Calls Tryz.prog 68 #[.slice a m c, .func (.func 34) #[.map (some mb)] #[]] w (IxP W w mb L (cutR ls)) := by
  obtain ⟨_, _, e0, h1, h2, h3⟩ := hv.1.len
  have hml : m = ls.length := by cases e0; rfl
  cases e0
  unfold maxLen at h2
  obtain ⟨m, hm⟩ : ∃ m, ls.length = m := ⟨_, rfl⟩
  have HM := Lib.hid hm
  have HV := Lib.hid hv
  rw [hm] at h1 h3 HV ⊢
  obtain ⟨T, hT⟩ : ∃ T, cutR ls = T := ⟨_, rfl⟩
  have HT := Lib.hid hT
  rw [hT]
  have HB := Lib.hid hb
  have HK := Lib.hid hk
  have HU := Lib.hid hu
  have HN := Lib.hid hn
  have HIH := Lib.hid IH
  clear hv hm hT hb hk hu hn IH hml
  go_enter Tryz.func68, Tryz.ntmps68
  go_wp2_with fail
  go_loopw [8] (fun i wr => ∃ (j : Nat) (L2 : List (Key × Value)), j ≤ m ∧ i = .int .i64 j ∧ Hid (cutR (ls.drop j) = T) ∧ Hid (w.grownBy wr (some mb)) ∧ Hid (KMap wr mb L2 ∧ After (RightU W) L L2)) (fun i _ => m - (intOf i).toNat)
  case atStart => exact ⟨0, L, Nat.zero_le _, rfl, Lib.hid (by rw [List.drop_zero]; exact HT.out), Lib.hid (grown_bel (Below.refl _ _)), Lib.hid ⟨HK.out, After.refl _ _⟩⟩
  case round =>
    obtain ⟨j, L2, hj, rfl, HZ, HG, HL2⟩ := hrel
    have HBR := Lib.hid (grown_base hmb HB.out HG.out)
    by_cases hjm : j < m
    · obtain ⟨r, hr⟩ : ∃ r, ls[j]? = some r := ⟨_, List.getElem?_eq_getElem (by rw [HM.out]; exact hjm)⟩
      have hjm2 : (j : Int) < m := by omega
      obtain ⟨b, off, a2, c2, e, _, f0, hgv⟩ := HV.out.1.get hr
      have hsv := HV.out.2.row hr e f0
      cases e
      have C := HIH.out r (List.mem_of_getElem? hr) _ wr L2 hgv hsv HBR.out HL2.out.1 (HU.out.after HL2.out.2) (HN.out r (List.mem_of_getElem? hr) L2 HL2.out.2)
      have hz := HZ.out
      rw [cutR_drop hr] at hz
      replace f0 := cell_later HBR.out f0
      obtain ⟨lr, hlr⟩ : ∃ n, r.length = n := ⟨_, rfl⟩
      rw [hlr] at C f0
      cases hc : cutL r
      · rw [hc] at C hz
        rw [Bool.false_or] at hz
        have HZ2 := Lib.hid hz
        clear hr hgv hsv hlr hz hc HZ
        (go_wp2_with fail; go_fit (C); rintro e w' ⟨rfl, hg', hL'⟩)
        obtain ⟨L4, hk4, ha4⟩ := hL' rfl
        have HG4 := Lib.hid (grown_trans HG.out hg')
        have HL4 := Lib.hid (And.intro hk4 (HL2.out.2.trans ha4))
        clear C hg' hk4 ha4 f0 hL'
        go_wp2
        go_roundw
        case rel => exact ⟨j + 1, L4, by omega, by go_num, HZ2, HG4, HL4⟩
        case measure => simp [intOf]; omega
      · rw [hc] at C hz
        rw [Bool.true_or] at hz
        have HZ2 := Lib.hid hz
        clear hr hgv hsv hlr hz hc HZ
        (go_wp2_with fail; go_fit (C); rintro e w' ⟨rfl, hg', _⟩)
        have HG4 := Lib.hid (grown_trans HG.out hg')
        clear C hg' f0
        go_wp2
        go_ret
        exact ⟨_, rfl, by omega, by omega, by rw [← HZ2.out]; simp, HG4.out, fun h => by rw [← HZ2.out] at h; cases h⟩
    · have hje : j = m := by omega
      subst hje
      have hz : T = false := by have := HZ.out; rw [List.drop_eq_nil_of_le (by rw [HM.out]; exact Nat.le_refl _), cutR] at this; exact this.symm
      subst hz
      go_wp2
      go_ret
      exact ⟨-1, rfl, by omega, by omega, by simp, HG.out, fun _ => ⟨L2, HL2.out⟩⟩
theorem ucont_at {W : World} {mb : Nat} (hmb : W.heap.size ≤ mb) (ls : List (List Gl)) (IH : ∀ r ∈ ls, URow W mb r) {a : Option Addr} {m c : Nat} (w : World) (L : List (Key × Value)) (hv : RowsK W ls (.slice a m c)) (hb : Below W.heap.size W w) (hk : KMap w mb L) (hu : AllU L) (hn : ∀ r ∈ ls, ∀ L3, After (RightU W) L L3 → Notes (RightU W) W L3 (cntL r)) :
    Calls Tryz.prog 50 #[.slice a m c, .func (.func 34) #[.map (some mb)] #[]] w (CuP W w mb L (cutR ls)) := by
  have C := uidx_at hmb ls IH w L hv hb hk hu hn
  obtain ⟨T, hT⟩ : ∃ T, cutR ls = T := ⟨_, rfl⟩
  rw [hT] at C ⊢
  clear hv hb hk hu hn IH hT
  go_enter Tryz.func50, Tryz.ntmps50
  (go_wp2_with fail; go_fit (C); rintro e w' ⟨z, rfl, g1, g2, g3, g4, g5⟩)
  have HG := Lib.hid (And.intro g4 g5)
  clear g4 g5 C
  subst g3
  go_wp2
  go_ret
  exact ⟨rfl, HG.out⟩
end Go.Proofs.YtaojalicnnnkmaaGreatDoor
/- Package body: searched.row and Cuts, walked. -/
namespace Go.Proofs.YtaojalicnnnkmaaGreatDoor
open Go.RowKit
set_option linter.unusedVariables false

theorem zeroSB (w : World) : (zeroValue 100).run Tryz.prog w = .ok (.agg #[]) w := by kernel_rfl
set_option maxHeartbeats 8000000 in
set_option maxRecDepth 100000 in
theorem urow_at {W : World} {mb : Nat} (hmb : W.heap.size ≤ mb) : ∀ (M : Nat) (l : List Gl), cntL l ≤ M → URow W mb l
  | M, l, h, v, w, L, hv, hs, hb, hk, hu, hn => by
    obtain ⟨a, c, rfl, h1, h2, h3⟩ := hv.len
    unfold maxLen at h2
    have IH := Lib.hid (fun (r : List Gl) (hr : cntL r < M) => urow_at hmb (M - 1) r (by omega))
    have HV := Lib.hid (And.intro hv hs)
    obtain ⟨m, hm⟩ : ∃ m, l.length = m := ⟨_, rfl⟩
    have HM := Lib.hid hm
    obtain ⟨T, hT⟩ : ∃ T, cutL l = T := ⟨_, rfl⟩
    have HT := Lib.hid hT
    have HH := Lib.hid h
    have HB := Lib.hid hb
    have HK := Lib.hid hk
    have HN := Lib.hid hn
    have HU := Lib.hid hu
    rw [hm] at h1 h3 HV ⊢
    rw [hT]
    by_cases h0 : m = 0
    · subst h0
      have : T = false := by
        obtain rfl : l = [] := List.length_eq_zero_iff.1 HM.out
        exact HT.out.symm
      subst this
      clear hv hs hb hk hu hn hm hT h
      go_enter Tryz.func34, Tryz.ntmps34
      go_wp2
      go_ret
      exact ⟨rfl, grown_bel (Below.refl _ _), fun _ => ⟨L, HK.out, After.refl _ _⟩⟩
    obtain ⟨b, off, rfl, hrow⟩ := GoalsK.at HV.out.2 (by omega)
    have h0' : ((m : Int) == 0) = false := by apply beq_false_of_ne; omega
    have h0n : 0 < m := by omega
    obtain ⟨w1, e1, B1, z1, X1⟩ := box_new w #[.pointer (some ⟨b, off, none⟩), .int .i64 m] 97
    have HE := Lib.hid e1
    have HB1 := Lib.hid B1
    have HX1 := Lib.hid X1
    have HR := Lib.hid hrow
    have hpl : Plain w1 b := by
      obtain ⟨_, b', off', e, hp, _⟩ := hrow
      cases e
      exact (hp.below hb).below B1
    have look := (HK.out.below B1).look (mt := 74) Tryz.underlying74 (zeroSB w1) (⟨b, off, none⟩, m) hpl
    have HPL := Lib.hid hpl
    have x0 := X1.cells 0 _ rfl
    have x1 := X1.cells 1 _ rfl
    obtain ⟨w2, e2, B2, z2, X2⟩ := box_new w1 #[] 100
    have HE2 := Lib.hid e2
    have HB2 := Lib.hid B2
    have HX2 := Lib.hid X2
    clear hv hs hb hk hu hn hm hT h e1 B1 z1 X1 hrow hpl e2 B2 z2 X2
    rcases look with ⟨d, hd, hrun⟩ | ⟨hd, hrun⟩
    · obtain rfl : d = .agg #[] := HU.out _ _ hd
      have hdt : T = false := by
        rcases HN.out _ _ hd with ⟨_, l', g1, g2⟩ | ⟨l', g1, g2⟩
        · rw [← HT.out, ← (g1.same HR.out).2, g2]
        · have := (g1.same HR.out).1
          omega
      subst hdt
      have HEND := Lib.hid (show CuP W w mb L false (.returned (.bool false)) w2 from ⟨rfl, grown_bel (Ext.trans' HB1.out HB2.out), fun _ => ⟨L, (HK.out.below HB1.out).below HB2.out, After.refl _ _⟩⟩)
      clear hd
      go_enter Tryz.func34, Tryz.ntmps34
      go_wp2_with (at_lookup; (try rw [HE.out]); refine wpList_look_run rfl _ _ _ rfl rfl rfl hrun ?_)
      (try rw [HE2.out])
      go_ret
      exact HEND.out
    · obtain ⟨L1, w3, hrun1, hk1, hg1, hl1⟩ := ((HK.out.below HB1.out).below HB2.out).put (mt := 74) Tryz.underlying74 (⟨b, off, none⟩, m) (HPL.out.below HB2.out) (.agg #[])
      have HL1 := Lib.hid hl1
      have HK1 := Lib.hid (And.intro hk1 hg1)
      have HBW2 := Lib.hid (Ext.trans' HB.out (Ext.trans' HB1.out HB2.out))
      have HU1 := Lib.hid (HU.out.put hl1)
      have HNN := Lib.hid (fun (r : List Gl) (L3 : List (Key × Value)) (ha : After (RightU W) L1 L3) (hr : cntL r < cntL l) => (Notes.put HN.out hl1 HR.out rfl hr).after ha (Nat.le_refl _))
      have y0 : (w1.alloc (.cells #[] 100)).cell? ⟨w.heap.size, 0, none⟩ = some (.pointer (some ⟨b, off, none⟩)) := by rw [HE2.out]; exact cell_later HB2.out x0
      have y1 : (w1.alloc (.cells #[] 100)).cell? ⟨w.heap.size, 1, none⟩ = some (.int .i64 m) := by rw [HE2.out]; exact cell_later HB2.out x1
      clear hl1 hk1 hg1 hd HN
      go_enter Tryz.func34, Tryz.ntmps34
      go_wp2_with (first | (at_lookup; (try rw [HE.out]); refine wpList_look_run rfl _ _ _ rfl rfl rfl hrun ?_) | (at_mapUpdate; (try rw [HE2.out]); refine wpList_put_run rfl _ _ _ _ rfl rfl rfl rfl hrun1 ?_) | fail)
      go_loopw [30] (fun i wr => ∃ (j : Nat) (L2 : List (Key × Value)), j ≤ m ∧ i = .int .i64 j ∧ Hid (cutL (l.drop j) = T) ∧ Hid (w2.grownBy wr (some mb)) ∧ Hid (KMap wr mb L2 ∧ After (RightU W) L1 L2)) (fun i _ => m - (intOf i).toNat)
      case atStart => exact ⟨0, L1, Nat.zero_le _, rfl, Lib.hid (by rw [List.drop_zero]; exact HT.out), Lib.hid HK1.out.2, Lib.hid ⟨HK1.out.1, After.refl _ _⟩⟩
      case round =>
        obtain ⟨j, L2, hj, rfl, HZ, HG, HL2⟩ := hrel
        have HBR := Lib.hid (grown_base hmb HBW2.out HG.out)
        clear x0 x1 y0 y1
        by_cases hjm : j < m
        · obtain ⟨g, hg⟩ : ∃ g, l[j]? = some g := ⟨_, List.getElem?_eq_getElem (by rw [HM.out]; exact hjm)⟩
          obtain ⟨b', off', kt, nt, st, at_, mt, ct, ar, mr, cr, e, _, d0, d1, d2, d3, d4, d5, _, _, hrows⟩ := HV.out.1.get hg
          have hsk := HV.out.2.row hg rfl (by cases e; exact d5)
          cases e
          have hgl : mr = g.l.length := by obtain ⟨_, _, e, _⟩ := hrows.len; cases e; rfl
          have hzz := HZ.out
          rw [cutL_drop hg, cut_open] at hzz
          have hjm2 : (j : Int) < m := by omega
          obtain ⟨kg, hkg⟩ : ∃ k, g.kind = k := ⟨_, rfl⟩
          rw [hkg] at d0 hzz
          replace d0 := cell_later HBR.out d0
          replace d1 := cell_later HBR.out d1
          replace d2 := cell_later HBR.out d2
          replace d3 := cell_later HBR.out d3
          replace d4 := cell_later HBR.out d4
          replace d5 := cell_later HBR.out d5
          obtain ⟨w4, e4, B4, z4, X4⟩ := box_new wr #[.int .i64 kg, .int .i64 kt, .int .i64 nt, .string st, .slice at_ mt ct, .slice ar mr cr] 35
          have HE4 := Lib.hid e4
          have HB4 := Lib.hid B4
          have q0 := X4.cells 0 _ rfl
          have q1 := X4.cells 1 _ rfl
          have q2 := X4.cells 2 _ rfl
          have q3 := X4.cells 3 _ rfl
          have q4 := X4.cells 4 _ rfl
          have q5 := X4.cells 5 _ rfl
          have HRW := Lib.hid (And.intro hrows hsk)
          by_cases hk2 : kg = 2
          · subst hk2
            have hTT : T = true := by rw [← hzz]; rfl
            subst hTT
            have HEND := Lib.hid (show CuP W w mb L true (.returned (.bool true)) w4 from ⟨rfl, grown_trans (grown_bel (Ext.trans' HB1.out HB2.out)) (grown_trans HG.out (grown_bel B4)), fun h => by cases h⟩)
            clear hrows hg hgl hzz hkg hsk e4 B4 z4 X4 HZ q0 q1 q2 q3 q4 q5
            go_wp2
            (try rw [HE4.out])
            go_ret
            exact HEND.out
          · have hk2b : (kg == 2) = false := beq_false_of_ne hk2
            rw [hk2b, Bool.false_or] at hzz
            have C1 := bopen_at (W := W) (w := w4) (kt := kt) (nt := nt) (st := st) (at_ := at_) (mt := mt) (ct := ct) hkg HRW.out
            have HLT := Lib.hid (fun (r : List Gl) (hr : r ∈ openG g) => cnt_row (List.mem_of_getElem? hg) (open_mem hr))
            have HC := Lib.hid (fun (w5 : World) (hb : Below w4.heap.size w4 w5) (a5 : Option Addr) (m5 c5 : Nat) (h5 : RowsK W (openG g) (.slice a5 m5 c5)) => ucont_at hmb (openG g) (fun r hr => IH.out r (by have := HLT.out r hr; have := HH.out; omega)) w5 L2 h5 (Ext.trans' HBR.out (Ext.trans' HB4.out hb)) (HL2.out.1.below (Ext.trans' HB4.out hb)) (HU1.out.after HL2.out.2) (fun r hr L3 ha => HNN.out r L3 (HL2.out.2.trans ha) (HLT.out r hr)))
            have hmf : ∀ (fn : Fn) (first cap : Array Value) (w : World), (Instr.makeFunc fn first cap).run Tryz.prog w = .ok (.func fn first cap) w := fun _ _ _ _ => rfl
            cases hcr : cutR (openG g)
            · rw [hcr] at HC hzz
              rw [Bool.false_or] at hzz
              have HZ2 := Lib.hid hzz
              clear hrows hg hgl hkg hsk e4 B4 z4 X4 HZ HRW hcr hzz
              go_wp2_with fail
              (try rw [HE4.out])
              (go_wp2_with fail; go_fit (C1); rintro e w5 ⟨a5, m5, c5, rfl, hro, b5⟩)
              have C2 := HC.out w5 b5 a5 m5 c5 hro
              have HB5 := Lib.hid (Ext.trans' HB4.out b5)
              clear C1 hro b5 q0 q1 q2 q3 q4 q5 d0 d1 d2 d3 d4 d5
              (go_wp2_with fail; go_fit (C2); rintro e w6 ⟨rfl, hg6, hL6⟩)
              obtain ⟨L6, hk6, ha6⟩ := hL6 rfl
              have HG6 := Lib.hid (grown_trans HG.out (grown_trans (grown_bel HB5.out) hg6))
              have HL6 := Lib.hid (And.intro hk6 (HL2.out.2.trans ha6))
              clear C2 hL6 hk6 ha6 hg6
              go_wp2
              go_roundw
              case rel => exact ⟨j + 1, L6, by omega, by go_num, HZ2, HG6, HL6⟩
              case measure => simp [intOf]; omega
            · rw [hcr] at HC hzz
              have hTT : T = true := by rw [← hzz]; rfl
              subst hTT
              clear hrows hg hgl hkg hsk e4 B4 z4 X4 HZ HRW hcr hzz
              go_wp2_with fail
              (try rw [HE4.out])
              (go_wp2_with fail; go_fit (C1); rintro e w5 ⟨a5, m5, c5, rfl, hro, b5⟩)
              have C2 := HC.out w5 b5 a5 m5 c5 hro
              have HB5 := Lib.hid (Ext.trans' HB4.out b5)
              clear C1 hro b5 q0 q1 q2 q3 q4 q5 d0 d1 d2 d3 d4 d5
              (go_wp2_with fail; go_fit (C2); rintro e w6 ⟨rfl, hg6, _⟩)
              have HEND := Lib.hid (show CuP W w mb L true (.returned (.bool true)) w6 from ⟨rfl, grown_trans (grown_bel (Ext.trans' HB1.out HB2.out)) (grown_trans HG.out (grown_trans (grown_bel HB5.out) hg6)), fun h => by cases h⟩)
              clear C2 hg6
              go_wp2
              go_ret
              exact HEND.out
        · have hje : j = m := by omega
          subst hje
          have hz : T = false := by have := HZ.out; rw [List.drop_eq_nil_of_le (by rw [HM.out]; exact Nat.le_refl _), cutL] at this; exact this.symm
          subst hz
          have HEND := Lib.hid (show CuP W w mb L false (.returned (.bool false)) wr from ⟨rfl, grown_trans (grown_bel (Ext.trans' HB1.out HB2.out)) HG.out, fun _ => ⟨L2, HL2.out.1, After.stop HL1.out HL2.out.2 ⟨rfl, l, HR.out, HT.out⟩⟩⟩)
          go_wp2
          go_ret
          exact HEND.out
set_option maxHeartbeats 4000000 in
/-- Cuts. -/
theorem Cuts_at (l : List Gl) (w : World) (v : Value) (hv : GoalsK w l v) : Calls Tryz.prog 14 #[v] w fun e w' => e = .returned (.bool (cutL l)) ∧ Below w.heap.size w w' := by
  obtain ⟨a, c, rfl, -, -, -⟩ := hv.1.len
  have hb : Below w.heap.size w (w.alloc (.map #[] 0)) := bel1' _ _
  have C := urow_at (W := w) (mb := w.heap.size) (Nat.le_refl _) (cntL l) l (Nat.le_refl _) _ (w.alloc (.map #[] 0)) [] hv.1 hv.2 hb
    ⟨⟨#[], 0, heap_alloc_new w _, rfl⟩, fun p hp => by simp at hp⟩ (fun k d h => by cases h) (fun k d h => by cases h)
  obtain ⟨T, hT⟩ : ∃ T, cutL l = T := ⟨_, rfl⟩
  obtain ⟨m, hm⟩ : ∃ m, l.length = m := ⟨_, rfl⟩
  rw [hT] at C ⊢
  rw [hm] at C ⊢
  have hmm := @run_makeMap Tryz.prog
  have HB := Lib.hid hb
  clear hv hT hm hb
  go_enter Tryz.func14, Tryz.ntmps14
  (go_wp2_with fail; go_fit (C); rintro e w1 ⟨rfl, g1, _⟩)
  have B1 := Lib.hid (grown_base (Nat.le_refl _) HB.out g1)
  clear g1 C
  go_wp2
  go_ret
  exact ⟨rfl, B1.out⟩
end Go.Proofs.YtaojalicnnnkmaaGreatDoor
/- Terms: the document's Same; two rows of numbers alike. -/
namespace Go.Proofs.YtaojalicnnnkmaaGreatDoor
open Go.RowKit
set_option linter.unusedVariables false

theorem same_mk (k n k' n' : Int) (s s' : ByteArray) (ts ts' : List Tm) : sameT (.mk k n s ts) (.mk k' n' s' ts') = (k == k' && n == n' && s.data.toList == s'.data.toList && sameL ts ts') := by rw [sameT]
theorem sames_len : ∀ {a b : List Tm}, ¬ a.length = b.length → sameL a b = false
  | [], [], h => absurd rfl h
  | x :: r, y :: q, h => by
    rw [sameL, sames_len (a := r) (b := q) (by simpa using h), Bool.and_false]
  | [], y :: q, _ => by simp [sameL]
  | x :: r, [], _ => by simp [sameL]
theorem sames_step {a b : List Tm} {i : Nat} {x y : Tm} (hx : a[i]? = some x) (hy : b[i]? = some y) : sameL (a.drop i) (b.drop i) = (sameT x y && sameL (a.drop (i + 1)) (b.drop (i + 1))) := by
  obtain ⟨h1, rfl⟩ := List.getElem?_eq_some_iff.1 hx
  obtain ⟨h2, rfl⟩ := List.getElem?_eq_some_iff.1 hy
  rw [List.drop_eq_getElem_cons h1, List.drop_eq_getElem_cons h2, sameL]
set_option maxHeartbeats 4000000 in
set_option maxRecDepth 100000 in
/-- Alike but for the Args: then the Args, one by one. -/
theorem rsame_args {k n : Int} {s : ByteArray} {ts ts' : List Tm} {w : World} {a a' : Option Addr} {m c c' : Nat} (h1 : m ≤ c) (h2 : c ≤ maxLen) (h1' : m ≤ c') (h2' : c' ≤ maxLen) (h3 : m * 56 ≤ 140737488351232)
    (HM : Hid (ts.length = m)) (HM' : Hid (ts'.length = m)) (HU : Hid (Tms w (.slice a m c) ts)) (HU' : Hid (Tms w (.slice a' m c') ts'))
    (IH : Hid (∀ x ∈ ts, ∀ (y : Tm) (w : World) (va vb : Value), TmV w x va → TmV w y vb → Calls Tryz.prog 22 #[va, vb] w fun e w' => e = .returned (.bool (sameT x y)) ∧ Below w.heap.size w w')) :
    Calls Tryz.prog 22 #[.agg #[.int .i64 k, .int .i64 n, .string s, .slice a m c], .agg #[.int .i64 k, .int .i64 n, .string s, .slice a' m c']] w fun e w' => e = .returned (.bool (sameL ts ts')) ∧ Below w.heap.size w w' := by
  obtain ⟨r, hr⟩ : ∃ r, sameL ts ts' = r := ⟨_, rfl⟩
  rw [hr]
  have HR := Lib.hid hr
  clear hr
  have HW := Lib.hid (show Below w.heap.size w ((w.alloc (box4 k n s (.slice a m c) 46)).alloc (box4 k n s (.slice a' m c') 46)) from (bel1' w _).alloc (by simp) _)
  go_enter Tryz.func22, Tryz.ntmps22
  go_wp2_with fail
  go_loopw [5] (fun v wr => ∃ i : Nat, i ≤ m ∧ v = .int .i64 i ∧ Hid (sameL (ts.drop i) (ts'.drop i) = r) ∧ Hid (Below ((w.alloc (box4 k n s (.slice a m c) 46)).alloc (box4 k n s (.slice a' m c') 46)).heap.size ((w.alloc (box4 k n s (.slice a m c) 46)).alloc (box4 k n s (.slice a' m c') 46)) wr)) (fun v _ => m - (intOf v).toNat)
  case atStart => exact ⟨0, Nat.zero_le _, rfl, Lib.hid (by rw [List.drop_zero, List.drop_zero]; exact HR.out), Lib.hid (Below.refl _ _)⟩
  case round =>
    obtain ⟨i, hi, rfl, HD, HB⟩ := hrel
    have e3 : wr.cell? ⟨w.heap.size, 3, none⟩ = some (.slice a m c) := cell_later HB.out (by simp)
    have f3 : wr.cell? ⟨w.heap.size + 1, 3, none⟩ = some (.slice a' m c') := cell_later HB.out (by simp)
    have HBW := Lib.hid (Ext.trans' HW.out HB.out)
    by_cases hil : i < m
    · obtain ⟨x, hx⟩ : ∃ x, ts[i]? = some x := ⟨_, List.getElem?_eq_getElem (by rw [HM.out]; exact hil)⟩
      obtain ⟨y, hy⟩ : ∃ y, ts'[i]? = some y := ⟨_, List.getElem?_eq_getElem (by rw [HM'.out]; exact hil)⟩
      have hd := HD.out
      rw [sames_step hx hy] at hd
      obtain ⟨b, off, k1, n1, s1, u1, rfl, hbb, _, _, _, c0, c1, c2, c3, _, ht⟩ := (HU.out.ext HBW.out).get hx
      obtain ⟨b', off', k2, n2, s2, u2, rfl, hbb', _, _, _, d0, d1, d2, d3, _, ht'⟩ := (HU'.out.ext HBW.out).get hy
      have ih := fun wq (hq : Below wr.heap.size wr wq) => IH.out x (List.mem_of_getElem? hx) y wq _ _ (TmV.ext hq _ _ ht) (TmV.ext hq _ _ ht')
      clear HD ht ht' hx hy
      cases hq : sameT x y
      · rw [hq, Bool.false_and] at hd
        rw [hq] at ih
        have IHQ := Lib.hid ih
        subst hd
        clear hq ih HR
        go_wp2_with fail
        (refine wp_region_class (fun w' => (w'.cell? ⟨w.heap.size, 3, none⟩ = some (.slice (some ⟨b, off, none⟩) m c) ∧ w'.cell? ⟨w.heap.size + 1, 3, none⟩ = some (.slice (some ⟨b', off', none⟩) m c') ∧ w'.cell? ⟨b, off + i * 4, none⟩ = some (.int .i64 k1) ∧ w'.cell? ⟨b, off + i * 4 + 1, none⟩ = some (.int .i64 n1) ∧ w'.cell? ⟨b, off + i * 4 + 2, none⟩ = some (.string s1) ∧ w'.cell? ⟨b, off + i * 4 + 3, none⟩ = some u1 ∧ w'.cell? ⟨b', off' + i * 4, none⟩ = some (.int .i64 k2) ∧ w'.cell? ⟨b', off' + i * 4 + 1, none⟩ = some (.int .i64 n2) ∧ w'.cell? ⟨b', off' + i * 4 + 2, none⟩ = some (.string s2) ∧ w'.cell? ⟨b', off' + i * 4 + 3, none⟩ = some u2) ∧ Below wr.heap.size wr w') (by kernel_rfl) (by kernel_rfl) (⟨⟨e3, f3, c0, c1, c2, c3, d0, d1, d2, d3⟩, (Below.refl _ _).drew⟩) ?_; (repeat (first | go_big_quiet_skip | (go_big_quiet_want; refine quiet_of ?_; apply Exists.intro; refine ⟨fun wq hq => ?_, ?_⟩; (focus ((try dsimp only at hq); go_simp; (first | done | with_reducible rfl | ((go_at_call 22; refine (IHQ.out wq hq.2).mono ?_; rintro e w6 ⟨rfl, h6⟩; exact ⟨rfl, ⟨cell_later h6 hq.1.1, cell_later h6 hq.1.2.1, cell_later h6 hq.1.2.2.1, cell_later h6 hq.1.2.2.2.1, cell_later h6 hq.1.2.2.2.2.1, cell_later h6 hq.1.2.2.2.2.2.1, cell_later h6 hq.1.2.2.2.2.2.2.1, cell_later h6 hq.1.2.2.2.2.2.2.2.1, cell_later h6 hq.1.2.2.2.2.2.2.2.2.1, cell_later h6 hq.1.2.2.2.2.2.2.2.2.2⟩, Below.trans hq.2 (h6.mono hq.2.size)⟩)) | fail))); try simp only [Act.put, List.setIfInBounds_toArray, List.set_cons_zero, List.set_cons_succ]; go_big_quiet_on) | fail)); refine wpQuiet_nil ?_; intro wz hz)
        go_wp2
        go_ret
        exact ⟨rfl, Ext.trans' HBW.out hz.2⟩
      · rw [hq, Bool.true_and] at hd
        rw [hq] at ih
        have IHQ := Lib.hid ih
        have HD := Lib.hid hd
        clear hq ih hd
        go_wp2_with fail
        (refine wp_region_class (fun w' => (w'.cell? ⟨w.heap.size, 3, none⟩ = some (.slice (some ⟨b, off, none⟩) m c) ∧ w'.cell? ⟨w.heap.size + 1, 3, none⟩ = some (.slice (some ⟨b', off', none⟩) m c') ∧ w'.cell? ⟨b, off + i * 4, none⟩ = some (.int .i64 k1) ∧ w'.cell? ⟨b, off + i * 4 + 1, none⟩ = some (.int .i64 n1) ∧ w'.cell? ⟨b, off + i * 4 + 2, none⟩ = some (.string s1) ∧ w'.cell? ⟨b, off + i * 4 + 3, none⟩ = some u1 ∧ w'.cell? ⟨b', off' + i * 4, none⟩ = some (.int .i64 k2) ∧ w'.cell? ⟨b', off' + i * 4 + 1, none⟩ = some (.int .i64 n2) ∧ w'.cell? ⟨b', off' + i * 4 + 2, none⟩ = some (.string s2) ∧ w'.cell? ⟨b', off' + i * 4 + 3, none⟩ = some u2) ∧ Below wr.heap.size wr w') (by kernel_rfl) (by kernel_rfl) (⟨⟨e3, f3, c0, c1, c2, c3, d0, d1, d2, d3⟩, (Below.refl _ _).drew⟩) ?_; (repeat (first | go_big_quiet_skip | (go_big_quiet_want; refine quiet_of ?_; apply Exists.intro; refine ⟨fun wq hq => ?_, ?_⟩; (focus ((try dsimp only at hq); go_simp; (first | done | with_reducible rfl | ((go_at_call 22; refine (IHQ.out wq hq.2).mono ?_; rintro e w6 ⟨rfl, h6⟩; exact ⟨rfl, ⟨cell_later h6 hq.1.1, cell_later h6 hq.1.2.1, cell_later h6 hq.1.2.2.1, cell_later h6 hq.1.2.2.2.1, cell_later h6 hq.1.2.2.2.2.1, cell_later h6 hq.1.2.2.2.2.2.1, cell_later h6 hq.1.2.2.2.2.2.2.1, cell_later h6 hq.1.2.2.2.2.2.2.2.1, cell_later h6 hq.1.2.2.2.2.2.2.2.2.1, cell_later h6 hq.1.2.2.2.2.2.2.2.2.2⟩, Below.trans hq.2 (h6.mono hq.2.size)⟩)) | fail))); try simp only [Act.put, List.setIfInBounds_toArray, List.set_cons_zero, List.set_cons_succ]; go_big_quiet_on) | fail)); refine wpQuiet_nil ?_; intro wz hz)
        go_wp2
        go_roundw
        case rel => exact ⟨i + 1, by omega, by go_num, HD, Lib.hid (Ext.trans' HB.out hz.2)⟩
        case measure => simp [intOf]; omega
    · have hd := HD.out
      rw [List.drop_eq_nil_of_le (by rw [HM.out]; omega), List.drop_eq_nil_of_le (by rw [HM'.out]; omega), sameL] at hd
      subst hd
      clear HR HD
      go_wp2
      go_ret
      exact ⟨rfl, HBW.out⟩
end Go.Proofs.YtaojalicnnnkmaaGreatDoor
/- Terms: the document's Same, whole. -/
namespace Go.Proofs.YtaojalicnnnkmaaGreatDoor
open Go.RowKit
set_option linter.unusedVariables false

set_option maxHeartbeats 4000000 in
theorem rsame_at : ∀ (N : Nat) (x : Tm), sizeN x ≤ N → ∀ (y : Tm) (w : World) (va vb : Value), TmV w x va → TmV w y vb →
    Calls Tryz.prog 22 #[va, vb] w fun e w' => e = .returned (.bool (sameT x y)) ∧ Below w.heap.size w w'
  | 0, x, h, y, w, va, vb, hv, hv' => by have := size_pos x; omega
  | N + 1, .mk k n s ts, h, .mk k' n' s' ts', w, va, vb, hv, hv' => by
    obtain ⟨u, rfl, hs, hk, hn, hu⟩ := tmV_iff.1 hv
    obtain ⟨u', rfl, hs', hk', hn', hu'⟩ := tmV_iff.1 hv'
    obtain ⟨a, c, rfl, h1, h2, h3⟩ := hu.len
    obtain ⟨a', c', rfl, h1', h2', h3'⟩ := hu'.len
    unfold BIG at h3 h3' hs hs'
    have IH := Lib.hid (fun (x : Tm) (hx : x ∈ ts) => rsame_at N x (mem_size h hx))
    obtain ⟨m, hm⟩ : ∃ m, ts.length = m := ⟨_, rfl⟩
    obtain ⟨m', hm'⟩ : ∃ m', ts'.length = m' := ⟨_, rfl⟩
    have hmk := same_mk k n k' n' s s' ts ts'
    have HW := Lib.hid (show Below w.heap.size w ((w.alloc (box4 k n s (.slice a ts.length c) 46)).alloc (box4 k' n' s' (.slice a' ts'.length c') 46)) from (bel1' w _).alloc (by simp) _)
    by_cases g1 : k = k'
    · subst g1
      by_cases g2 : n = n'
      · subst g2
        by_cases g3 : s = s'
        · subst g3
          by_cases g4 : m = m'
          · subst g4
            rw [hmk, beq_self_eq_true, beq_self_eq_true, beq_self_eq_true, Bool.true_and, Bool.true_and, Bool.true_and]
            rw [hm] at h1 h3 hu ⊢
            rw [hm'] at h1' h3' hu' ⊢
            exact rsame_args h1 h2 h1' h2' h3 (Lib.hid hm) (Lib.hid hm') (Lib.hid hu) (Lib.hid hu') IH
          · have hr : sameT (.mk k n s ts) (.mk k n s ts') = false := by rw [hmk, sames_len (by rw [hm, hm']; exact g4), Bool.and_false]
            rw [hr]
            rw [hm] at h1 h3 HW ⊢
            rw [hm'] at h1' h3' HW ⊢
            have g4' : ((m : Int) != m') = true := by simp; omega
            have g4n : ¬ (m : Int) = m' := by omega
            clear hr hmk hm hm' hv hv' hu hu' IH h
            go_enter Tryz.func22, Tryz.ntmps22
            go_wp2
            go_ret
            exact ⟨rfl, HW.out⟩
        · have hb : (s.data.toList == s'.data.toList) = false := beq_false_of_ne (fun e => g3 (bytes_eq e))
          have hr : sameT (.mk k n s ts) (.mk k n s' ts') = false := by rw [hmk, hb]; simp
          rw [hr]
          have g3' : (s.toList == s'.toList) = false := by rw [Lib.toList_data, Lib.toList_data]; exact hb
          have g3n : ¬ s.toList = s'.toList := by rw [Lib.toList_data, Lib.toList_data]; exact fun e => g3 (bytes_eq e)
          clear hr hmk hm hm' hv hv' hu hu' IH h hb
          go_enter Tryz.func22, Tryz.ntmps22
          go_wp2
          go_ret
          exact ⟨rfl, HW.out⟩
      · have hr : sameT (.mk k n s ts) (.mk k n' s' ts') = false := by rw [hmk, beq_false_of_ne g2]; simp
        rw [hr]
        have g2' : (n != n') = true := by simpa using g2
        clear hr hmk hm hm' hv hv' hu hu' IH h
        go_enter Tryz.func22, Tryz.ntmps22
        go_wp2
        go_ret
        exact ⟨rfl, HW.out⟩
    · have hr : sameT (.mk k n s ts) (.mk k' n' s' ts') = false := by rw [hmk, beq_false_of_ne g1]; simp
      rw [hr]
      have g1' : (k != k') = true := by simpa using g1
      clear hr hmk hm hm' hv hv' hu hu' IH h
      go_enter Tryz.func22, Tryz.ntmps22
      go_wp2
      go_ret
      exact ⟨rfl, HW.out⟩

end Go.Proofs.YtaojalicnnnkmaaGreatDoor
/- The document's side of chapter 14: Same, of goals and the same goals. -/
namespace Go.Proofs.YtaojalicnnnkmaaGreatDoor
open Go.RowKit
set_option linter.unusedVariables false

theorem stays_of {w w' : World} (hb : Below w.heap.size w w') : Stays w w' := ⟨hb.size, fun x v hv => cell_later hb hv⟩
set_option maxHeartbeats 8000000 in
set_option maxRecDepth 100000 in
/-- Same: goals and the same goals. -/
theorem rSameG_at : ∀ (M : Nat) (l : List Gl), cntL l ≤ M → ∀ (w : World) (v v' : Value), GoalsV w l v → GoalsV w l v' → Calls Tryz.prog 20 #[v, v'] w fun e w' => e = .returned (.bool true) ∧ Below w.heap.size w w'
  | M, l, h, w, v, v', hv, hv' => by
    obtain ⟨a, c, rfl, h1, h2, h3⟩ := hv.len
    obtain ⟨a', c', rfl, h1', h2', _⟩ := hv'.len
    unfold maxLen at h2 h2'
    have IH := Lib.hid (fun (r : List Gl) (hr : cntL r < M) => rSameG_at (M - 1) r (by omega))
    have HV := Lib.hid hv
    have HV' := Lib.hid hv'
    obtain ⟨m, hm⟩ : ∃ m, l.length = m := ⟨_, rfl⟩
    have HM := Lib.hid hm
    have HH := Lib.hid h
    rw [hm] at h1 h3 h1' HV HV' ⊢
    clear hv hv' hm h
    go_enter Tryz.func20, Tryz.ntmps20
    go_wp2_with fail
    go_loopw [5] (fun i wr => ∃ j : Nat, j ≤ m ∧ i = .int .i64 j ∧ Hid (Below w.heap.size w wr)) (fun i _ => m - (intOf i).toNat)
    case atStart => exact ⟨0, Nat.zero_le _, rfl, Lib.hid (Below.refl _ _)⟩
    case round =>
      obtain ⟨j, hj, rfl, HB⟩ := hrel
      by_cases hjm : j < m
      · obtain ⟨g, hg⟩ : ∃ g, l[j]? = some g := ⟨_, List.getElem?_eq_getElem (by rw [HM.out]; exact hjm)⟩
        obtain ⟨b, off, kt, nt, st, at_, mt, ct, ar, mr, cr, rfl, _, d0, d1, d2, d3, d4, d5, _, htm, hrows⟩ := (HV.out.stay (stays_of HB.out)).get hg
        obtain ⟨b', off', kt', nt', st', at', mt', ct', ar', mr', cr', rfl, _, f0, f1, f2, f3, f4, f5, _, htm', hrows'⟩ := (HV'.out.stay (stays_of HB.out)).get hg
        have hgl : mr = g.l.length := by obtain ⟨_, _, e, _⟩ := hrows.len; cases e; rfl
        have hgl' : mr' = mr := by obtain ⟨_, _, e, _⟩ := hrows'.len; cases e; exact hgl.symm
        subst hgl'
        have hmrb : mr' ≤ 9223372036854775807 := by obtain ⟨_, _, e, h5, h6, _⟩ := hrows.len; cases e; unfold maxLen at h6; omega
        have HR := Lib.hid (And.intro hrows hrows')
        have HG := Lib.hid (And.intro hg hgl)
        have HS := Lib.hid (fun wq (hq : Below wr.heap.size wr wq) => rsame_at _ g.t (Nat.le_refl _) g.t wq _ _ (TmV.ext hq _ _ htm) (TmV.ext hq _ _ htm'))
        obtain ⟨k, hk⟩ : ∃ k, g.kind = k := ⟨_, rfl⟩
        rw [hk] at d0 f0
        have hjm2 : (j : Int) < m := by omega
        clear hrows hrows' hg hgl htm htm' hk
        go_wp2_with fail
        (refine wp_region_class (fun w' => (w'.cell? ⟨b, off + j * 6, none⟩ = some (.int .i64 k) ∧ w'.cell? ⟨b, off + j * 6 + 1, none⟩ = some (.int .i64 kt) ∧ w'.cell? ⟨b, off + j * 6 + 2, none⟩ = some (.int .i64 nt) ∧ w'.cell? ⟨b, off + j * 6 + 3, none⟩ = some (.string st) ∧ w'.cell? ⟨b, off + j * 6 + 4, none⟩ = some (.slice at_ mt ct) ∧ w'.cell? ⟨b, off + j * 6 + 5, none⟩ = some (.slice ar mr' cr) ∧ w'.cell? ⟨b', off' + j * 6, none⟩ = some (.int .i64 k) ∧ w'.cell? ⟨b', off' + j * 6 + 1, none⟩ = some (.int .i64 kt') ∧ w'.cell? ⟨b', off' + j * 6 + 2, none⟩ = some (.int .i64 nt') ∧ w'.cell? ⟨b', off' + j * 6 + 3, none⟩ = some (.string st') ∧ w'.cell? ⟨b', off' + j * 6 + 4, none⟩ = some (.slice at' mt' ct') ∧ w'.cell? ⟨b', off' + j * 6 + 5, none⟩ = some (.slice ar' mr' cr')) ∧ Below wr.heap.size wr w') (by kernel_rfl) (by kernel_rfl) (⟨⟨d0, d1, d2, d3, d4, d5, f0, f1, f2, f3, f4, f5⟩, (Below.refl _ _).drew⟩) ?_; (repeat (first | go_big_quiet_skip | (go_big_quiet_want; refine quiet_of ?_; apply Exists.intro; refine ⟨fun wq hq => ?_, ?_⟩; (focus ((try dsimp only at hq); go_simp; (first | done | with_reducible rfl | ((go_at_call 22; refine (HS.out wq hq.2).mono ?_; rintro e w6 ⟨rfl, h6⟩; rw [same_self]; exact ⟨rfl, ⟨cell_later h6 hq.1.1, cell_later h6 hq.1.2.1, cell_later h6 hq.1.2.2.1, cell_later h6 hq.1.2.2.2.1, cell_later h6 hq.1.2.2.2.2.1, cell_later h6 hq.1.2.2.2.2.2.1, cell_later h6 hq.1.2.2.2.2.2.2.1, cell_later h6 hq.1.2.2.2.2.2.2.2.1, cell_later h6 hq.1.2.2.2.2.2.2.2.2.1, cell_later h6 hq.1.2.2.2.2.2.2.2.2.2.1, cell_later h6 hq.1.2.2.2.2.2.2.2.2.2.2.1, cell_later h6 hq.1.2.2.2.2.2.2.2.2.2.2.2⟩, Below.trans hq.2 (h6.mono hq.2.size)⟩)) | fail))); try simp only [Act.put, List.setIfInBounds_toArray, List.set_cons_zero, List.set_cons_succ]; go_big_quiet_on) | fail)); refine wpQuiet_nil ?_; intro wz hz)
        have HB2 := Lib.hid (Ext.trans' HB.out hz.2)
        have HR2 := Lib.hid (And.intro (HR.out.1.stay (stays_of hz.2)) (HR.out.2.stay (stays_of hz.2)))
        have HC2 := Lib.hid (show wz.cell? ⟨b, off + j * 6 + 5, none⟩ = some (.slice ar mr' cr) ∧ wz.cell? ⟨b', off' + j * 6 + 5, none⟩ = some (.slice ar' mr' cr') from ⟨hz.1.2.2.2.2.2.1, hz.1.2.2.2.2.2.2.2.2.2.2.2⟩)
        clear hz HR HS HB d0 d1 d2 d3 d4 d5 f0 f1 f2 f3 f4 f5
        go_wp2_with fail
        go_loopw [6] (fun i wx => ∃ q : Nat, q ≤ mr' ∧ i = .int .i64 q ∧ Hid (Below wz.heap.size wz wx)) (fun i _ => mr' - (intOf i).toNat)
        case atStart => exact ⟨0, Nat.zero_le _, rfl, Lib.hid (Below.refl _ _)⟩
        case round =>
          obtain ⟨q, hq, rfl, HX⟩ := hrel
          have d5 := cell_later HX.out HC2.out.1
          have f5 := cell_later HX.out HC2.out.2
          by_cases hqm : q < mr'
          · obtain ⟨r, hr⟩ : ∃ r, g.l[q]? = some r := ⟨_, List.getElem?_eq_getElem (by rw [← HG.out.2]; exact hqm)⟩
            obtain ⟨b2, off2, a2, c2, rfl, _, s0, hgv⟩ := (HR2.out.1.stay (stays_of HX.out)).get hr
            obtain ⟨b3, off3, a3, c3, rfl, _, s1, hgv'⟩ := (HR2.out.2.stay (stays_of HX.out)).get hr
            have hlt := cnt_row (List.mem_of_getElem? HG.out.1) (List.mem_of_getElem? hr)
            have C := Lib.hid (fun wq (hq : Below wr.heap.size wr wq) => IH.out r (by have := HH.out; omega) wq _ _ (hgv.stay (stays_of hq)) (hgv'.stay (stays_of hq)))
            obtain ⟨x, hx⟩ : ∃ x, r.length = x := ⟨_, rfl⟩
            rw [hx] at C s0 s1
            have hqm2 : (q : Int) < mr' := by omega
            clear hr hgv hgv' hlt hx
            go_wp2_with fail
            (refine wp_region_class (fun w' => (w'.cell? ⟨b, off + j * 6 + 5, none⟩ = some (.slice (some ⟨b2, off2, none⟩) mr' cr) ∧ w'.cell? ⟨b', off' + j * 6 + 5, none⟩ = some (.slice (some ⟨b3, off3, none⟩) mr' cr') ∧ w'.cell? ⟨b2, off2 + q, none⟩ = some (.slice a2 x c2) ∧ w'.cell? ⟨b3, off3 + q, none⟩ = some (.slice a3 x c3)) ∧ Below wr.heap.size wr w') (by kernel_rfl) (by kernel_rfl) (⟨⟨d5, f5, s0, s1⟩, (Below.refl _ _).drew⟩) ?_; (repeat (first | go_big_quiet_skip | (go_big_quiet_want; refine quiet_of ?_; apply Exists.intro; refine ⟨fun wq hq => ?_, ?_⟩; (focus ((try dsimp only at hq); go_simp; (first | done | with_reducible rfl | ((go_at_call 20; refine (C.out wq hq.2).mono ?_; rintro e w6 ⟨rfl, h6⟩; exact ⟨rfl, ⟨cell_later h6 hq.1.1, cell_later h6 hq.1.2.1, cell_later h6 hq.1.2.2.1, cell_later h6 hq.1.2.2.2⟩, Below.trans hq.2 (h6.mono hq.2.size)⟩)) | fail))); try simp only [Act.put, List.setIfInBounds_toArray, List.set_cons_zero, List.set_cons_succ]; go_big_quiet_on) | fail)); refine wpQuiet_nil ?_; intro wz hz)
            have HX2 := Lib.hid (Ext.trans' HX.out hz.2)
            clear hz
            go_wp2
            go_roundw
            case rel => exact ⟨q + 1, by omega, by go_num, HX2⟩
            case measure => simp [intOf]; omega
          · have hqe : q = mr' := by omega
            subst hqe
            have HB3 := Lib.hid (Ext.trans' HB2.out HX.out)
            go_wp2
            go_roundw
            case rel => exact ⟨j + 1, by omega, by go_num, HB3⟩
            case measure => simp [intOf]; omega
      · have hje : j = m := by omega
        subst hje
        go_wp2
        go_ret
        exact ⟨rfl, HB.out⟩
end Go.Proofs.YtaojalicnnnkmaaGreatDoor
/- Terms: how deep one is asked of. -/
namespace Go.Proofs.YtaojalicnnnkmaaGreatDoor
open Go.RowKit
set_option linter.unusedVariables false

mutual
def deepT : Tm → Int → Bool
  | .mk _ _ _ ts, left => if left < 1 ∨ 12 < ts.length then true else deepsT ts (left - 1)
def deepsT : List Tm → Int → Bool
  | [], _ => false
  | x :: r, left => deepT x left || deepsT r left
end
end Go.Proofs.YtaojalicnnnkmaaGreatDoor
/- Stage 11's laws: how deep a term is asked of. -/
namespace Go.Proofs.YtaojalicnnnkmaaGreatDoor
open Go.RowKit
set_option linter.unusedVariables false

set_option maxHeartbeats 2000000 in
theorem deep14_at : ∀ (N : Nat) (x : Tm), sizeN x ≤ N → ∀ (left : Int), I64 left → ∀ (w : World) (v : Value), TmV w x v →
    Calls Tryz.prog 16 #[v, .int .i64 left] w fun e w' => e = .returned (.bool (deepT x left)) ∧ Below w.heap.size w w'
  | 0, x, h, left, hl, w, v, hv => by have := size_pos x; omega
  | N + 1, .mk k n s ts, h, left, hl, w, v, hv => by
    obtain ⟨u, rfl, hs, hk, hn, hu⟩ := tmV_iff.1 hv
    obtain ⟨a, c, rfl, h1, h2, h3⟩ := hu.len
    unfold BIG at h3
    unfold I64 at hl
    have hD : deepT (.mk k n s ts) left = if left < 1 ∨ 12 < ts.length then true else deepsT ts (left - 1) := by rw [deepT]
    by_cases hlt : left < 1
    · rw [hD, if_pos (Or.inl hlt)]
      clear hD
      go_enter Tryz.func16, Tryz.ntmps16
      go_wp2
      go_ret
      exact ⟨rfl, bel1' _ _⟩
    obtain ⟨m, hm⟩ : ∃ m, ts.length = m := ⟨_, rfl⟩
    by_cases h12 : 12 < m
    · rw [hD, if_pos (Or.inr (by rw [hm]; exact h12))]
      rw [hm] at h1 h3 ⊢
      clear hD hv hu hm
      go_enter Tryz.func16, Tryz.ntmps16
      go_wp2
      go_ret
      exact ⟨rfl, bel1' _ _⟩
    rw [hD, if_neg (by rw [hm]; omega)]
    have hI : I64 (left - 1) := by unfold I64; omega
    have IH := Lib.hid (fun (y : Tm) (hy : y ∈ ts) => deep14_at N y (mem_size h hy) (left - 1) hI)
    have HU := Lib.hid hu
    have HM := Lib.hid hm
    rw [hm] at h1 h3 hu HU ⊢
    obtain ⟨r, hr⟩ : ∃ r, deepsT ts (left - 1) = r := ⟨_, rfl⟩
    rw [hr]
    have HR := Lib.hid hr
    clear hD hv hu hm hr h
    go_enter Tryz.func16, Tryz.ntmps16
    go_wp2_with fail
    go_loopw [5] (fun v wr => ∃ i : Nat, i ≤ m ∧ v = .int .i64 i ∧ Hid (deepsT (ts.drop i) (left - 1) = r) ∧ Hid (Below (w.alloc (.cells #[.int .i64 k, .int .i64 n, .string s, .slice a m c] 31)).heap.size (w.alloc (.cells #[.int .i64 k, .int .i64 n, .string s, .slice a m c] 31)) wr)) (fun v _ => m - (intOf v).toNat)
    case atStart => exact ⟨0, Nat.zero_le _, rfl, Lib.hid (by rw [List.drop_zero]; exact HR.out), Lib.hid (Below.refl _ _)⟩
    case round =>
      obtain ⟨i, hi, rfl, HD, HB⟩ := hrel
      obtain ⟨e0, e1, e2, e3⟩ := box_cells w 31 _ _ _ _ HB.out
      by_cases hil : i < m
      · obtain ⟨y, hy⟩ : ∃ y, ts[i]? = some y := ⟨_, List.getElem?_eq_getElem (by rw [HM.out]; exact hil)⟩
        have hdr : ts.drop i = y :: ts.drop (i + 1) := by
          obtain ⟨hlt', rfl⟩ := List.getElem?_eq_some_iff.1 hy
          exact List.drop_eq_getElem_cons hlt'
        have hd := HD.out
        rw [hdr, deepsT] at hd
        have HBW := Lib.hid (Ext.trans' (bel1' w _) HB.out)
        obtain ⟨b, off, k', n', s', u', rfl, hbb, _, _, _, c0, c1, c2, c3, _, ht⟩ := (HU.out.ext HBW.out).get hy
        have ih := IH.out y (List.mem_of_getElem? hy) wr _ ht
        clear hdr HD ht
        cases hq : deepT y (left - 1)
        · rw [hq, Bool.false_or] at hd
          rw [hq] at ih
          have HD := Lib.hid hd
          clear hq hd hy
          (go_wp2_with fail; go_fit (ih); rintro e w2 ⟨rfl, b2⟩)
          have B2 := Lib.hid (Ext.trans' HB.out b2)
          clear b2
          go_wp2
          go_roundw
          case rel => exact ⟨i + 1, by omega, by go_num, HD, B2⟩
          case measure => simp [intOf]; omega
        · rw [hq, Bool.true_or] at hd
          rw [hq] at ih
          subst hd
          clear hq hy HR
          (go_wp2_with fail; go_fit (ih); rintro e w2 ⟨rfl, b2⟩)
          have B2 := Lib.hid (Ext.trans' HBW.out b2)
          clear b2
          go_wp2
          go_ret
          exact ⟨rfl, B2.out⟩
      · have hd := HD.out
        rw [List.drop_eq_nil_of_le (by rw [HM.out]; omega), deepsT] at hd
        subst hd
        clear HR HD
        go_wp2
        go_ret
        exact ⟨rfl, Ext.trans' (bel1' w _) HB.out⟩
end Go.Proofs.YtaojalicnnnkmaaGreatDoor
