import Derived.Test.YtobdhcaoeholhaaGreatDoorHszay
import Derived.Test.YtobdhcaoeholhaaGreatDoorHszan
import Derived.Test.YtobdhcaoeholhaaGreatDoorHszaq
import Derived.Test.YtobdhcaoeholhaaGreatDoorHszar
import Derived.Test.YtobdhcaoeholhaaGreatDoorHszao
import Derived.Test.YtobdhcaoeholhaaGreatDoorHszap
set_option linter.unusedVariables false
set_option linter.unusedSimpArgs false
/- The document's ReadAll. -/
namespace Go.Proofs.YtobdhcaoeholhaaGreatDoor
open Go.Shelf Go.RowKit
set_option linter.unusedVariables false

theorem turn_new {D M : Nat → Bool} {w w' : World} {b : Nat} (hb : Below w.heap.size w w') (h1 : w.heap.size ≤ b) : Turn D M (plusB D b) (plusB M b) w w' :=
  ⟨hb.size, fun k hk => plusB_ne (by omega), fun k hk => plusB_ne (by omega), fun k hk _ => hb.block k hk, hb.mono (Nat.zero_le _)⟩
theorem Sd.start2 {D M : Nat → Bool} {w w4 : World} {xs : List O} {L : List TokP} {vo vl : Value} {a : Nat} (hE : Okd D M w) (ho : Ops (hide D w) vo xs) (hl : Toks (hide D w) vl L) (hL : L.length ≤ 1024 ∧ ∀ q ∈ L, tokOk q) (ha : a ≤ L.length + 1) (hb : Below w.heap.size w w4)
    (hx : Box w4 w.heap.size [vo, vl, .int .i64 (a : Int), .slice none 0 0, .int .i64 0, .bool false]) : Sd (plusB D w.heap.size) (plusB M w.heap.size) w4 w.heap.size xs L (some ⟨L.drop a, 0, []⟩) := by
  have hst : Stays (hide D w) (hide (plusB D w.heap.size) w4) := Stays.below hb fun k hk hd => (plusB_ne (by omega)).trans hd
  have hlt := hx.lt
  refine { mb := plusB_self _ _, md := fun k hk => ?_, old := fun k hk => (plusB_ne (by omega)).trans (hE.2 k (Nat.le_trans hb.size hk)), co := ⟨vo, hx.cells 0 _ rfl, Elems.stay ho hst⟩, c5 := hx.cells 5 _ rfl, fz := hx.fz, good := fun s hs => ?_ }
  · by_cases e : k = w.heap.size
    · subst e; exact plusB_self _ _
    · rw [plusB_ne e] at hk ⊢; exact hE.1 k hk
  · cases hs
    exact { cl := ⟨vl, hx.cells 1 _ rfl, Elems.stay hl hst⟩
            c2 := ⟨a, hx.cells 2 _ rfl, rfl, ha⟩
            c3 := ⟨_, hx.cells 3 _ rfl, World.ownsRow_nil _ _ _ _, fun k hk => by cases hk⟩
            c4 := hx.cells 4 _ rfl
            nice := ⟨by show 0 + (L.drop a).length ≤ 2000; rw [List.length_drop]; omega, Nat.le_refl _, fun q hq => hL.2 q (List.mem_of_mem_drop hq), fun p hp => by cases hp⟩
            nou := fun p hp => by cases hp }
def pLeft (p : Value) (w : World) (N : Nat) : Nat := match p with
  | .pointer (some ad) => dLeft w ad.block N
  | _ => 0
abbrev no0 : Nat → Bool := fun _ => false
/-- Where the loop of ReadAll stands. -/
structure RLoop (w3 : World) (xs : List O) (l : List TokP) (X : ReadR (List Tm)) (wr : World) (D1 M1 : Nat → Bool) (rb a : Nat) (ps : List TmP) (v : Value) : Prop where
  sd : Sd D1 M1 wr rb xs l (some ⟨l.drop a, 0, []⟩)
  row : RowY D1 M1 wr w3.heap.size v ps
  turn : Turn no0 no0 D1 M1 w3 wr
  c2 : wr.cell? ⟨rb, 2, none⟩ = some (.int .i64 (a : Int))
  ok : behindA (ps.map (·.1)) (ALL (preO xs) (betO xs) (l.drop a)) = X
  le : ps.length + (l.drop a).length ≤ 1024 ∧ a ≤ l.length + 1
  ge : w3.heap.size ≤ rb
set_option maxRecDepth 100000 in
set_option maxHeartbeats 8000000 in
theorem dreadall_at {xs : List O} {w : World} {v : Value} (h : Ops w v xs) (s : ByteArray) (hs : s.size ≤ 140737488351232) :
    Calls Tryz.prog 51 #[v, .string s] w (AllX w (readB ALL xs (bl s))) := by
  obtain ⟨X, hX⟩ : ∃ X, readB ALL xs (bl s) = X := ⟨_, rfl⟩
  rw [hX]
  obtain ⟨ao, co, hvo, hl1, hl2⟩ := h.form
  have HG := goodOps_walk h
  obtain ⟨mo, hmo⟩ : ∃ m, xs.length = m := ⟨_, rfl⟩
  rw [hmo] at hvo
  subst hvo
  have HO := Lib.hid h
  have HXX := Lib.hid hX
  have HC := Lib.hid (fun wq => rcut_any s wq hs)
  obtain ⟨i0, hi0, hz0, hs0, hb0⟩ := info_parts infoTermR
  clear h hl1 hl2 hmo hX hs
  cases hg : goodB xs with
  | false =>
    rw [hg] at HG
    have HG := Lib.hid HG
    have HN := Lib.hid (show X = .bad 1 by rw [← HXX.out]; unfold readB; rw [hg]; rfl)
    clear hg
    go_enter Tryz.func51, Tryz.ntmps51
    (go_wp2_with fail; go_fit (HG.out); rintro e w2 ⟨rfl, hb2⟩)
    have HB2 := Lib.hid hb2
    clear hb2
    go_wp2
    go_ret2
    rw [HN.out]
    exact ⟨rfl, HB2.out⟩
  | true =>
  rw [hg] at HG
  have HG := Lib.hid HG
  cases hc : cutB (bl s) with
  | bad p o =>
    have HC2 : Hid (∀ w2, Calls Tryz.prog 77 #[.string s] w2 fun e w' => e = .returned (.tuple #[.slice none 0 0, .int .i64 (p : Int), .int .i64 (if o then 3 else 2)]) ∧ Below w2.heap.size w2 w') := Lib.hid (fun w2 => (HC.out w2).mono fun e w' h => by rw [hc] at h; exact h)
    have HN := Lib.hid (show X = .bad (if o then 3 else 2) by rw [← HXX.out]; unfold readB; rw [hg, hc]; rfl)
    clear hg hc HC
    go_enter Tryz.func51, Tryz.ntmps51
    (go_wp2_with fail; go_fit (HG.out); rintro e w2 ⟨rfl, hb2⟩)
    have HB2 := Lib.hid hb2
    clear hb2
    cases o
    all_goals
      (go_wp2_with fail; go_fit (HC2.out _); rintro e w3 ⟨rfl, hb3⟩)
      have HB3 := Lib.hid (Ext.trans' HB2.out hb3)
      clear hb3
      go_wp2
      go_ret2
      rw [HN.out]
      exact ⟨rfl, HB3.out⟩
  | ok l =>
    obtain ⟨ml, hml⟩ : ∃ m, l.length = m := ⟨_, rfl⟩
    have HC2 : Hid (∀ w2, Calls Tryz.prog 77 #[.string s] w2 fun e w' => ∃ (al : Option Addr) (cl : Nat), e = .returned (.tuple #[.slice al ml cl, .int .i64 (s.size : Int), .int .i64 0]) ∧ RowT1 w' w2.heap.size (.slice al ml cl) l ∧ Below w2.heap.size w2 w') := Lib.hid (fun w2 => (HC.out w2).mono fun e w' h => by
      rw [hc] at h
      obtain ⟨⟨al, cl, h1, h2⟩, h3⟩ := h
      rw [hml] at h1 h2
      exact ⟨al, cl, h1, h2, h3⟩)
    have HX0 := Lib.hid (show behindA [] (ALL (preO xs) (betO xs) l) = X by
      rw [← HXX.out]; unfold readB; rw [hg, hc]
      simp only [if_true]
      cases ALL (preO xs) (betO xs) l <;> rfl)
    have HGG := Lib.hid hg
    have HML := Lib.hid hml
    have HWF := Lib.hid (cut_wf hc)
    have HTO := Lib.hid (cut_toks hc)
    have hml2 : ml ≤ 1024 := by rw [← hml]; exact HTO.out.1
    clear hg hc HC hml
    go_enter Tryz.func51, Tryz.ntmps51
    (go_wp2_with fail; go_fit (HG.out); rintro e w2 ⟨rfl, hb2⟩)
    have HB2 := Lib.hid hb2
    clear hb2
    (go_wp2_with fail; go_fit (HC2.out _); rintro e w3 ⟨al, cl, rfl, htk, hb3⟩)
    obtain ⟨w4, hw4, hb4, hz4, hx4⟩ := box_new w3 #[.slice ao mo co, .slice al ml cl, .int .i64 0, .slice none 0 0, .int .i64 0, .bool false] 135
    have HB3 := Lib.hid (Ext.trans' HB2.out hb3)
    have HO3 : Hid (Ops (hide no0 w3) (.slice ao mo co) xs) := Lib.hid (by rw [hide_none]; exact HO.out.ext HB3.out)
    have HK3 : Hid (Toks (hide no0 w3) (.slice al ml cl) l) := Lib.hid (toks_hide htk (fun _ _ => rfl))
    have hS4 := Sd.start2 (D := no0) (M := no0) (a := 0) ⟨fun k hk => (by cases hk), fun k hk => rfl⟩ HO3.out HK3.out HTO.out (Nat.zero_le _) hb4 hx4
    have HL4 : Hid (RLoop w3 xs l X w4 (plusB no0 w3.heap.size) (plusB no0 w3.heap.size) w3.heap.size 0 [] (.slice none 0 0)) := Lib.hid { sd := hS4, row := RowY.none _ _ _ _, turn := turn_new hb4 (Nat.le_refl _), c2 := hx4.cells 2 _ rfl, ok := HX0.out, le := ⟨by show 0 + l.length ≤ 1024; have := HTO.out.1; omega, Nat.zero_le _⟩, ge := Nat.le_refl _ }
    clear htk hb3 hb4 hz4 hx4 hS4 HC2 HX0
    go_wp2_with fail
    (try rw [hw4])
    clear hw4
    go_loopw [9, 10] (fun v p wr => ∃ (D1 M1 : Nat → Bool) (rb a : Nat) (ps : List TmP) (a0 : Option Addr) (m c : Nat), v = .slice a0 m c ∧ p = .pointer (some ⟨rb, 0, none⟩) ∧ ps.length = m ∧ Hid (RLoop w3 xs l X wr D1 M1 rb a ps v))
      (fun v p wr => pLeft p wr ml)
    case atStart => exact ⟨_, _, w3.heap.size, 0, [], none, 0, 0, rfl, rfl, rfl, HL4⟩
    case round =>
      obtain ⟨D1, M1, rb, a, ps, a0, m, c, rfl, rfl, hpm, HL⟩ := hrel
      clear HL4
      have HPM := Lib.hid hpm
      have c2 := HL.out.c2
      have HF := Lib.hid (Below.trans HB3.out (HL.out.turn.bel HB3.out.size (fun k hk => rfl)))
      have hms := HL.out.le.1
      rw [hpm, List.length_drop, HML.out] at hms
      clear hpm
      by_cases hn : a < ml
      · have hnd : (a : Int) < (ml : Int) := by omega
        have HNE := Lib.hid (show l.drop a ≠ [] from fun e => by
          have := congrArg List.length e
          rw [List.length_drop, HML.out] at this
          simp at this
          omega)
        have HTM := Lib.hid (dterm_at HWF.out HGG.out HL.out.sd (most := 1200) (by decide))
        have HLF := Lib.hid (show pLeft (.pointer (some ⟨rb, 0, none⟩)) wr ml = 1 + (l.drop a).length by have := HL.out.sd.left; rw [HML.out] at this; exact this)
        (go_wp2_with fail; go_fit (HTM.out); rintro e w4 ⟨D4, M4, t4, v4, lv4, rfl, htv, ht4, hs4, hx4⟩)
        obtain ⟨k4, n4, s4, a4, m4, c4, rfl, ek, en, es, ep⟩ := four_of htv
        obtain ⟨w5, hw5, hb5, hz5, hx5⟩ := box_new w4 #[.int .i64 k4, .int .i64 n4, .string s4, .slice a4 m4 c4] 66
        have HEP := Lib.hid ep
        have HEK := Lib.hid (And.intro ek (And.intro en es))
        have HT5 := Lib.hid ((HL.out.turn.trans ht4).trans (Turn.below hb5))
        have HS5 := Lib.hid (hs4.later hb5)
        have HR5 := Lib.hid ((HL.out.row.turn ht4 HL.out.sd.md).turn (Turn.below hb5) hs4.md)
        have HV5 := Lib.hid (TmV.later hb5 htv)
        have HX4 := Lib.hid hx4
        have HX5 := Lib.hid hx5
        have HF5 := Lib.hid (Below.trans HB3.out (HT5.out.bel HB3.out.size (fun k hk => rfl)))
        have hrb4 : rb < w4.heap.size := hs4.lt
        obtain ⟨x0, x1, x2, x3, xf⟩ := hx5.four
        have c5 := HS5.out.c5
        clear htv ek en es ep ht4 hs4 hx4 hb5 hz5 hx5 HTM c2 hn hnd
        cases hM : TERMX xs 1200 (anewR (l.drop a)) with
        | none =>
          have c6 : w5.cell? ⟨rb, 5, none⟩ = some (.bool true) := by rw [c5]; unfold anewR at hM; rw [hM]; rfl
          clear c5
          have HN := Lib.hid (show X = .bad 2 by rw [← HL.out.ok, ALL_none HNE.out (whole_no hM)]; rfl)
          clear hM
          go_wp2_with fail
          (try rw [hw5])
          clear hw5
          go_wp2
          go_ret2
          rw [HN.out]
          exact ⟨rfl, HF5.out⟩
        | some q =>
          obtain ⟨p, s1⟩ := q
          have hM2 : TERMX xs 1200 ⟨l.drop a, 0, []⟩ = some (p, s1) := hM
          have c6 : w5.cell? ⟨rb, 5, none⟩ = some (.bool false) := by rw [c5, hM2]; rfl
          clear c5
          have HS5 : Hid (Sd D4 M4 w5 rb xs l (some s1)) := Lib.hid (by have h := HS5.out; rw [hM2] at h; exact h)
          obtain ⟨rfl, _⟩ := HX4.out p s1 hM2
          have HPK := Lib.hid (dpeek_at HWF.out HS5.out)
          obtain ⟨x, hx⟩ : ∃ x, headR s1 = x := ⟨_, rfl⟩
          rw [hx] at HPK
          unfold tkVal at HPK
          have hfd : ∀ wq : World, (Instr.field 138 (.agg #[.int .i64 (x.1.kind : Int), .string ⟨x.1.text.toArray⟩, .int .i64 (x.1.n : Int), .bool x.1.opens, .int .i64 (x.2 : Int)]) 0).run Tryz.prog wq = .ok (.int .i64 (x.1.kind : Int)) wq := fun _ => by kernel_rfl
          have HHX := Lib.hid hx
          have HMM := Lib.hid hM
          clear hM hM2 hx
          by_cases hk : x.1.kind = 6
          · have k6 : ((x.1.kind : Int) != 6) = false := by rw [hk]; rfl
            have HW := Lib.hid (whole_yes HMM.out (by rw [HHX.out]; exact hk))
            have hne : s1.rest ≠ [] := head_ne (by rw [HHX.out]; omega)
            have HNR := Lib.hid hne
            have HGD := Lib.hid (fun wq (hq : Below w5.heap.size w5 wq) => rgood_at p.1 wq _ (TmV.ext hq _ _ HV5.out.bare))
            clear hk hne
            cases hgt : goodT p.1 with
            | false =>
              have HN := Lib.hid (show X = .bad 3 by rw [← HL.out.ok, ALL_over HNE.out HW.out hgt]; rfl)
              rw [hgt] at HGD
              clear hgt
              go_wp2_with fail
              (try rw [hw5])
              clear hw5
              (go_wp2_with fail; go_fit (HPK.out); rintro e w6 ⟨rfl, hb6⟩)
              have HB6 := Lib.hid hb6
              obtain ⟨x0, x1, x2, x3, xf⟩ := (HX5.out.ext hb6).four
              clear hb6
              (go_wp2_with fail; go_fit (HGD.out _ HB6.out); rintro e w7 ⟨rfl, hb7⟩)
              have HB7 := Lib.hid (Ext.trans' HF5.out (Ext.trans' HB6.out hb7))
              clear hb7
              go_wp2
              go_ret2
              rw [HN.out]
              exact ⟨rfl, HB7.out⟩
            | true =>
              rw [hgt] at HGD
              have HXA := Lib.hid (show behindA ((ps ++ [(p.1, Value.slice a4 m4 c4)]).map (·.1)) (ALL (preO xs) (betO xs) (dropR s1).rest) = X by
                rw [← HL.out.ok, ALL_some HNE.out HW.out hgt, List.map_append]
                cases ALL (preO xs) (betO xs) (dropR s1).rest with
                | bad e => rfl
                | ok r => simp [behindA])
              have HLT2 := Lib.hid (whole_lt HW.out)
              clear hgt
              go_wp2_with fail
              (try rw [hw5])
              clear hw5
              (go_wp2_with fail; go_fit (HPK.out); rintro e w6 ⟨rfl, hb6⟩)
              have HB6 := Lib.hid hb6
              obtain ⟨x0, x1, x2, x3, xf⟩ := (HX5.out.ext hb6).four
              clear hb6 c6
              (go_wp2_with fail; go_fit (HGD.out _ HB6.out); rintro e w7 ⟨rfl, hb7⟩)
              have hb57 := Ext.trans' HB6.out hb7
              have hs7 := HS5.out.later hb57
              obtain ⟨_, _, _, a5, _, _, c2, _, _, _, fz, _, _, _, _, hr, hal⟩ := hs7.parts
              have ha5 : a5 < l.length := by
                rcases Nat.lt_or_ge a5 l.length with hh | hh
                · exact hh
                · exact absurd (by rw [hr]; exact List.drop_eq_nil_of_le hh) HNR.out
              have hml3 : l.length ≤ 1024 := HTO.out.1
              have hwa : IntKind.i64.wrap ((a5 : Int) + 1) = (a5 : Int) + 1 := by rw [IntKind.wrap_i64]; omega
              have hrx : w4.heap.size ≠ rb := by omega
              have HSS := Lib.hid (hs7.pass c2 (by omega))
              have hrow7 := (HR5.out.turn (Turn.below hb57) HS5.out.md)
              have HRS := Lib.hid (hrow7.put ⟨rb, 2, none⟩ (.int .i64 ((a5 : Int) + 1)) (hs7.md rb hs7.mb) (fun g hg e => by have h1 := (hrow7.2.1 g hg).2; simp only at e; rw [e, hs7.mb] at h1; cases h1))
              have HTS := Lib.hid ((HT5.out.trans (Turn.below hb57)).set ⟨rb, 2, none⟩ (.int .i64 ((a5 : Int) + 1)) (Or.inl HL.out.ge))
              have HVS := Lib.hid (TmV.stay (Stays.set ⟨rb, 2, none⟩ (.int .i64 ((a5 : Int) + 1)) (hs7.md rb hs7.mb)) _ _ (TmV.later hb57 HV5.out))
              obtain ⟨x0, x1, x2, x3, xf⟩ := ((HX5.out.ext hb57).far (c := rb) (k := 2) (u := .int .i64 ((a5 : Int) + 1)) hrx).four
              have HMB := Lib.hid hs7.mb
              clear hb7 hb57 hs7 hr hal hrow7 ha5
              obtain ⟨wS, hwS⟩ : ∃ wS, w7.setCell ⟨rb, 2, none⟩ (.int .i64 ((a5 : Int) + 1)) = wS := ⟨_, rfl⟩
              rw [hwS] at HSS HRS HTS HVS x0 x1 x2 x3
              have hb8 := bel1' wS (.cells #[.int .i64 k4, .int .i64 n4, .string s4, .slice a4 m4 c4] 66)
              have HW8 := Lib.hid (HRS.out.turn (Turn.below hb8) HSS.out.md)
              have HS8 := Lib.hid (HSS.out.later hb8)
              have HT8 := Lib.hid (HTS.out.trans (Turn.below hb8))
              have HV8 := Lib.hid (TmV.later hb8 HVS.out)
              have hwz : w3.heap.size ≤ (wS.alloc (.cells #[.int .i64 k4, .int .i64 n4, .string s4, .slice a4 m4 c4] 66)).heap.size := HT8.out.size
              have hrow : (wS.alloc (.cells #[.int .i64 k4, .int .i64 n4, .string s4, .slice a4 m4 c4] 66)).ownsRow w3.heap.size 66 4 (.slice a0 m c) m (ps.flatMap pCells) := by have h := HW8.out.1; unfold RowP at h; rw [HPM.out] at h; exact h
              have HROW := Lib.hid hrow
              have hm1024 : m ≤ 1024 := by omega
              clear hb8 hrow xf
              go_wp2_with (at_builtin; (try rw [hwS]); refine wpList_append_k rfl _ _ 64 rfl w3.heap.size 66 i0 (.agg #[.int .i64 0, .int .i64 0, .string ⟨#[]⟩, .slice none 0 0]) 4 56 Tryz.underlying64 hi0 hz0 hs0 (by decide) hb0 rfl (.slice a0 m c) m (ps.flatMap pCells) rfl HROW.out (some ⟨wS.heap.size, 0, none⟩) 1 1 [.int .i64 k4, .int .i64 n4, .string s4, .slice a4 m4 c4] rfl rfl (Or.inr ⟨_, rfl, fun j u hu => cell_new wS #[.int .i64 k4, .int .i64 n4, .string s4, .slice a4 m4 c4] _ j u hu⟩) (by simp [Value.oneCell']) (by unfold maxLen; omega) (by omega) hwz (m + 1) (ps.flatMap pCells ++ [.int .i64 k4, .int .i64 n4, .string s4, .slice a4 m4 c4]) rfl rfl ?_; intro a7 c7 w8 hown7 hgrow7 hat7; have hS9 := HS8.out.grown hgrow7 HW8.out.2.1 hat7 hown7; obtain ⟨_, _, _, a9, _, _, c9, _, _, _, fz9, _, _, _, _, hr, hal⟩ := hS9.parts; have HS9 := Lib.hid hS9; clear hS9)
              have hpc : pCells (p.1, .slice a4 m4 c4) = [.int .i64 k4, .int .i64 n4, .string s4, .slice a4 m4 c4] := by unfold pCells; rw [← HEK.out.1, ← HEK.out.2.1, ← HEK.out.2.2]
              have HR9 := Lib.hid (HW8.out.more (by rw [← HEP.out]; exact HV8.out) HS8.out.okd hgrow7 hat7 (by rw [HPM.out, hpc]; exact hown7))
              have HT9 := Lib.hid (HT8.out.grown hgrow7 (fun g hg => (row_in HROW.out hg).1) hat7)
              clear hown7 hgrow7 hat7 hpc hwz x0 x1 x2 x3 c2 fz hwa
              obtain ⟨D9, hD9⟩ : ∃ D9, withB D4 (.slice a7 (m + 1) c7) = D9 := ⟨_, rfl⟩
              rw [hD9] at HS9 HR9 HT9
              obtain ⟨w10, hw10, hb10, hz10, hx10⟩ := box_new w8 #[.slice ao mo co, .slice al ml cl, .int .i64 (a9 : Int), .slice none 0 0, .int .i64 0, .bool false] 135
              have hst := HT9.out.stays (fun k hk => by cases hk)
              have hs10 := Sd.start2 HS9.out.okd (Elems.stay HO3.out hst) (Elems.stay HK3.out hst) HTO.out hal hb10 hx10
              have HL10 : Hid (RLoop w3 xs l X w10 (plusB D9 w8.heap.size) (plusB M4 w8.heap.size) w8.heap.size a9 (ps ++ [(p.1, Value.slice a4 m4 c4)]) (.slice a7 (m + 1) c7)) := Lib.hid {
                sd := hs10, row := HR9.out.turn (turn_new hb10 (Nat.le_refl _)) HS9.out.md, turn := HT9.out.trans (turn_new hb10 (Nat.le_refl _)), c2 := hx10.cells 2 _ rfl
                ok := by rw [← hr]; exact HXA.out
                le := ⟨by
                  have h1 := HLT2.out
                  have h2 := HL.out.le.1
                  rw [hr] at h1
                  rw [List.length_append]
                  simp only [List.length_cons, List.length_nil]
                  omega, hal⟩
                ge := HT9.out.size }
              have HME := Lib.hid (show pLeft (.pointer (some ⟨w8.heap.size, 0, none⟩)) w10 ml < pLeft (.pointer (some ⟨rb, 0, none⟩)) wr ml by
                have h1 := hs10.left
                rw [HML.out] at h1
                rw [HLF.out]
                show dLeft w10 w8.heap.size ml < _
                rw [h1]
                have h2 := HLT2.out
                rw [hr] at h2
                show 1 + (l.drop a9).length < _
                omega)
              clear hr hal hb10 hz10 hx10 hst hs10 hD9
              (try rw [hw10])
              clear hw10
              go_roundw
              case rel => exact ⟨_, _, w8.heap.size, a9, _, a7, m + 1, c7, rfl, rfl, by rw [List.length_append, HPM.out]; rfl, HL10⟩
              case measure => exact HME.out
          · have k6 : ((x.1.kind : Int) != 6) = true := by simp; omega
            have HN := Lib.hid (show X = .bad 2 by rw [← HL.out.ok, ALL_none HNE.out (whole_open HMM.out (by rw [HHX.out]; exact hk))]; rfl)
            clear hk
            go_wp2_with fail
            (try rw [hw5])
            clear hw5
            (go_wp2_with fail; go_fit (HPK.out); rintro e w6 ⟨rfl, hb6⟩)
            have HB6 := Lib.hid (Ext.trans' HF5.out hb6)
            clear hb6
            go_wp2
            go_ret2
            rw [HN.out]
            exact ⟨rfl, HB6.out⟩
      · have hnd : ¬ ((a : Int) < (ml : Int)) := by omega
        have HN := Lib.hid (show X = .ok (ps.map (·.1)) by rw [← HL.out.ok, List.drop_eq_nil_of_le (by rw [HML.out]; omega), ALL_nil]; simp [behindA])
        clear hn
        go_wp2
        go_ret2
        rw [HN.out]
        have hT := HL.out.row.1.terms (fun p hp => (HL.out.row.2.2 p hp).bare) (by rw [HPM.out]; unfold BIG; omega)
        obtain ⟨a', c', e, _⟩ := hT.len
        injection e with e1 e2 e3
        subst e1 e3
        refine ⟨⟨a0, c, ?_, ?_⟩, HF.out⟩
        · rw [List.length_map, HPM.out]; rfl
        · rw [List.length_map, HPM.out]; exact hT
end Go.Proofs.YtobdhcaoeholhaaGreatDoor
/- The laws' own tables as the document's. -/
namespace Go.Proofs.YtobdhcaoeholhaaGreatDoor
open Go.Shelf Go.RowKit
set_option linter.unusedVariables false
set_option maxRecDepth 100000
set_option maxHeartbeats 2000000 in
theorem ownOps8_walk {w : World} {v : Value} {xs : List O} (h : Ops w v xs) (hl : xs.length ≤ 5000) :
    Calls Tryz.prog 49 #[.agg #[v]] w fun e w' => ∃ a c, e = .returned (.slice a xs.length c) ∧ Ops w' (.slice a xs.length c) xs ∧ Below w.heap.size w w' := by
  obtain ⟨a, c, rfl, hl1, hl2⟩ := h.form
  unfold maxLen at hl2
  have H := Lib.hid h
  clear h
  obtain ⟨i0, hi0, hz0, hs0, hb0⟩ := infoR_parts
  go_enter Tryz.func49, Tryz.ntmps49
  go_wp2_with fail
  go_loopw [3, 4] (fun r i wr => ∃ (k : Nat) (a' : Option Addr) (c' : Nat), k ≤ xs.length ∧ i = .int .i64 k ∧ r = .slice a' k c' ∧ Hid (wr.ownsRow (w.heap.size + 1) 114 3 (.slice a' k c') k ((xs.take k).flatMap oCells) ∧
    wr.cell? ⟨w.heap.size, 0, none⟩ = some (.slice a xs.length c) ∧ w.heap.size + 1 ≤ wr.heap.size ∧ Below (w.heap.size + 1) (w.alloc (.cells #[.slice a xs.length c] 36)) wr)) (fun _ i _ => xs.length - (intOf i).toNat)
  case atStart => exact ⟨0, none, 0, by omega, rfl, rfl, Lib.hid ⟨⟨rfl, Or.inl ⟨rfl, rfl⟩⟩, by simp, by simp, Below.refl _ _⟩⟩
  case round =>
    obtain ⟨k, a1, c1, hk, rfl, rfl, HB⟩ := hrel
    have c0 := HB.out.2.1
    have HBW : Hid (Below w.heap.size w wr) := Lib.hid (Below.trans (bel1' _ _) (HB.out.2.2.2.mono (by simp)))
    by_cases hlt : k < xs.length
    · obtain ⟨x, hx⟩ : ∃ x, xs[k]? = some x := ⟨_, List.getElem?_eq_getElem hlt⟩
      obtain ⟨b, off, rfl, hbs, d0, d1, d2⟩ := (H.out.ext HBW.out).cells hx
      have HT : Hid ((xs.take (k + 1)).flatMap oCells = (xs.take k).flatMap oCells ++ [x].flatMap oCells) := Lib.hid (by rw [List.take_add_one, hx, List.flatMap_append]; rfl)
      have HDD := Lib.hid (fun (wq : World) (hb : Below (w.heap.size + 1) (w.alloc (.cells #[.slice (some ⟨b, off, none⟩) xs.length c] 36)) wq) => (show wq.cell? ⟨w.heap.size, 0, none⟩ = some (.slice (some ⟨b, off, none⟩) xs.length c) ∧ wq.cell? ⟨b, off + k * 3, none⟩ = some (.string x.n) ∧ wq.cell? ⟨b, off + k * 3 + 1, none⟩ = some (.string x.k) ∧ wq.cell? ⟨b, off + k * 3 + 2, none⟩ = some (.int .i64 x.l) from by
        refine ⟨(hb.cell (p := ⟨w.heap.size, 0, none⟩) (by simp)).trans (by simp), ?_⟩
        obtain ⟨b', off', e, _, h⟩ := (H.out.ext (Below.trans (bel1' _ _) (hb.mono (by simp)))).cells hx
        cases e
        exact h))
      clear hx
      have hone := fun (wq : World) => one_src wq x 114
      rcases x with ⟨xn, xk, xl⟩
      simp only at d0 d1 d2 hone HDD
      have HONE := Lib.hid hone
      clear hone
      have hkk : (k : Int) < xs.length := by omega
      have HSZ := Lib.hid HB.out.2.2.1
      go_wp2_with fail
      go_region_held3 (fun w' => w'.cell? ⟨w.heap.size, 0, none⟩ = some (.slice (some ⟨b, off, none⟩) xs.length c) ∧ w'.cell? ⟨b, off + k * 3, none⟩ = some (.string xn) ∧ w'.cell? ⟨b, off + k * 3 + 1, none⟩ = some (.string xk) ∧ w'.cell? ⟨b, off + k * 3 + 2, none⟩ = some (.int .i64 xl))
        (first | exact ⟨c0, d0, d1, d2⟩ | exact HDD.out _ HB4.out | go_keep)
        (first
          | (refine step_append_k (by rfl) _ _ 62 (by rfl) (w.heap.size + 1) 114 i0 (.agg #[.string ⟨#[]⟩, .string ⟨#[]⟩, .int .i64 0]) 3 40 Tryz.underlying62 hi0 hz0 hs0 (by decide) hb0 rfl (.slice a1 k c1) k ((xs.take k).flatMap oCells) (by rfl) (HB.out.1.alloc _) (some ⟨wr.heap.size, 0, none⟩) 1 1 ([(⟨xn, xk, xl⟩ : O)].flatMap oCells) (by rfl) (by rfl) (Or.inr ⟨_, rfl, HONE.out wr⟩) (flat3_one _) (by unfold maxLen; omega) (by omega) (by have := HSZ.out; simp; omega) (k + 1) ((xs.take (k + 1)).flatMap oCells) rfl HT.out ?_; intro a4 c4 w4 hown4 hgrow4 hat4; have HO4 := Lib.hid hown4; have HB4 := Lib.hid ((HB.out.2.2.2.alloc HSZ.out (.cells #[.string xn, .string xk, .int .i64 xl] 114)).drew.grown hgrow4 (by have := HSZ.out; simp; omega) (own_base HB.out.1)); clear hown4 hgrow4 hat4)
          | fail)
      go_wp2
      go_roundw
      case rel => exact ⟨k + 1, a4, c4, by omega, by go_num, rfl, Lib.hid ⟨HO4.out, (HDD.out _ HB4.out).1, by have := HB4.out.size; simpa using this, HB4.out⟩⟩
      case measure => simp [intOf]; omega
    · have hkn : k = xs.length := by omega
      subst hkn
      have hown := HB.out.1
      rw [List.take_length] at hown
      have HO := Lib.hid (ops_owned hown)
      clear hown
      go_wp2
      go_ret
      exact ⟨_, _, rfl, HO.out, HBW.out⟩
end Go.Proofs.YtobdhcaoeholhaaGreatDoor
/- ReadPlain: at every text the two readers answer alike. The card ties the package variables of the standard library that its row lists. -/
namespace Go.Proofs.YtobdhcaoeholhaaGreatDoor
open Go.Shelf Go.RowKit
set_option linter.unusedVariables false

def tX : ReadR (Tm × List NmP) → Tm
  | .ok p => p.1
  | .bad _ => zTm
def nX : ReadR (Tm × List NmP) → List NmP
  | .ok p => p.2
  | .bad _ => []
def kX {α : Type} : ReadR α → Int
  | .ok _ => 0
  | .bad k => k
def lX : ReadR (List Tm) → List Tm
  | .ok l => l
  | .bad _ => []
theorem termU {w : World} {X : ReadR (Tm × List NmP)} {e : Ending} {w' : World} (h : TermX w X e w') :
    (∃ (k n : Int) (s : ByteArray) (a : Option Addr) (m c : Nat) (an : Option Addr) (cn : Nat), e = .returned (.tuple #[.agg #[.int .i64 k, .int .i64 n, .string s, .slice a m c], .slice an (nX X).length cn, .int .i64 (kX X)]) ∧ TmV w' (tX X) (.agg #[.int .i64 k, .int .i64 n, .string s, .slice a m c]) ∧ Nms w' (.slice an (nX X).length cn) (nX X)) ∧ Below w.heap.size w w' := by
  obtain ⟨h1, h2⟩ := h
  refine ⟨?_, h2⟩
  cases X with
  | bad k => exact ⟨0, 0, ⟨#[]⟩, none, 0, 0, none, 0, h1, zTm_at w', ⟨none, 0, rfl, Nat.le_refl _, Nat.zero_le _, Or.inl rfl⟩⟩
  | ok p =>
    obtain ⟨t, l⟩ := p
    obtain ⟨v, vn, rfl, hv, hn⟩ := h1
    obtain ⟨k, n, s, a, m, c, rfl⟩ := hv.full
    obtain ⟨an, cn, e1, g1, g2, g3⟩ := hn
    subst e1
    exact ⟨k, n, s, a, m, c, an, cn, rfl, hv, ⟨an, cn, rfl, g1, g2, g3⟩⟩
theorem allU {w : World} {X : ReadR (List Tm)} {e : Ending} {w' : World} (h : AllX w X e w') :
    (∃ (a : Option Addr) (c : Nat), e = .returned (.tuple #[.slice a (lX X).length c, .int .i64 (kX X)]) ∧ Tms w' (.slice a (lX X).length c) (lX X)) ∧ Below w.heap.size w w' := by
  obtain ⟨h1, h2⟩ := h
  refine ⟨?_, h2⟩
  cases X with
  | bad k => exact ⟨none, 0, h1, Tms.nil _⟩
  | ok l => exact h1
set_option maxRecDepth 100000 in
set_option maxHeartbeats 8000000 in
theorem readsays_at {w : World} (he : Err w) {vo : Value} {xs : List O} (ho : Ops w vo xs) (hxl : xs.length ≤ 60) (s : ByteArray) (hs : s.size ≤ 140737488351232) :
    Calls Tryz.prog 22 #[vo, .string s] w fun e w' => e = .returned (.bool true) ∧ Below w.heap.size w w' := by
  obtain ⟨ao, co, rfl, hl1, hl2⟩ := ho.form
  have HAW := Lib.hid (awake8_at he)
  have HE := Lib.hid he
  have HO := Lib.hid ho
  have HXL := Lib.hid hxl
  obtain ⟨mo, hmo⟩ : ∃ m, xs.length = m := ⟨_, rfl⟩
  rw [hmo] at hxl
  rw [hmo] at HO
  simp only [hmo]
  have HMO := Lib.hid hmo
  have hdx : decide ((60 : Int) < (mo : Int)) = false := decide_eq_false (by omega)
  clear he ho hl1 hl2 hmo
  by_cases hbig : 1500 < s.size
  · have hd : decide ((1500 : Int) < (s.size : Int)) = true := decide_eq_true (by omega)
    go_enter Tryz.func22, Tryz.ntmps22
    (go_wp2_with fail; go_fit (HAW.out); rintro e w1 ⟨rfl, b1⟩)
    go_wp2
    go_ret
    exact ⟨rfl, b1⟩
  have hd : decide ((1500 : Int) < (s.size : Int)) = false := decide_eq_false (by omega)
  obtain ⟨X, hX⟩ : ∃ X, readB oneR xs (bl s) = X := ⟨_, rfl⟩
  obtain ⟨Y, hY⟩ : ∃ Y, readB ALL xs (bl s) = Y := ⟨_, rfl⟩
  have HTM := Lib.hid (fun (wq : World) (v : Value) (hv : Ops wq v xs) (h : Err wq) => (term8_at hv s h hs).mono fun e w' h => by rw [hX] at h; exact termU h)
  have HRD := Lib.hid (fun (wq : World) (v : Value) (hv : Ops wq v xs) => (dread_at hv s hs).mono fun e w' h => by rw [hX] at h; exact termU h)
  have HAL := Lib.hid (fun (wq : World) (v : Value) (hv : Ops wq v xs) (h : Err wq) => (all8_at hv s h hs).mono fun e w' h => by rw [hY] at h; exact allU h)
  have HRA := Lib.hid (fun (wq : World) (v : Value) (hv : Ops wq v xs) => (dreadall_at hv s hs).mono fun e w' h => by rw [hY] at h; exact allU h)
  have HOW := Lib.hid (fun (wq : World) (v : Value) (hv : Ops wq v xs) => ownOps8_walk hv (by have := HXL.out; omega))
  obtain ⟨T, hT⟩ : ∃ T, tX X = T := ⟨_, rfl⟩
  obtain ⟨N, hN⟩ : ∃ N, nX X = N := ⟨_, rfl⟩
  obtain ⟨K, hK⟩ : ∃ K, kX X = K := ⟨_, rfl⟩
  obtain ⟨LL, hLL⟩ : ∃ L, lX Y = L := ⟨_, rfl⟩
  obtain ⟨K2, hK2⟩ : ∃ K, kX Y = K := ⟨_, rfl⟩
  obtain ⟨nn, hnn⟩ : ∃ n, N.length = n := ⟨_, rfl⟩
  obtain ⟨nl, hnl⟩ : ∃ n, LL.length = n := ⟨_, rfl⟩
  rw [hT, hN, hK, hnn] at HTM HRD
  rw [hLL, hK2, hnl] at HAL HRA
  rw [HMO.out] at HOW
  have HNN := Lib.hid hnn
  have HNL := Lib.hid hnl
  have hkk : (K != K) = false := by simp
  have hkk2 : (K2 != K2) = false := by simp
  have hnn2 : ((nn : Int) != (nn : Int)) = false := by simp
  have hnl2 : ((nl : Int) != (nl : Int)) = false := by simp
  have HOT := Lib.hid (fun (wq : World) (v : Value) (hv : TmV wq T v) => own_at T (fun _ => false) wq v (oldNo' wq) hv)
  have HST := Lib.hid (fun (wq : World) (va vb : Value) (h1 : TmV wq T va) (h2 : TmV wq T vb) => (rsame_at _ T (Nat.le_refl _) T wq va vb h1 h2).mono fun e w' (h : e = .returned (.bool (sameT T T)) ∧ Below wq.heap.size wq w') => show e = .returned (.bool true) ∧ Below wq.heap.size wq w' from by rw [same_self] at h; exact h)
  clear hbig hT hN hK hLL hK2 hnn hnl hX hY hs
  go_enter Tryz.func22, Tryz.ntmps22
  (go_wp2_with fail; go_fit (HAW.out); rintro e w1 ⟨rfl, b1⟩)
  obtain ⟨w2, hw2, hb2, hz2, hx2⟩ := box_new w1 #[.slice ao mo co] 36
  have B2 := Lib.hid (Ext.trans' b1 hb2)
  have O2 := Lib.hid (HO.out.ext B2.out)
  have HX2 := Lib.hid hx2
  have E2 := Lib.hid (HE.out.ext B2.out)
  have c0 := hx2.cells 0 _ rfl
  clear b1 hb2 hz2 hx2 HAW
  go_wp2_with fail
  (try rw [hw2])
  clear hw2
  (go_wp2_with fail; go_fit (HTM.out _ _ O2.out E2.out); rintro e w3 ⟨⟨k3, n3, s3, a3, m3, c3, an3, cn3, rfl, hv3, hn3⟩, b3⟩)
  obtain ⟨w4, hw4, hb4, hz4, hx4⟩ := box_new w3 #[.int .i64 k3, .int .i64 n3, .string s3, .slice a3 m3 c3] 27
  have b24 := Ext.trans' b3 hb4
  have B4 := Lib.hid (Ext.trans' B2.out b24)
  have HX4 := Lib.hid hx4
  have HV4 := Lib.hid (TmV.ext hb4 _ _ hv3)
  have HN4 := Lib.hid (show Nms w4 _ _ from Elems.ext hn3 hb4)
  have c0 := (HX2.out.ext b24).cells 0 _ rfl
  have HT4 := Lib.hid (HX2.out.ext b24)
  have E4 := Lib.hid (E2.out.ext b24)
  have O4 := Lib.hid (O2.out.ext b24)
  clear b3 hb4 hz4 hx4 hv3 hn3 b24 HTM
  go_wp2_with fail
  (try rw [hw4])
  clear hw4
  (go_wp2_with fail; go_fit (HOW.out _ _ O4.out); rintro e w5 ⟨a5, c5, rfl, o5, b5⟩)
  (go_wp2_with fail; go_fit (HRD.out _ _ o5); rintro e w6 ⟨⟨k6, n6, s6, a6, m6, c6, an6, cn6, rfl, hv6, hn6⟩, b6⟩)
  obtain ⟨w7, hw7, hb7, hz7, hx7⟩ := box_new w6 #[.int .i64 k6, .int .i64 n6, .string s6, .slice a6 m6 c6] 66
  have b47 := Ext.trans' (Ext.trans' b5 b6) hb7
  have B7 := Lib.hid (Ext.trans' B4.out b47)
  have HX7 := Lib.hid hx7
  have HV7 := Lib.hid (TmV.ext hb7 _ _ hv6)
  have HN7 := Lib.hid (show Nms w7 _ _ from Elems.ext hn6 hb7)
  have HVT := Lib.hid (TmV.ext b47 _ _ HV4.out)
  have HNT := Lib.hid (show Nms w7 _ _ from Elems.ext HN4.out b47)
  have HT7 := Lib.hid (HT4.out.ext b47)
  have E7 := Lib.hid (E4.out.ext b47)
  have O7 := Lib.hid (O4.out.ext b47)
  obtain ⟨p0, p1, p2, p3, pf⟩ := (HX4.out.ext b47).four
  obtain ⟨x0, x1, x2, x3, xf⟩ := hx7.four
  clear b5 b6 hb7 hz7 hx7 hv6 hn6 b47 HRD o5 c0
  go_wp2_with fail
  (try rw [hw7])
  clear hw7
  refine wp_region_held_drew (S := fun w' => (w'.cell? ⟨w3.heap.size, 0, none⟩ = some (.int .i64 k3) ∧ w'.cell? ⟨w3.heap.size, 1, none⟩ = some (.int .i64 n3) ∧ w'.cell? ⟨w3.heap.size, 2, none⟩ = some (.string s3) ∧ w'.cell? ⟨w3.heap.size, 3, none⟩ = some (.slice a3 m3 c3)) ∧ w'.cell? ⟨w6.heap.size, 0, none⟩ = some (.int .i64 k6) ∧ w'.cell? ⟨w6.heap.size, 1, none⟩ = some (.int .i64 n6) ∧ w'.cell? ⟨w6.heap.size, 2, none⟩ = some (.string s6) ∧ w'.cell? ⟨w6.heap.size, 3, none⟩ = some (.slice a6 m6 c6)) (by kernel_rfl) ⟨⟨p0, p1, p2, p3⟩, x0, x1, x2, x3⟩ (fun hHeld => ?_)
  first | (refine held_t (i := 0) hHeld ?_; apply Exists.intro; refine ⟨fun wq hq => ?_, ?_⟩; (focus ((try dsimp only at hq); go_simp; (first | done | with_reducible rfl | fail)))) | refine held_s (i := 0) hHeld ?_ | fail
  first | (refine held_t (i := 1) hHeld ?_; apply Exists.intro; refine ⟨fun wq hq => ?_, ?_⟩; (focus ((try dsimp only at hq); go_simp; (first | done | with_reducible rfl | fail)))) | refine held_s (i := 1) hHeld ?_ | fail
  try simp only [Act.put, List.setIfInBounds_toArray, List.set_cons_zero, List.set_cons_succ]
  first | (refine held_t (i := 2) hHeld ?_; apply Exists.intro; refine ⟨fun wq hq => ?_, ?_⟩; (focus ((try dsimp only at hq); go_simp; (first | done | with_reducible rfl | fail)))) | refine held_s (i := 2) hHeld ?_ | fail
  first | (refine held_t (i := 3) hHeld ?_; apply Exists.intro; refine ⟨fun wq hq => ?_, ?_⟩; (focus ((try dsimp only at hq); go_simp; (first | done | with_reducible rfl | fail)))) | refine held_s (i := 3) hHeld ?_ | fail
  try simp only [Act.put, List.setIfInBounds_toArray, List.set_cons_zero, List.set_cons_succ]
  first | (refine held_t (i := 4) hHeld ?_; apply Exists.intro; refine ⟨fun wq hq => ?_, ?_⟩; (focus ((try dsimp only at hq); go_simp; (first | done | with_reducible rfl | fail)))) | refine held_s (i := 4) hHeld ?_ | fail
  first | (refine held_t (i := 6) hHeld ?_; apply Exists.intro; refine ⟨fun wq hq => ?_, ?_⟩; (focus ((try dsimp only at hq); go_simp; (first | done | with_reducible rfl | fail)))) | refine held_s (i := 6) hHeld ?_ | fail
  try simp only [Act.put, List.setIfInBounds_toArray, List.set_cons_zero, List.set_cons_succ]
  refine held_c 5 fun K hK => ?_
  go_simp
  (go_at_call 41; refine (HOT.out _ _ (TmV.ext (Below.refl _ _).drew _ _ HVT.out)).mono ?_; rintro e wa ⟨va, rfl, hva, hba⟩; have HBA := Lib.hid (Ext.trans' (Below.refl w7.heap.size w7).drew hba); have HVA := Lib.hid (TmV.bare hva))
  refine hK.out _ _ (⟨⟨cell_later hba hHeld.1.1, cell_later hba hHeld.1.2.1, cell_later hba hHeld.1.2.2.1, cell_later hba hHeld.1.2.2.2⟩, cell_later hba hHeld.2.1, cell_later hba hHeld.2.2.1, cell_later hba hHeld.2.2.2.1, cell_later hba hHeld.2.2.2.2⟩) (fun hHeld => ?_)
  clear hK K
  try simp only [Act.put, List.setIfInBounds_toArray, List.set_cons_zero, List.set_cons_succ]
  refine held_c 7 fun K hK => ?_
  go_simp
  (go_at_call 50; refine (HST.out _ _ _ HVA.out (TmV.ext HBA.out _ _ HV7.out)).mono ?_; rintro e wb ⟨rfl, hbb⟩; have HBB := Lib.hid (Ext.trans' HBA.out hbb))
  refine hK.out _ _ (⟨⟨cell_later hbb hHeld.1.1, cell_later hbb hHeld.1.2.1, cell_later hbb hHeld.1.2.2.1, cell_later hbb hHeld.1.2.2.2⟩, cell_later hbb hHeld.2.1, cell_later hbb hHeld.2.2.1, cell_later hbb hHeld.2.2.2.1, cell_later hbb hHeld.2.2.2.2⟩) (fun hHeld => ?_)
  clear hK K
  try simp only [Act.put, List.setIfInBounds_toArray, List.set_cons_zero, List.set_cons_succ]
  first | (refine held_t (i := 8) hHeld ?_; apply Exists.intro; refine ⟨fun wq hq => ?_, ?_⟩; (focus ((try dsimp only at hq); go_simp; (first | done | with_reducible rfl | fail)))) | refine held_s (i := 8) hHeld ?_ | fail
  first | (refine held_t (i := 9) hHeld ?_; apply Exists.intro; refine ⟨fun wq hq => ?_, ?_⟩; (focus ((try dsimp only at hq); go_simp; (first | done | with_reducible rfl | fail)))) | refine held_s (i := 9) hHeld ?_ | fail
  first | (refine held_t (i := 10) hHeld ?_; apply Exists.intro; refine ⟨fun wq hq => ?_, ?_⟩; (focus ((try dsimp only at hq); go_simp; (first | done | with_reducible rfl | fail)))) | refine held_s (i := 10) hHeld ?_ | fail
  try simp only [Act.put, List.setIfInBounds_toArray, List.set_cons_zero, List.set_cons_succ]
  first | (refine held_t (i := 11) hHeld ?_; apply Exists.intro; refine ⟨fun wq hq => ?_, ?_⟩; (focus ((try dsimp only at hq); go_simp; (first | done | with_reducible rfl | fail)))) | refine held_s (i := 11) hHeld ?_ | fail
  first | (refine held_t (i := 12) hHeld ?_; apply Exists.intro; refine ⟨fun wq hq => ?_, ?_⟩; (focus ((try dsimp only at hq); go_simp; (first | done | with_reducible rfl | fail)))) | refine held_s (i := 12) hHeld ?_ | fail
  first | (refine held_t (i := 13) hHeld ?_; apply Exists.intro; refine ⟨fun wq hq => ?_, ?_⟩; (focus ((try dsimp only at hq); go_simp; (first | done | with_reducible rfl | fail)))) | refine held_s (i := 13) hHeld ?_ | fail
  first | (refine held_t (i := 14) hHeld ?_; apply Exists.intro; refine ⟨fun wq hq => ?_, ?_⟩; (focus ((try dsimp only at hq); go_simp; (first | done | with_reducible rfl | fail)))) | refine held_s (i := 14) hHeld ?_ | fail
  try simp only [Act.put, List.setIfInBounds_toArray, List.set_cons_zero, List.set_cons_succ]
  first | (refine held_t (i := 15) hHeld ?_; apply Exists.intro; refine ⟨fun wq hq => ?_, ?_⟩; (focus ((try dsimp only at hq); go_simp; (first | done | with_reducible rfl | fail)))) | refine held_s (i := 15) hHeld ?_ | fail
  first | (refine held_t (i := 16) hHeld ?_; apply Exists.intro; refine ⟨fun wq hq => ?_, ?_⟩; (focus ((try dsimp only at hq); go_simp; (first | done | with_reducible rfl | fail)))) | refine held_s (i := 16) hHeld ?_ | fail
  try simp only [Act.put, List.setIfInBounds_toArray, List.set_cons_zero, List.set_cons_succ]
  refine wpAnyH_done (by kernel_rfl) ?_ _
  clear hHeld p0 p1 p2 p3 pf x0 x1 x2 x3 xf
  have B8 := Lib.hid (Ext.trans' B7.out HBB.out)
  have HN8 := Lib.hid (show Nms wb _ _ from Elems.ext HNT.out HBB.out)
  have HM8 := Lib.hid (show Nms wb _ _ from Elems.ext HN7.out HBB.out)
  have HT8 := Lib.hid (HT7.out.ext HBB.out)
  have E8 := Lib.hid (E7.out.ext HBB.out)
  have O8 := Lib.hid (O7.out.ext HBB.out)
  clear hbb hba hva HVA HBA HBB HOT HST HVT HV7 HV4 HN4 HN7 HNT
  have hnb : nn ≤ maxLen := by
    obtain ⟨_, _, e, h1, h2, _⟩ := HN8.out
    rw [HNN.out] at h1
    omega
  unfold maxLen at hnb
  go_wp2_with fail
  go_loopw [12] (fun v wr => ∃ i : Nat, i ≤ nn ∧ v = .int .i64 i ∧ Hid (Below wb.heap.size wb wr)) (fun v _ => nn - (intOf v).toNat)
  case atStart => exact ⟨0, Nat.zero_le _, rfl, Lib.hid (Below.refl _ _)⟩
  case round =>
    obtain ⟨i, hi, rfl, HBR⟩ := hrel
    by_cases hil : i < nn
    · have hd1 : (i : Int) < (nn : Int) := by omega
      obtain ⟨y, hy⟩ : ∃ y, N[i]? = some y := ⟨_, List.getElem?_eq_getElem (by rw [HNN.out]; exact hil)⟩
      obtain ⟨bn, off, rfl, d0, d1⟩ := nms_get (Elems.ext HN8.out HBR.out) hy
      obtain ⟨bm, ofm, rfl, g0, g1⟩ := nms_get (Elems.ext HM8.out HBR.out) hy
      obtain ⟨ys, hys⟩ : ∃ z : ByteArray, (⟨y.1.toArray⟩ : ByteArray) = z := ⟨_, rfl⟩
      obtain ⟨yn, hyn⟩ : ∃ z : Int, (y.2 : Int) = z := ⟨_, rfl⟩
      rw [hys] at d0 g0
      rw [hyn] at d1 g1
      clear hy hys hyn
      go_wp2_with fail
      go_quiet (fail)
      go_wp2
      go_roundw
      case rel => exact ⟨i + 1, by omega, by go_num, Lib.hid (bel_drewN HBR.out _)⟩
      case measure => simp [intOf]; omega
    · obtain rfl : nn = i := by omega
      have HT9 := Lib.hid (HT8.out.ext HBR.out)
      have E9 := Lib.hid (E8.out.ext HBR.out)
      have O9 := Lib.hid (O8.out.ext HBR.out)
      have B9 := Lib.hid (Ext.trans' B8.out HBR.out)
      have c0 := HT9.out.cells 0 _ rfl
      clear HBR hil hi HN8 HM8
      (go_wp2_with fail; go_fit (HAL.out _ _ O9.out E9.out); rintro e w10 ⟨⟨a10, c10, rfl, ht10⟩, b10⟩)
      have HT10 := Lib.hid (HT9.out.ext b10)
      have O10 := Lib.hid (O9.out.ext b10)
      have c0 := HT10.out.cells 0 _ rfl
      (go_wp2_with fail; go_fit (HOW.out _ _ O10.out); rintro e w11 ⟨a11, c11, rfl, o11, b11⟩)
      (go_wp2_with fail; go_fit (HRA.out _ _ o11); rintro e w12 ⟨⟨a12, c12, rfl, ht12⟩, b12⟩)
      have b1012 := Ext.trans' b11 b12
      have B12 := Lib.hid (Ext.trans' (Ext.trans' B9.out b10) b1012)
      have HA12 := Lib.hid (ht10.ext b1012)
      have HR12 := Lib.hid ht12
      clear b10 b11 b12 b1012 ht10 ht12 o11 c0 HAL HRA HOW
      have hlb : nl ≤ maxLen := by
        obtain ⟨_, _, _, h1, h2, _⟩ := HA12.out.len
        rw [HNL.out] at h1
        omega
      unfold maxLen at hlb
      go_wp2_with fail
      go_loopw [17] (fun v wr => ∃ i : Nat, i ≤ nl ∧ v = .int .i64 i ∧ Hid (Below w12.heap.size w12 wr)) (fun v _ => nl - (intOf v).toNat)
      case atStart => exact ⟨0, Nat.zero_le _, rfl, Lib.hid (Below.refl _ _)⟩
      case round =>
        obtain ⟨j, hj, rfl, HBJ⟩ := hrel
        by_cases hjl : j < nl
        · have hd1 : (j : Int) < (nl : Int) := by omega
          obtain ⟨y, hy⟩ : ∃ y, LL[j]? = some y := ⟨_, List.getElem?_eq_getElem (by rw [HNL.out]; exact hjl)⟩
          obtain ⟨b, off, k1, n1, s1, u1, rfl, hbb, _, _, _, g0, g1, g2, g3, htu, hty⟩ := (HA12.out.ext HBJ.out).get hy
          obtain ⟨b', off', k2, n2, s2, u2, rfl, hbb', _, _, _, d0, d1, d2, d3, htu', hty'⟩ := (HR12.out.ext HBJ.out).get hy
          have HTY := Lib.hid hty
          have HTZ := Lib.hid hty'
          have HOT := Lib.hid (fun (wq : World) (v : Value) (hv : TmV wq y v) => own_at y (fun _ => false) wq v (oldNo' wq) hv)
          have HST := Lib.hid (fun (wq : World) (va vb : Value) (h1 : TmV wq y va) (h2 : TmV wq y vb) => (rsame_at _ y (Nat.le_refl _) y wq va vb h1 h2).mono fun e w' (h : e = .returned (.bool (sameT y y)) ∧ Below wq.heap.size wq w') => show e = .returned (.bool true) ∧ Below wq.heap.size wq w' from by rw [same_self] at h; exact h)
          clear htu htu' hty hty' hbb hbb' hy
          go_wp2_with fail
          refine wp_region_held_drew (S := fun w' => (w'.cell? ⟨b, off + j * 4, none⟩ = some (.int .i64 k1) ∧ w'.cell? ⟨b, off + j * 4 + 1, none⟩ = some (.int .i64 n1) ∧ w'.cell? ⟨b, off + j * 4 + 2, none⟩ = some (.string s1) ∧ w'.cell? ⟨b, off + j * 4 + 3, none⟩ = some u1) ∧ w'.cell? ⟨b', off' + j * 4, none⟩ = some (.int .i64 k2) ∧ w'.cell? ⟨b', off' + j * 4 + 1, none⟩ = some (.int .i64 n2) ∧ w'.cell? ⟨b', off' + j * 4 + 2, none⟩ = some (.string s2) ∧ w'.cell? ⟨b', off' + j * 4 + 3, none⟩ = some u2) (by kernel_rfl) ⟨⟨g0, g1, g2, g3⟩, d0, d1, d2, d3⟩ (fun hHeld => ?_)
          first | (refine held_t (i := 0) hHeld ?_; apply Exists.intro; refine ⟨fun wq hq => ?_, ?_⟩; (focus ((try dsimp only at hq); go_simp; (first | done | with_reducible rfl | fail)))) | refine held_s (i := 0) hHeld ?_ | fail
          first | (refine held_t (i := 1) hHeld ?_; apply Exists.intro; refine ⟨fun wq hq => ?_, ?_⟩; (focus ((try dsimp only at hq); go_simp; (first | done | with_reducible rfl | fail)))) | refine held_s (i := 1) hHeld ?_ | fail
          first | (refine held_t (i := 2) hHeld ?_; apply Exists.intro; refine ⟨fun wq hq => ?_, ?_⟩; (focus ((try dsimp only at hq); go_simp; (first | done | with_reducible rfl | fail)))) | refine held_s (i := 2) hHeld ?_ | fail
          first | (refine held_t (i := 3) hHeld ?_; apply Exists.intro; refine ⟨fun wq hq => ?_, ?_⟩; (focus ((try dsimp only at hq); go_simp; (first | done | with_reducible rfl | fail)))) | refine held_s (i := 3) hHeld ?_ | fail
          try simp only [Act.put, List.setIfInBounds_toArray, List.set_cons_zero, List.set_cons_succ]
          first | (refine held_t (i := 5) hHeld ?_; apply Exists.intro; refine ⟨fun wq hq => ?_, ?_⟩; (focus ((try dsimp only at hq); go_simp; (first | done | with_reducible rfl | fail)))) | refine held_s (i := 5) hHeld ?_ | fail
          first | (refine held_t (i := 6) hHeld ?_; apply Exists.intro; refine ⟨fun wq hq => ?_, ?_⟩; (focus ((try dsimp only at hq); go_simp; (first | done | with_reducible rfl | fail)))) | refine held_s (i := 6) hHeld ?_ | fail
          first | (refine held_t (i := 7) hHeld ?_; apply Exists.intro; refine ⟨fun wq hq => ?_, ?_⟩; (focus ((try dsimp only at hq); go_simp; (first | done | with_reducible rfl | fail)))) | refine held_s (i := 7) hHeld ?_ | fail
          first | (refine held_t (i := 8) hHeld ?_; apply Exists.intro; refine ⟨fun wq hq => ?_, ?_⟩; (focus ((try dsimp only at hq); go_simp; (first | done | with_reducible rfl | fail)))) | refine held_s (i := 8) hHeld ?_ | fail
          try simp only [Act.put, List.setIfInBounds_toArray, List.set_cons_zero, List.set_cons_succ]
          refine held_c 4 fun K hK => ?_
          go_simp
          (go_at_call 41; refine (HOT.out _ _ (TmV.ext (Below.refl _ _).drew _ _ HTY.out)).mono ?_; rintro e wa ⟨va, rfl, hva, hba⟩; have HBA := Lib.hid (Ext.trans' (Below.refl wr.heap.size wr).drew hba); have HVA := Lib.hid (TmV.bare hva))
          refine hK.out _ _ (⟨⟨cell_later hba hHeld.1.1, cell_later hba hHeld.1.2.1, cell_later hba hHeld.1.2.2.1, cell_later hba hHeld.1.2.2.2⟩, cell_later hba hHeld.2.1, cell_later hba hHeld.2.2.1, cell_later hba hHeld.2.2.2.1, cell_later hba hHeld.2.2.2.2⟩) (fun hHeld => ?_)
          clear hK K
          try simp only [Act.put, List.setIfInBounds_toArray, List.set_cons_zero, List.set_cons_succ]
          refine held_c 9 fun K hK => ?_
          go_simp
          (go_at_call 50; refine (HST.out _ _ _ HVA.out (TmV.ext HBA.out _ _ HTZ.out)).mono ?_; rintro e wb' ⟨rfl, hbb⟩; have HBB := Lib.hid (Ext.trans' HBA.out hbb))
          refine hK.out _ _ (⟨⟨cell_later hbb hHeld.1.1, cell_later hbb hHeld.1.2.1, cell_later hbb hHeld.1.2.2.1, cell_later hbb hHeld.1.2.2.2⟩, cell_later hbb hHeld.2.1, cell_later hbb hHeld.2.2.1, cell_later hbb hHeld.2.2.2.1, cell_later hbb hHeld.2.2.2.2⟩) (fun hHeld => ?_)
          clear hK K
          try simp only [Act.put, List.setIfInBounds_toArray, List.set_cons_zero, List.set_cons_succ]
          first | (refine held_t (i := 10) hHeld ?_; apply Exists.intro; refine ⟨fun wq hq => ?_, ?_⟩; (focus ((try dsimp only at hq); go_simp; (first | done | with_reducible rfl | fail)))) | refine held_s (i := 10) hHeld ?_ | fail
          try simp only [Act.put, List.setIfInBounds_toArray, List.set_cons_zero, List.set_cons_succ]
          refine wpAnyH_done (by kernel_rfl) ?_ _
          have HBK := Lib.hid (Ext.trans' HBJ.out HBB.out)
          clear hHeld g0 g1 g2 g3 d0 d1 d2 d3 hba hbb hva
          go_wp2
          go_roundw
          case rel => exact ⟨j + 1, by omega, by go_num, HBK⟩
          case measure => simp [intOf]; omega
        · obtain rfl : nl = j := by omega
          go_wp2
          go_ret
          exact ⟨rfl, Ext.trans' B12.out HBJ.out⟩
set_option maxHeartbeats 4000000 in
theorem readplain_at (s : ByteArray) (hs : s.size ≤ 140737488351232) {w : World} (he : Err w) : Calls Tryz.prog 4 #[.string s] w fun e w' => e = .returned (.bool true) ∧ Below w.heap.size w w' := by
  have HE := Lib.hid he
  have HP := Lib.hid (plain_walk w)
  have HS := Lib.hid (fun (wq : World) (h : Err wq) (v : Value) (hv : Ops wq v opsB) => readsays_at h hv (by rw [plain_len]; decide) s hs)
  clear he hs
  go_enter Tryz.func4, Tryz.ntmps4
  (go_wp2_with fail; go_fit (HP.out); rintro e w1 ⟨v, rfl, ho, b1⟩)
  obtain ⟨ao, co, rfl, _, _⟩ := ho.form
  have hfd : ∀ wq : World, (Instr.field 36 (.agg #[.slice ao opsB.length co]) 0).run Tryz.prog wq = .ok (.slice ao opsB.length co) wq := fun _ => by kernel_rfl
  have O1 := Lib.hid ho
  have B1 := Lib.hid b1
  clear ho b1
  (go_wp2_with fail; go_fit (HS.out _ (HE.out.ext B1.out) _ O1.out); rintro e w2 ⟨rfl, b2⟩)
  go_wp2
  go_ret
  exact ⟨rfl, Ext.trans' B1.out b2⟩
end Go.Proofs.YtobdhcaoeholhaaGreatDoor
/- ReadPlain, handed in: at every text the program's reader answers as the document's does. The card ties the package variables of the standard library that its row lists. -/
namespace Go.Proofs.YtobdhcaoeholhaaGreatDoor
open Go.Shelf Go.RowKit
set_option linter.unusedVariables false

theorem plain8_law (a : ByteArray) (ha : a.size ≤ 140737488351232) {w : World} (he : Err w) : Calls Tryz.prog 4 #[.string a] w fun e w' => e = .returned (.bool true) ∧ Below w.heap.size w w' := readplain_at a ha he
theorem ctxRP {w : World} (h : laidMetH Tryz.prog Rows.readPlainRow.laid w) : Err w := err_of (text := [118, 97, 108, 117, 101, 32, 111, 117, 116, 32, 111, 102, 32, 114, 97, 110, 103, 101]) (by kernel_rfl) (by kernel_rfl) rfl h
namespace readPlain
open Go.ChangeShapes Go.WideShapes Go.ChangeAt Go.RowKit
theorem own : ownKnob Tryz.prog.godebug = none := by kernel_rfl
theorem laidOut : laidOutB Tryz.prog = true := by kernel_rfl
set_option linter.unusedVariables false
set_option maxRecDepth 100000 in
theorem lifted (os : Os) (started : os.Started) (H : Type) (enc : TypeId × Value → H) :
    ReturnsInHanded {} Tryz.checked os 4 .any (fun w args => (Rows.readPlainSpec.pre enc Tryz.prog Tryz.f4 [] false w args ∧ laidMetH Tryz.prog Rows.readPlainRow.laid w) ∧ sizedMet enc Tryz.prog Tryz.f4 (OpenSpec.ofChange Rows.readPlainSpec) false w args)
      (Rows.readPlainSpec.post enc Tryz.prog Tryz.f4 false true false false) := by
  refine returnsInHanded_of_change_and (C := Tryz.checked) (X := fun w _ => laidMetH Tryz.prog Rows.readPlainRow.laid w) (fun _ _ _ hh h => h.of_heap hh) own started (by kernel_rfl) Tryz.func4
    (ChangeSpec.witness_shaped (enc := enc) (C := Tryz.checked) (os := os) (X := fun w _ => laidMetH Tryz.prog Rows.readPlainRow.laid w) false (World.laidAll Tryz.prog os Rows.readPlainRow.laid) #[.string ⟨#[]⟩] 8 (World.laidAll_os _ _ _)
      (World.shaped_of_ZipB (by kernel_rfl) (by kernel_rfl)) (by kernel_rfl) (by kernel_rfl) (by kernel_rfl)
      (by rw [MakeChecks.laidMetH_plain _ _ _ (by kernel_rfl)]; exact laidMet_laidAll _ (by kernel_rfl) (by kernel_rfl))) ?_
  intro W base args ds gs before hval0 hW hcnd hsz0 hL _
  have hval : ∀ (j : Nat) t v, Tryz.f4.params[j]? = some t → args[j]? = some v → Value.okWide Tryz.prog W .any base t v := hval0
  have hW' := hW
  obtain ⟨p, q, hA0, hV, rfl, hfz, hnd⟩ := hW
  have hA : DataW.TrodAll enc Tryz.prog W 0 (fun _ => true) true Tryz.f4.params.toList args.toList ds p := hA0
  have hsz : (DataW.weightsEach Tryz.prog (Tryz.f4.params.toList ++ []) (ds ++ gs)).all (· ≤ reachBytes) = true := hsz0
  rw [Tryz.params4] at hA hval hsz
  obtain ⟨v0, vs0, d0, ds0, p0, q0, hargs, rfl, rfl, h0, r0⟩ := trodAll_cons hA
  obtain ⟨rfl, rfl, rfl⟩ := trodAll_nil r0
  obtain rfl : args = #[v0] := by cases args; simp_all
  obtain ⟨rfl, rfl⟩ := trodVars_none hV
  clear hA0 hval0 hsz0
  have k0 := h0
  have lt0 := lt_of_trod h0
  obtain ⟨a0, rfl, e0, rfl, w0⟩ := ChangeMaps.open_string Tryz.underlying9 (hval 0 9 v0 rfl rfl) h0
  have s0 : a0.size ≤ 140737488351232 := weights_ok hsz (j := 0) (t := 9) (d := d0) rfl rfl _ (by rw [e0]; simp [DataW.weights])
  refine (plain8_law a0 s0 (ctxRP hL)).mono fun e W' ⟨he, bel⟩ => ?_
  subst he
  exact ⟨_, rfl, _, _, _, [], _, [], hW', trodAll_mk1 (shut_bool Tryz.underlying4 _), (trodAll_cons_mk (Below.trod laidOut (by kernel_rfl) (of_decide_eq_true (by kernel_rfl)) k0 bel lt0) trodAll_mk0), rfl, bel.frame _, fun h => by cases h⟩
theorem proved : Rows.ReadPlainSaid :=
  OpenClaim.holds_of_wide 4 Tryz.f4 rfl rfl rfl rfl rfl rfl rfl ⟨rfl, rfl, rfl, rfl, rfl⟩ rfl rfl rfl rfl rfl (by kernel_rfl) Tryz.func4 (by kernel_rfl)
    (of_decide_eq_true (by kernel_rfl)) (by unfold Func.isWrapper; first | (rw [if_pos (by decide +kernel)]; kernel_rfl) | (rw [if_neg (by decide +kernel)]; exact ⟨rfl, rfl⟩))
    (fun os started H enc _ => lifted os started H enc)
theorem carded : Rows.ReadPlainCardSaid :=
  Claim7.holds_tied_plain_at .later [] [.data, .data, .data, .sentinel, .sentinel] true (true, "f00b49542ba4a8c92a7fc946f6030d37583e9e6c28cfd70f94577bd756c544ac") true
    proved (fun _ h => by cases h) (by kernel_rfl) (fun _ h => by cases h) readPlain_row_tie rfl ⟨rfl, rfl⟩ (by kernel_rfl) rfl
    (fun f fn hf hfn => by
      obtain rfl : f = 4 := Option.some.inj ((show Tryz.prog.funcNamed "sizar/sizarlaw8.ReadPlain" = some 4 by kernel_rfl).symm.trans hf) |>.symm
      obtain rfl : fn = Tryz.f4 := (Option.some.inj (Tryz.func4.symm.trans hfn)).symm
      exact ⟨by kernel_rfl, fun j t ht => by
        rw [Tryz.params4] at ht
        have hm : t ∈ [9] := by simpa using Array.mem_of_getElem? ht
        have hall : ([9].all fun u => !Tryz.prog.wantsStandIn u) = true := by kernel_rfl
        exact (show Tryz.prog.wantsStandIn t = false by simpa using List.all_eq_true.1 hall t hm)⟩)
    (by kernel_rfl)
#print axioms carded
end readPlain

end Go.Proofs.YtobdhcaoeholhaaGreatDoor
