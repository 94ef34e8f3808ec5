import Derived.Test.YtaojalicnnnkmaaGreatDoorHgaam
import Derived.Test.YtaojalicnnnkmaaGreatDoorHgaak
import Derived.Deep.RegionHeld3
import Derived.Test.YtaojalicnnnkmaaGreatDoorHgaab
set_option linter.unusedVariables false
set_option linter.unusedSimpArgs false
/- Package body: what add does to a row: definitions, lemmas; is. -/
namespace Go.Proofs.YtaojalicnnnkmaaGreatDoor
open Go.RowKit
set_option linter.unusedVariables false

/-- A row of goals in the making, since W. -/
def Adds (W : World) (D0 D : Nat → Bool) (w : World) (v : Value) (ps : List GlP) : Prop := RowQ 6 glCells gkOk 35 D noM w W.heap.size v ps ∧ Turn D0 noM D noM W w ∧ Okd D noM w
theorem Adds.later {W : World} {D0 D : Nat → Bool} {w w' : World} {v : Value} {ps : List GlP} (h : Adds W D0 D w v ps) (hb : Below w.heap.size w w') : Adds W D0 D w' v ps :=
  ⟨h.1.turnK (M := noM) @gkOk_keep (Turn.below (D := D) (M := noM) hb) (fun _ h => absurd h (by simp)), h.2.1.trans (Turn.below hb), h.2.2.later hb.size⟩
theorem Adds.none {D : Nat → Bool} {w : World} (h : Old D w) : Adds w D D w (.slice none 0 0) [] := ⟨RowQ.none _ _ _ _, Turn.refl _ _ _, okd_no h⟩
theorem Adds.tm {W : World} {D0 D : Nat → Bool} {w : World} {v : Value} {ps : List GlP} (h : Adds W D0 D w v ps) {t : Tm} {u : Value} (ht : TmV (hide D0 W) t u) : TmV (hide D w) t u := TmV.stay (h.2.1.stays (fun _ h => by cases h)) _ _ ht
theorem Adds.old {W : World} {D0 D : Nat → Bool} {w : World} {v : Value} {ps : List GlP} (h : Adds W D0 D w v ps) : Old D w := h.2.2.2
/-- What add answers. -/
def AddP (W : World) (D0 : Nat → Bool) (w : World) (v : Value) (ps : List GlP) (o : Option (List Gl)) (e : Ending) (w' : World) : Prop := w.grownBy w' v.ownBlock ∧ match o with
  | none => e = .returned (.tuple #[.slice none 0 0, .bool false])
  | some qs => ∃ (a : Option Addr) (m c : Nat) (ps' : List GlP) (D' : Nat → Bool), e = .returned (.tuple #[.slice a m c, .bool true]) ∧ ps'.map (·.g) = ps.map (·.g) ++ qs ∧ ps'.length = m ∧
      (∀ g, (Value.slice a m c).ownBlock = some g → v.ownBlock = some g ∨ w.heap.size ≤ g) ∧ Adds W D0 D' w' (.slice a m c) ps'
theorem grown_none {w w' : World} (h : w.grownBy w' none) : Below w.heap.size w w' := ⟨h.os, h.tape, h.output, h.size, fun k hk => h.block k hk (by simp)⟩
theorem grown_of_bel {w w' : World} {row : Option Nat} (h : Below w.heap.size w w') : w.grownBy w' row := ⟨h.os, h.tape, h.output, h.size, fun k hk _ => h.block k hk⟩
theorem grown_two {a b c : World} {row row' : Option Nat} (h : a.grownBy b row) (g : b.grownBy c row') (hr : ∀ k, row' = some k → row = some k ∨ a.heap.size ≤ k) : a.grownBy c row :=
  ⟨g.os.trans h.os, g.tape.trans h.tape, g.output.trans h.output, Nat.le_trans h.size g.size, fun k hk hn => (g.block k (Nat.lt_of_lt_of_le hk h.size) (fun e => by
    rcases hr k e.symm with h1 | h1
    · exact hn h1.symm
    · omega)).trans (h.block k hk hn)⟩
/-- One more goal. -/
theorem addP_push {W : World} {D0 D : Nat → Bool} {w wq w7 : World} {a a7 : Option Addr} {m c c7 : Nat} {ps : List GlP} {p : GlP} (h : Adds W D0 D w (.slice a m c) ps) (hm : ps.length = m) (hb : Below w.heap.size w wq) (hp : gkOk (hide D wq) p)
    (hg : wq.grownBy w7 (Value.slice a m c).ownBlock) (hat : (Value.slice a7 (m + 1) c7).ownBlock = (Value.slice a m c).ownBlock ∨ (Value.slice a7 (m + 1) c7).ownBlock = some wq.heap.size)
    (hr : w7.ownsRow W.heap.size 35 6 (.slice a7 (m + 1) c7) (m + 1) (ps.flatMap glCells ++ glCells p)) : AddP W D0 w (.slice a m c) ps (some [p.g]) (.returned (.tuple #[.slice a7 (m + 1) c7, .bool true])) w7 := by
  have hq := h.later hb
  refine ⟨grown_two (grown_of_bel hb) hg (fun k e => Or.inl e), a7, m + 1, c7, ps ++ [p], withB D (.slice a7 (m + 1) c7), rfl, by simp, by simp [hm], fun g e => ?_, ?_, ?_, ?_⟩
  · rcases hat with hat | hat
    · left; rw [← hat]; exact e
    · right; rw [hat] at e; injection e with e; have := hb.size; omega
  · exact hq.1.moreK @gkOk_keep hp hq.2.2 hg hat (by rw [hm]; exact hr)
  · exact hq.2.1.grown hg (fun g e => (row_in hq.1.1 e).1) hat
  · refine ⟨fun k hk => absurd hk (by simp), fun k hk => ?_⟩
    rw [withB_no (fun e => by have := (row_in hr e).2; omega)]
    exact hq.2.2.2 k (by have := hg.size; omega)
/-- As Of's: a row new. -/
def OfKP (D : Nat → Bool) (w : World) (o : Option (List Gl)) (e : Ending) (w' : World) : Prop := Below w.heap.size w w' ∧ match o with
  | none => e = .returned (.tuple #[.slice none 0 0, .bool false])
  | some qs => ∃ (a : Option Addr) (c : Nat), e = .returned (.tuple #[.slice a qs.length c, .bool true]) ∧ GoalsK (hide D w') qs (.slice a qs.length c)
theorem addP_new {D : Nat → Bool} {w : World} (hD : Old D w) {o : Option (List Gl)} {e : Ending} {w' : World} (h : AddP w D w (.slice none 0 0) [] o e w') (hl : ∀ qs, o = some qs → qs.length ≤ 1000000) : OfKP D w o e w' := by
  obtain ⟨hg, h⟩ := h
  refine ⟨grown_none hg, ?_⟩
  cases o with
  | none => exact h
  | some qs =>
    obtain ⟨a, m, c, ps, D', rfl, h1, h2, h3, h4, h5, h6⟩ := h
    have hF := h4.finK @gkOk_keep (Nat.le_refl _) h5 h6
    rw [fin_no hD] at hF
    have h1' : ps.map (·.g) = qs := by simpa using h1
    have hlen : ps.length = qs.length := by rw [← h1', List.length_map]
    have hk := own_goalsK hF.1 hF.2 (by have := hl qs rfl; unfold BIG; omega)
    rw [h1'] at hk
    have hmq : m = qs.length := h2.symm.trans hlen
    rw [hmq] at hk ⊢
    exact ⟨a, c, rfl, hk⟩
theorem infoGoalB : (Tryz.prog.info? 35).map (fun i => (i.zero, i.size, i.bytes)) = some (some (.agg #[.int .i64 0, .int .i64 0, .int .i64 0, .string ⟨#[]⟩, .slice none 0 0, .slice none 0 0]), 6, 88) := by kernel_rfl
theorem infoGoalsB : (Tryz.prog.info? 25).map (fun i => (i.zero, i.size, i.bytes)) = some (some (.slice none 0 0), 1, 24) := by kernel_rfl
/-- Of that name, of so many. -/
def nmT (t : Tm) (s : ByteArray) (m : Nat) : Bool := t.s.data.toList == s.data.toList && t.args.length == m
theorem nmT_is {t : Tm} {s : ByteArray} {m : Nat} (hf : formedT t = true) (hs : s.data.toList ≠ []) : nmT t s m = isT t s m := by
  obtain ⟨k, n, st, ts⟩ := t
  rw [formedT, Bool.and_eq_true] at hf
  have hp := hf.1
  unfold nmT isT
  show (st.data.toList == s.data.toList && ts.length == m) = (k == 2 && st.data.toList == s.data.toList && ts.length == m)
  by_cases h2 : k = 2
  · subst h2; simp
  · have hk : (k == 2) = false := beq_false_of_ne h2
    have he : st.data.toList = [] := by
      unfold plainT at hp
      rw [if_neg h2] at hp
      split at hp
      · simp at hp; simpa using hp.1.2
      · split at hp
        · simp at hp; simpa using hp.1
        · cases hp
    rw [hk, he]
    have : (([] : List UInt8) == s.data.toList) = false := beq_false_of_ne (fun e => hs e.symm)
    rw [this]
    rfl
set_option maxHeartbeats 4000000 in
theorem bis_at {t : Tm} {w : World} {v : Value} (hv : TmV w t v) (s : ByteArray) (m : Nat) : Calls Tryz.prog 31 #[v, .string s, .int .i64 m] w fun e w' => e = .returned (.bool (nmT t s m)) ∧ Below w.heap.size w w' := by
  obtain ⟨k, n, st, ts⟩ := t
  obtain ⟨u, rfl, hs, hk, hn, hu⟩ := tmV_iff.1 hv
  obtain ⟨a, c, rfl, h1, h2, h3⟩ := hu.len
  obtain ⟨w1, e1, B1, z1, X1⟩ := box_new w #[.int .i64 k, .int .i64 n, .string st, .slice a ts.length c] 31
  have HE := Lib.hid e1
  have HB := Lib.hid B1
  obtain ⟨x0, x1, x2, x3, _⟩ := X1.four
  have hr : nmT (.mk k n st ts) s m = (st.data.toList == s.data.toList && ts.length == m) := rfl
  rw [hr]
  obtain ⟨l, hl⟩ : ∃ l, ts.length = l := ⟨_, rfl⟩
  rw [hl] at x3 HE h1 ⊢
  clear hr hl hu hv hs hk hn h3 B1 z1 X1 e1
  by_cases g2 : st = s
  · subst g2
    have g2b : (st.toList == st.toList) = true := by simp
    have e2 : (st.data.toList == st.data.toList) = true := by simp
    rw [e2]
    clear e2
    by_cases g3 : l = m
    · subst g3
      have g3b : ((l : Int) == (l : Int)) = true := by simp
      have e3 : (true && l == l) = true := by simp
      rw [e3]
      clear e3
      go_enter Tryz.func31, Tryz.ntmps31
      go_upto_region 1 with fail
      (try rw [HE.out])
      go_wp2
      go_ret
      exact ⟨rfl, HB.out⟩
    · have g3b : ((l : Int) == (m : Int)) = false := by apply beq_false_of_ne; omega
      have e3 : (true && l == m) = false := by simp [g3]
      rw [e3]
      clear e3
      go_enter Tryz.func31, Tryz.ntmps31
      go_upto_region 1 with fail
      (try rw [HE.out])
      go_wp2
      go_ret
      exact ⟨rfl, HB.out⟩
  · have g2a : (st.data.toList == s.data.toList) = false := beq_false_of_ne (fun e => g2 (bytes_eq e))
    have g2b : (st.toList == s.toList) = false := by rw [Lib.toList_data, Lib.toList_data]; exact g2a
    have e3 : ((st.data.toList == s.data.toList) && l == m) = false := by rw [g2a]; simp
    rw [e3]
    clear e3 g2a
    go_enter Tryz.func31, Tryz.ntmps31
    go_upto_region 1 with fail
    (try rw [HE.out])
    go_wp2
    go_ret
    exact ⟨rfl, HB.out⟩
end Go.Proofs.YtaojalicnnnkmaaGreatDoor
/- Package body: addRows, over add's contract. -/
namespace Go.Proofs.YtaojalicnnnkmaaGreatDoor
open Go.RowKit
set_option linter.unusedVariables false

def RwK (D : Nat → Bool) (w : World) (kind : Int) (ts : List Tm) (j c : Nat) (a : Option Addr) (wr : World) : Prop :=
  ∃ (D1 : Nat → Bool) (ps : List (List Gl × Value)), ps.length = j ∧ ofR ts = (ofR (ts.drop j)).map (fun y => ps.map (·.1) ++ y) ∧ Box wr w.heap.size [.int .i64 kind, .int .i64 0, .int .i64 0, .string ⟨#[]⟩, .slice none 0 0, .slice a j c] ∧
    RowQ 1 rsCells rkOk 25 D1 noM wr (w.heap.size + 1) (.slice a j c) ps ∧ Turn D noM D1 noM w wr ∧ Okd D1 noM wr ∧ D1 w.heap.size = true ∧ w.heap.size + 1 ≤ wr.heap.size
set_option maxHeartbeats 8000000 in
set_option maxRecDepth 100000 in
theorem addRows_at {W : World} {D0 D : Nat → Bool} {w : World} {a0 : Option Addr} {m0 c0 : Nat} {ps0 : List GlP} (hA : Adds W D0 D w (.slice a0 m0 c0) ps0) (hm0 : ps0.length = m0) (hroom : m0 + 1 ≤ 1000000) {kind : Int} {ts : List Tm} {v : Value} (hk : I64 kind) (hv : Tms (hide D w) v ts) (hl : ts.length ≤ 100)
    (PO : ∀ x ∈ ts, ∀ (D' : Nat → Bool) (wq : World) (vx : Value), Old D' wq → TmV (hide D' wq) x vx → Calls Tryz.prog 27 #[.slice none 0 0, vx] wq (OfKP D' wq (ofB x))) :
    Calls Tryz.prog 43 #[.slice a0 m0 c0, .int .i64 kind, v] w (AddP W D0 w (.slice a0 m0 c0) ps0 ((ofR ts).map fun ls => [.mk kind zeroT ls])) := by
  obtain ⟨a, c, rfl, h1, h2, h3⟩ := hv.len
  unfold maxLen at h2
  obtain ⟨m, hm⟩ : ∃ m, ts.length = m := ⟨_, rfl⟩
  have HM := Lib.hid hm
  have HV := Lib.hid hv
  have HPO := Lib.hid PO
  have HA := Lib.hid hA
  have HD := Lib.hid hA.old
  have HK := Lib.hid hk
  have HM0 := Lib.hid hm0
  obtain ⟨i0, hi0, hz0, hs0, hb0⟩ := info_parts infoGoalsB
  obtain ⟨i1, hi1, hz1, hs1, hb1⟩ := info_parts infoGoalB
  obtain ⟨w1, e1, B1, z1, X1⟩ := box_new w #[.int .i64 kind, .int .i64 0, .int .i64 0, .string ⟨#[]⟩, .slice none 0 0, .slice none 0 0] 35
  have HE := Lib.hid e1
  have HI0 := Lib.hid (show RwK D w kind ts 0 0 none w1 from
    ⟨plusB D w.heap.size, [], rfl, (by rw [List.drop_zero]; cases ofR ts <;> rfl), X1, RowQ.none _ _ _ _, Turn.into B1 (Nat.le_refl _), (okd_no HD.out).box B1.size X1.lt, plusB_self _ _, by omega⟩)
  rw [hm] at hl h1 h3 HV ⊢
  clear hm hv PO hA hk hm0 e1 B1 z1 X1
  go_enter Tryz.func43, Tryz.ntmps43
  go_upto_region 1 with fail
  go_wp2_with fail
  (try rw [HE.out])
  go_loopw [17] (fun i wr => ∃ (j c' : Nat) (a' : Option Addr), j ≤ m ∧ i = .int .i64 j ∧ Hid (RwK D w kind ts j c' a' wr)) (fun i _ => m - (intOf i).toNat)
  case atStart => exact ⟨0, 0, none, Nat.zero_le _, rfl, HI0⟩
  case round =>
    obtain ⟨j, c', a', hj, rfl, HP⟩ := hrel
    clear HI0
    by_cases hjm : j < m
    · have hjm2 : (j : Int) < m := by omega
      obtain ⟨x, hx⟩ : ∃ x, ts[j]? = some x := ⟨_, List.getElem?_eq_getElem (by rw [HM.out]; exact hjm)⟩
      obtain ⟨D1, ps, hpl, hpm, hbx, hrow, htn, hok, hd1, hsz⟩ := HP.out
      have hvr := HV.out.stay (htn.stays (fun _ h => by cases h))
      obtain ⟨b, off, xk, xn, xs, xu, rfl, _, _, _, _, c0, c1, c2, c3, hxu, htx⟩ := hvr.get hx
      obtain ⟨a5, m5, c5, rfl⟩ : ∃ a5 m5 c5, xu = .slice a5 m5 c5 := by obtain ⟨a5, c5, e, _⟩ := hxu.len; exact ⟨_, _, _, e⟩
      have d0 := (Stays.unhide D1 wr).2 _ _ c0
      have d1 := (Stays.unhide D1 wr).2 _ _ c1
      have d2 := (Stays.unhide D1 wr).2 _ _ c2
      have d3 := (Stays.unhide D1 wr).2 _ _ c3
      obtain ⟨w4, e4, B4, z4, X4⟩ := box_new wr #[.int .i64 xk, .int .i64 xn, .string xs, .slice a5 m5 c5] 31
      have HE4 := Lib.hid e4
      have HB4 := Lib.hid B4
      obtain ⟨q0, q1, q2, q3, _⟩ := X4.four
      have C := HPO.out x (List.mem_of_getElem? hx) D1 w4 _ (hok.2.mono B4.size) (TmV.stay (stays_bel B4) _ _ htx)
      obtain ⟨o, ho⟩ : ∃ o, ofB x = o := ⟨_, rfl⟩
      have HPS := Lib.hid (And.intro hpl (And.intro hpm (And.intro hbx (And.intro hrow (And.intro htn (And.intro hok (And.intro hd1 (And.intro hsz (And.intro hx ho)))))))))
      rw [ho] at C
      clear hpl hpm hbx hrow htn hok hd1 hsz hvr c0 c1 c2 c3 hxu htx hx ho HP e4 B4 z4 X4
      cases o with
      | none =>
        go_wp2_with fail
        (try rw [HE4.out])
        (go_wp2_with fail; go_fit (C); rintro e w5 ⟨b5, rfl⟩)
        have HB5 := Lib.hid b5
        clear C b5 d0 d1 d2 d3 q0 q1 q2 q3
        go_wp2
        go_ret2
        obtain ⟨hpl, hpm, hbx, hrow, htn, hok, hd1, hsz, hx, ho⟩ := HPS.out
        rw [hpm, ofR_none hx ho]
        exact ⟨grown_of_bel (Ext.trans' (htn.bel (Nat.le_refl _) (fun _ _ => rfl)) (Ext.trans' HB4.out HB5.out)), rfl⟩
      | some l =>
        go_wp2_with fail
        (try rw [HE4.out])
        (go_wp2_with fail; go_fit (C); rintro e w5 ⟨b5, a6, c6, rfl, h5⟩)
        obtain ⟨hpl, hpm, hbx, hrow, htn, hok, hd1, hsz, hx, ho⟩ := HPS.out
        have b54 := Ext.trans' HB4.out b5
        have h5' : GoalsK (hide D1 w5) l (.slice a6 l.length c6) := h5
        obtain ⟨x0, x1, x2, x3, x4, x5, xf⟩ := (hbx.ext b54).six
        have HX5 := Lib.hid x5
        obtain ⟨L6, hL6⟩ : ∃ L6, l.length = L6 := ⟨_, rfl⟩
        rw [hL6] at h5' ⊢
        have hW5 : Below wr.heap.size wr (w5.alloc (.cells #[Value.slice a6 L6 c6] 25)) := Ext.trans' b54 (bel1' w5 _)
        have hRW := hrow.turnK (M := noM) @rkOk_keep (Turn.below (D := D1) (M := noM) hW5) hok.1
        have hok5 : rkOk (hide D1 (w5.alloc (.cells #[Value.slice a6 L6 c6] 25))) (l, Value.slice a6 L6 c6) := h5'.keep (keeps_bel (bel1' w5 _))
        have hrow9 : (w5.alloc (.cells #[Value.slice a6 L6 c6] 25)).ownsRow (w.heap.size + 1) 25 1 (.slice a' j c') j (ps.flatMap rsCells) := by
          have := hRW.1
          rw [hpl] at this
          exact this
        have hbx9 := hbx.ext hW5
        have HN := Lib.hid (fun (a7 : Option Addr) (c7 : Nat) (w7 : World) (hown : w7.ownsRow (w.heap.size + 1) 25 1 (.slice a7 (j + 1) c7) (j + 1) (ps.flatMap rsCells ++ [Value.slice a6 L6 c6])) (hg : (w5.alloc (.cells #[Value.slice a6 L6 c6] 25)).grownBy w7 (Value.slice a' j c').ownBlock)
            (hat : (Value.slice a7 (j + 1) c7).ownBlock = (Value.slice a' j c').ownBlock ∨ (Value.slice a7 (j + 1) c7).ownBlock = some (w5.alloc (.cells #[Value.slice a6 L6 c6] 25)).heap.size) =>
          (show Box w7 w.heap.size [.int .i64 kind, .int .i64 0, .int .i64 0, .string ⟨#[]⟩, .slice none 0 0, .slice a' j c'] ∧ RwK D w kind ts (j + 1) c7 a7 (w7.setCell ⟨w.heap.size, 5, none⟩ (.slice a7 (j + 1) c7)) from by
            have hb7 : Box w7 w.heap.size [.int .i64 kind, .int .i64 0, .int .i64 0, .string ⟨#[]⟩, .slice none 0 0, .slice a' j c'] :=
              hbx9.block (hg.block _ hbx9.lt (fun e => by have := (row_in hrow9 e.symm).1; omega)) (Nat.lt_of_lt_of_le hbx9.lt hg.size)
            have hT9 := (htn.trans (Turn.below (D := D1) (M := noM) hW5)).grown hg (fun g hg' => by have := (row_in hrow9 hg').1; omega) hat
            have hR7 := hRW.moreK @rkOk_keep (p := (l, Value.slice a6 L6 c6)) hok5 (hok.later hW5.size) hg hat (by rw [hpl]; exact hown)
            have hne : ∀ g, (Value.slice a7 (j + 1) c7).ownBlock = some g → g ≠ w.heap.size := fun g hg' e => by have := (row_in hown hg').1; omega
            refine ⟨hb7, withB D1 (.slice a7 (j + 1) c7), ps ++ [(l, Value.slice a6 L6 c6)], by rw [List.length_append, hpl]; rfl, ?_, hb7.set (k := 5) (by simp), hR7.putK @rkOk_keep ⟨w.heap.size, 5, none⟩ _ (withB_of hd1) hne, hT9.set ⟨w.heap.size, 5, none⟩ _ (Or.inl (Nat.le_refl _)), ⟨fun k hk => absurd hk (by simp), fun k hk => ?_⟩, withB_of hd1, ?_⟩
            · rw [hpm, ofR_some hx ho, Option.map_map]
              congr 1
              funext y
              simp
            · rw [withB_no (fun e => by have := (row_in hown e).2; simp [World.setCell] at hk; omega)]
              exact hok.2 k (by have h1 := hg.size; have h2 := hW5.size; simp [World.setCell] at hk; omega)
            · have h1 := hg.size; have h2 := hW5.size; simp [World.setCell]; omega))
        have HROW := Lib.hid hrow9
        have HLE := Lib.hid (show w.heap.size + 1 ≤ (w5.alloc (.cells #[Value.slice a6 L6 c6] 25)).heap.size from Nat.le_trans hsz hW5.size)
        have HONE := Lib.hid (show ∀ u ∈ [Value.slice a6 L6 c6], u.oneCell' = true from fun u hu => by rw [List.mem_singleton] at hu; rw [hu]; rfl)
        clear hpl hpm hbx hrow htn hok hd1 hsz hx ho h5 h5' C b5 b54 d0 d1 d2 d3 q0 q1 q2 q3 hW5 hRW hok5 hrow9 hbx9 hL6 HPS x0 x1 x2 x3 x4 xf
        go_wp2_with (at_builtin; refine wpList_append_k rfl _ _ 33 rfl (w.heap.size + 1) 25 i0 (.slice none 0 0) 1 24 Tryz.underlying33 hi0 hz0 hs0 (by decide) hb0 rfl (.slice a' j c') j (ps.flatMap rsCells) rfl HROW.out (some ⟨w5.heap.size, 0, none⟩) 1 1 [Value.slice a6 L6 c6] rfl rfl (Or.inr ⟨_, rfl, fun j u hu => cell_new w5 #[Value.slice a6 L6 c6] _ j u hu⟩) HONE.out (by unfold maxLen; omega) (by omega) HLE.out (j + 1) _ rfl rfl ?_; intro a7 c7 w7 hown7 hgrow7 hat7; have HN7 := Lib.hid (HN.out a7 c7 w7 hown7 hgrow7 hat7); obtain ⟨y0, y1, y2, y3, y4, y5, yf⟩ := HN7.out.1.six; clear hown7 hgrow7 hat7)
        go_roundw
        case rel => exact ⟨j + 1, c7, a7, by omega, by go_num, Lib.hid HN7.out.2⟩
        case measure => simp [intOf]; omega
    · have hje : j = m := by omega
      subst hje
      obtain ⟨D1, ps, hpl, hpm, hbx, hrow, htn, hok, hd1, hsz⟩ := HP.out
      obtain ⟨x0, x1, x2, x3, x4, x5, xf⟩ := hbx.six
      have hdr : ofR (ts.drop j) = some [] := by rw [List.drop_eq_nil_of_le (by rw [HM.out]; exact Nat.le_refl _), ofR]
      have hr : ofR ts = some (ps.map (·.1)) := by rw [hpm, hdr]; simp
      have HR := Lib.hid hr
      have hF := hrow.finK @rkOk_keep (by omega) htn hok
      rw [fin_no HD.out] at hF
      have hrv := own_rowsK hF.1 hF.2 (by rw [hpl]; unfold BIG; omega)
      have hb9 : Below w.heap.size w (wr.alloc (.cells #[.int .i64 kind, .int .i64 0, .int .i64 0, .string ⟨#[]⟩, .slice none 0 0, .slice a' j c'] 35)) := Ext.trans' (htn.bel (Nat.le_refl _) (fun _ _ => rfl)) (bel1' wr _)
      have hA9 := HA.out.later hb9
      have hrv9 := hrv.keep (keeps_bel (D := D) (bel1' wr (.cells #[.int .i64 kind, .int .i64 0, .int .i64 0, .string ⟨#[]⟩, .slice none 0 0, .slice a' j c'] 35)))
      have hgk : gkOk (hide D (wr.alloc (.cells #[.int .i64 kind, .int .i64 0, .int .i64 0, .string ⟨#[]⟩, .slice none 0 0, .slice a' j c'] 35))) ⟨.mk kind zeroT (ps.map (·.1)), .slice none 0 0, .slice a' j c'⟩ :=
        ⟨glC_iff.2 ⟨HK.out, leaf_tm _ i64_0 i64_0 (by unfold BIG; decide), hrv9.1⟩, skG_iff.2 hrv9.2⟩
      have HROW := Lib.hid (show (wr.alloc (.cells #[.int .i64 kind, .int .i64 0, .int .i64 0, .string ⟨#[]⟩, .slice none 0 0, .slice a' j c'] 35)).ownsRow W.heap.size 35 6 (.slice a0 m0 c0) m0 (ps0.flatMap glCells) by have := hA9.1.1; rw [HM0.out] at this; exact this)
      have HLE := Lib.hid (show W.heap.size ≤ (wr.alloc (.cells #[.int .i64 kind, .int .i64 0, .int .i64 0, .string ⟨#[]⟩, .slice none 0 0, .slice a' j c'] 35)).heap.size from hA9.2.1.size)
      have HONE := Lib.hid (show ∀ u ∈ [Value.int .i64 kind, .int .i64 0, .int .i64 0, .string ⟨#[]⟩, .slice none 0 0, .slice a' j c'], u.oneCell' = true from fun u hu => by
        simp only [List.mem_cons, List.not_mem_nil, or_false] at hu
        rcases hu with rfl | rfl | rfl | rfl | rfl | rfl <;> rfl)
      have HEND := Lib.hid (fun (a7 : Option Addr) (c7 : Nat) (w7 : World) (hown : w7.ownsRow W.heap.size 35 6 (.slice a7 (m0 + 1) c7) (m0 + 1) (ps0.flatMap glCells ++ [Value.int .i64 kind, .int .i64 0, .int .i64 0, .string ⟨#[]⟩, .slice none 0 0, .slice a' j c']))
          (hg : (wr.alloc (.cells #[.int .i64 kind, .int .i64 0, .int .i64 0, .string ⟨#[]⟩, .slice none 0 0, .slice a' j c'] 35)).grownBy w7 (Value.slice a0 m0 c0).ownBlock)
          (hat : (Value.slice a7 (m0 + 1) c7).ownBlock = (Value.slice a0 m0 c0).ownBlock ∨ (Value.slice a7 (m0 + 1) c7).ownBlock = some (wr.alloc (.cells #[.int .i64 kind, .int .i64 0, .int .i64 0, .string ⟨#[]⟩, .slice none 0 0, .slice a' j c'] 35)).heap.size) =>
        addP_push (p := ⟨.mk kind zeroT (ps.map (·.1)), .slice none 0 0, .slice a' j c'⟩) HA.out HM0.out hb9 hgk hg hat hown)
      clear hpl hpm hbx hrow htn hok hd1 hsz hdr hr hF hrv hb9 hA9 hrv9 hgk HP xf
      go_wp2_with (at_builtin; refine wpList_append_k rfl _ _ 25 rfl W.heap.size 35 i1 (.agg #[.int .i64 0, .int .i64 0, .int .i64 0, .string ⟨#[]⟩, .slice none 0 0, .slice none 0 0]) 6 88 Tryz.underlying25 hi1 hz1 hs1 (by decide) hb1 rfl (.slice a0 m0 c0) m0 (ps0.flatMap glCells) rfl HROW.out (some ⟨wr.heap.size, 0, none⟩) 1 1 [Value.int .i64 kind, .int .i64 0, .int .i64 0, .string ⟨#[]⟩, .slice none 0 0, .slice a' j c'] rfl rfl (Or.inr ⟨_, rfl, fun jj u hu => cell_new wr #[.int .i64 kind, .int .i64 0, .int .i64 0, .string ⟨#[]⟩, .slice none 0 0, .slice a' j c'] _ jj u hu⟩) HONE.out (by unfold maxLen; omega) (by omega) HLE.out (m0 + 1) _ rfl rfl ?_; intro a7 c7 w7 hown7 hgrow7 hat7; have HN7 := Lib.hid (HEND.out a7 c7 w7 hown7 hgrow7 hat7); clear hown7 hgrow7 hat7)
      go_ret2
      rw [HR.out]
      exact HN7.out
end Go.Proofs.YtaojalicnnnkmaaGreatDoor
/- A region that draws its order, walked while a condition B holds, and a condition C till operation l has come up: what l waits for may be taken first under C. Nothing here speaks of one program. -/
namespace Go
section
variable {P : Program} {md : Region.Mode} {ops : Array Oper} {Q : Exit → Act → World → Prop} {B C : World → Prop} {l : Nat}
/-- B, and C till l has come up. -/
def TillG (B C : World → Prop) (l : Nat) (listed : Array Bool) (w : World) : Prop := B w ∧ (listed.getD l true = false → C w)
def wpAnyG (P : Program) (md : Region.Mode) (ops : Array Oper) (Q : Exit → Act → World → Prop) (B C : World → Prop) (l : Nat) : Nat → Array Bool → Act → World → Prop
  | 0, listed, a, w => Region.ready md ops listed = [] ∧ Q .normal a w
  | fuel + 1, listed, a, w => (Region.ready md ops listed = [] → Q .normal a w) ∧
    ∀ i ∈ Region.ready md ops listed, wpOp P ops Q i (fun a' w' => TillG B C l (listed.setIfInBounds i true) w' ∧ wpAnyG P md ops Q B C l fuel (listed.setIfInBounds i true) a' w') a w
theorem wpAny_of_G : ∀ (fuel : Nat) (listed : Array Bool) (a : Act) (w : World), wpAnyG P md ops Q B C l fuel listed a w → wpAny P md ops Q fuel listed a w
  | 0, _, _, _, h => h
  | fuel + 1, _, _, _, h => ⟨h.1, fun i hi => wpOp_mono (fun a' w' h' => wpAny_of_G fuel _ a' w' h'.2) (h.2 i hi)⟩
theorem TillG.unset {i : Nat} {listed : Array Bool} {w : World} (hil : i ≠ l) : TillG B C l (listed.setIfInBounds i true) w ↔ TillG B C l listed w := by
  unfold TillG
  rw [getD_set_ne true hil]
theorem G_first {i : Nat} {oi : Oper} {v : Value} (hi : ops[i]? = some oi) (hsel : ∀ (j : Nat) (o : Oper) cs b, ops[j]? = some o → o.op ≠ .select cs b)
    (hQ : ∀ c a w, Q (.panic c) (a.put oi.dst v) w → Q (.panic c) a w) (hil : i ≠ l) (J : Array Bool → Prop) (E : World → Prop) (hE : ∀ listed w, J listed → TillG B C l listed w → E w)
    (hJ : ∀ listed j, J listed → i ∈ Region.ready md ops listed → j ∈ Region.ready md ops listed → j ≠ i → J (listed.setIfInBounds j true)) :
    ∀ (fuel : Nat) (listed : Array Bool) (a : Act) (w : World), J listed →
      (∀ j oj, ops[j]? = some oj → j ≠ i → listed.getD j true = false → (∀ e ∈ oj.after, Region.binds md e = true → e.on ≠ i) → oi.apart ops oj = true) →
      i ∈ Region.ready md ops listed → YieldsIf P ops E oi v a → TillG B C l listed w →
      wpAnyG P md ops Q B C l fuel (listed.setIfInBounds i true) (a.put oi.dst v) w → wpAnyG P md ops Q B C l (fuel + 1) listed a w := by
  intro fuel
  induction fuel with
  | zero =>
    intro listed a w hj _ hr hy hS H
    refine ⟨fun h => (by rw [h] at hr; cases hr), fun j hj' => ?_⟩
    by_cases hji : j = i
    · subst hji; exact hy.wpOp hi (hE _ _ hj hS) ⟨(TillG.unset hil).2 hS, H⟩
    · have := ready_mono hj' hji
      rw [H.1] at this
      cases this
  | succ fuel ih =>
    intro listed a w hj hfree hr hy hS H
    refine ⟨fun h => (by rw [h] at hr; cases hr), fun j hj' => ?_⟩
    by_cases hji : j = i
    · subst hji; exact hy.wpOp hi (hE _ _ hj hS) ⟨(TillG.unset hil).2 hS, H⟩
    · have h1 := H.2 j (ready_mono hj' hji)
      obtain ⟨hjun, oj, hoj, hall⟩ := mem_ready.1 hj'
      have hnot : ∀ e ∈ oj.after, Region.binds md e = true → e.on ≠ i := fun e he hb heq => by
        have h1 := hall e he hb
        have h0 := (mem_ready.1 hr).1
        rw [heq] at h1
        rcases Nat.lt_or_ge i listed.size with h' | h'
        · simp [h'] at h0 h1; rw [h0] at h1; cases h1
        · simp [Array.getElem?_eq_none h'] at h1
      have h2 := wpOp_putIf hoj (hfree j oj hoj hji hjun hnot) (fun cs b => hsel i oi cs b hi) (fun cs b => hsel j oj cs b hoj) hQ hy h1
      have hfree' : ∀ k ok, ops[k]? = some ok → k ≠ i → (listed.setIfInBounds j true).getD k true = false →
          (∀ e ∈ ok.after, Region.binds md e = true → e.on ≠ i) → oi.apart ops ok = true := fun k ok hk hki hun hno => by
        refine hfree k ok hk hki ?_ hno
        by_cases hjk : j = k
        · subst hjk; exact hjun
        · rw [getD_set_ne true hjk] at hun; exact hun
      refine wpOp_mono (fun a' w' h3 => ?_) h2
      have hcomm := Array.setIfInBounds_comm (xs := listed) true true hji
      obtain ⟨h4, h5, h6⟩ := h3
      rw [← hcomm] at h5 h6
      have h7 := (TillG.unset hil).1 h5
      exact ⟨h7, ih (listed.setIfInBounds j true) a' w' (hJ listed j hj hr hj' hji) hfree' (ready_mono hr (Ne.symm hji)) h4 h7 h6⟩
/-- One that answers so under B. -/
theorem g_tb {i : Nat} {oi : Oper} {fuel : Nat} {listed : Array Bool} {a : Act} {w : World} (hS : TillG B C l listed w)
    (h : ∃ v, (∀ w, B w → (execOp a.eval oi).run P w = .ok (.value v) w) ∧ wpAnyG P md ops Q B C l fuel (listed.setIfInBounds i true) (a.put oi.dst v) w)
    (hi : ops[i]? = some oi := by simp only [List.getElem?_toArray, List.getElem?_cons_zero, List.getElem?_cons_succ]; rfl) (hil : i ≠ l := by decide)
    (hs : Region.noSelect ops = true := by kernel_rfl) (hf : Region.free md ops listed i = true := by kernel_rfl) (hr : (Region.ready md ops listed).contains i = true := by kernel_rfl) (hw : Region.wanted oi (yielded ops a.tmps) = true := by rfl)
    (hQ : ∀ v c a w, Q (.panic c) (a.put oi.dst v) w → Q (.panic c) a w := by exact fun _ _ _ _ h => h) : wpAnyG P md ops Q B C l (fuel + 1) listed a w := by
  obtain ⟨v, h1, h2⟩ := h
  exact G_first hi (Region.noSelect_spec hs) (hQ v) hil (fun _ => True) B (fun _ _ _ h => h.1) (fun _ _ _ _ _ _ => trivial) fuel listed a w trivial (Region.free_spec hi hf) (by simpa using hr) (Or.inl ⟨hw, h1⟩) hS h2
def AllReadyG (P : Program) (md : Region.Mode) (ops : Array Oper) (Q : Exit → Act → World → Prop) (B C : World → Prop) (l fuel : Nat) (listed : Array Bool) (a : Act) (w : World) (rs : List Nat) : Prop :=
  ∀ i ∈ rs, wpOp P ops Q i (fun a' w' => TillG B C l (listed.setIfInBounds i true) w' ∧ wpAnyG P md ops Q B C l fuel (listed.setIfInBounds i true) a' w') a w
theorem AllReadyG.nil {fuel : Nat} {listed : Array Bool} {a : Act} {w : World} : AllReadyG P md ops Q B C l fuel listed a w [] := fun _ h => by cases h
theorem AllReadyG.cons {fuel : Nat} {listed : Array Bool} {a : Act} {w : World} {i : Nat} {o : Oper} {rs : List Nat} (ho : ops[i]? = some o)
    (h : ∀ K' : Act → World → Prop, Shut (∀ a w, TillG B C l (listed.setIfInBounds i true) w → (TillG B C l (listed.setIfInBounds i true) w → wpAnyG P md ops Q B C l fuel (listed.setIfInBounds i true) a w) → K' a w) → if Region.wanted o (yielded ops a.tmps) = true then Oper.wp P o a w K' Q else K' (a.put o.dst undef) w)
    (hs : AllReadyG P md ops Q B C l fuel listed a w rs) : AllReadyG P md ops Q B C l fuel listed a w (i :: rs) := fun j hj => by
  rcases List.mem_cons.1 hj with rfl | hj
  · exact wpOp_step ho (fun K' hK => h K' (fun a w hS hW => hK a w ⟨hS, hW hS⟩))
  · exact hs j hj
theorem g_ready {rs : List Nat} {fuel : Nat} {listed : Array Bool} {a : Act} {w : World} (hr : Region.ready md ops listed = rs) (hne : rs ≠ [])
    (h : AllReadyG P md ops Q B C l fuel listed a w rs) : wpAnyG P md ops Q B C l (fuel + 1) listed a w := ⟨fun h0 => absurd (hr ▸ h0) hne, hr ▸ h⟩
theorem g_done {listed : Array Bool} {a : Act} {w : World} (hr : Region.ready md ops listed = []) (h : Q .normal a w) : ∀ fuel, wpAnyG P md ops Q B C l fuel listed a w
  | 0 => ⟨hr, h⟩
  | _ + 1 => ⟨fun _ => h, by rw [hr]; simp⟩
theorem g_begin {id : Nat} {a : Act} {w : World} (l : Nat) (hm : P.follows .mixedOrders = true) (hB : B w.drew) (hC : C w.drew)
    (h : B w.drew → C w.drew → wpAnyG P .any ops Q B C l ops.size (Array.replicate ops.size false) a w.drew) : (Code.region id ops true).wp P Q a w :=
  wp_region_any hm (wpAny_of_G _ _ _ _ (h hB hC))
end
end Go
