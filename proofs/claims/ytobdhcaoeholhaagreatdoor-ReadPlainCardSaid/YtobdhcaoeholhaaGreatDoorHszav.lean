import Derived.Test.YtobdhcaoeholhaaGreatDoorHszau
import Derived.Test.YtobdhcaoeholhaaGreatDoorHszaj
import Derived.Laws.OwnMore
set_option linter.unusedVariables false
set_option linter.unusedSimpArgs false
/- The document's reader: variable: a new one. (gen_rp6.py) -/
namespace Go.Proofs.YtobdhcaoeholhaaGreatDoor
open Go.Shelf Go.RowKit
set_option linter.unusedVariables false

set_option maxHeartbeats 4000000 in
/-- The name '_'. -/
theorem dvar_under {D M : Nat → Bool} {w : World} {rb : Nat} {xs : List O} {L : List TokP} {s s' : RS} (h : Sd D M w rb xs L (some s)) (e1 : s'.rest = s.rest) (e2 : s'.names = s.names) (e3 : s'.next = s.next + 1) (hn : Nice s') :
    Calls Tryz.prog 159 #[.pointer (some ⟨rb, 0, none⟩), .string ⟨#[95]⟩] w (VPost D M w rb xs L s.next s') := by
  obtain ⟨w1, hw1, hb1, hz1, hx1⟩ := box_new w #[.int .i64 0, .int .i64 0, .string ⟨#[]⟩, .slice none 0 0] 66
  obtain ⟨r0, r1, r2, r3, rf⟩ := hx1.four
  have H1 := Lib.hid (h.box hb1 (Nat.le_refl _) hx1.lt)
  have HB := Lib.hid (h.out (Nat.le_refl _))
  have HMD := Lib.hid h.md
  have HOD := Lib.hid h.old
  have hnr : rb ≠ w.heap.size := by have := h.lt; omega
  have hq := h.gd.nice.1
  obtain ⟨_, _, vn, _, _, _, _, p3, p4, p5, pf, _, _, pn, _⟩ := H1.out.parts
  obtain ⟨a, c, e, l1, l2, _⟩ := (show Nms w1 vn s.names from Elems.owned nmCells_len pn)
  subst e
  obtain ⟨n, hln⟩ : ∃ n, s.names.length = n := ⟨_, rfl⟩
  rw [hln] at p3 l1
  obtain ⟨q, hqq⟩ : ∃ q, s.next = q := ⟨_, rfl⟩
  rw [hqq] at p4 e3 hq ⊢
  have hw : IntKind.i64.wrap ((q : Int) + 1) = (q : Int) + 1 := by rw [IntKind.wrap_i64]; omega
  have hw2 : IntKind.i64.wrap ((q : Int) + 1 - 1) = (q : Int) := by rw [IntKind.wrap_i64]; omega
  have HS := H1.out.num e1 e2 hn
  have hT1 := (Turn.below (D := D) (M := M) hb1).set ⟨rb, 4, none⟩ (.int .i64 (s'.next : Int)) (Or.inr h.mb)
  rw [show ((s'.next : Nat) : Int) = (q : Int) + 1 by rw [e3]; omega] at HS hT1
  have HS := Lib.hid HS
  have HT := Lib.hid hT1
  unfold maxLen at l2
  clear h e1 e2 e3 hn hln hqq hb1 hx1 hz1 pn hT1 H1
  go_enter Tryz.func159, Tryz.ntmps159
  go_wp2_with fail
  (try rw [hw1])
  clear hw1
  go_loop [5] (fun v => v = .int .i64 0) (fun v => 0)
  case atStart => rfl
  case round =>
    subst hrel
    by_cases hn0 : (0 : Int) < n
    all_goals
      go_wp2
      refine bodyPost_ret (v := .agg #[.int .i64 0, .int .i64 (q : Int), .string ⟨#[]⟩, .slice none 0 0]) (by rw [results_cell1 rfl]; go_simp) rfl ?_
      have hT := HT.out.set4 (b := w.heap.size) (Or.inl (Nat.le_refl _)) (.int .i64 0) (.int .i64 (q : Int)) (.string ⟨#[]⟩) (.slice none 0 0)
      exact ⟨D, M, rfl, (HS.out.put4 (plusB_self D _) HB.out (.int .i64 0) (.int .i64 (q : Int)) (.string ⟨#[]⟩) (.slice none 0 0)).unbox HMD.out (HOD.out.mono hT.size), hT⟩
theorem Turn.unbox {D M X M1 : Nat → Bool} {w w' : World} {b : Nat} (h : Turn D M (plusB X b) M1 w w') (hb : w.heap.size ≤ b) : Turn D M X M1 w w' :=
  ⟨h.size, fun k hk => (plusB_ne (by omega)).symm.trans (h.dd k hk), h.mm, h.kept, h.ot⟩
set_option maxRecDepth 100000 in
set_option maxHeartbeats 8000000 in
/-- A new name. -/
theorem dvar_miss {D M : Nat → Bool} {w : World} {rb : Nat} {xs : List O} {L : List TokP} {s s' : RS} (h : Sd D M w rb xs L (some s)) (name : List UInt8) (hnu : name ≠ [95]) (hno : ∀ (j : Nat) (y : NmP), s.names[j]? = some y → (y.1 == name) = false)
    (e1 : s'.rest = s.rest) (e2 : s'.names = s.names ++ [(name, s.next)]) (e3 : s'.next = s.next + 1) (hn : Nice s') :
    Calls Tryz.prog 159 #[.pointer (some ⟨rb, 0, none⟩), .string ⟨name.toArray⟩] w (VPost D M w rb xs L s.next s') := by
  obtain ⟨w1, hw1, hb1, hz1, hx1⟩ := box_new w #[.int .i64 0, .int .i64 0, .string ⟨#[]⟩, .slice none 0 0] 66
  obtain ⟨r0, r1, r2, r3, rf⟩ := hx1.four
  have HS1 := Lib.hid (h.box hb1 (Nat.le_refl _) hx1.lt)
  have HB := Lib.hid (h.out (Nat.le_refl _))
  have HMD := Lib.hid h.md
  have HOD := Lib.hid h.old
  have HX1 := Lib.hid hx1
  have HB1W := Lib.hid hb1
  have hnr : rb ≠ w.heap.size := by have := h.lt; omega
  have hq := h.gd.nice.1
  have HT1 := Lib.hid (Turn.below (D := D) (M := M) hb1)
  have HNOU := Lib.hid h.gd.nou
  obtain ⟨_, _, vn, _, _, _, _, p3, p4, p5, pf, _, _, pn, pm, _⟩ := HS1.out.parts
  have hnm : Nms w1 vn s.names := Elems.owned nmCells_len pn
  obtain ⟨a, c, e, l1, l2, _⟩ := (show Nms w1 vn s.names from hnm)
  subst e
  obtain ⟨n, hln⟩ : ∃ n, s.names.length = n := ⟨_, rfl⟩
  have hn2 : n ≤ 2000 := by have h1 := h.gd.nice.2.1; omega
  rw [hln] at p3 l1 hnm pn pm
  obtain ⟨q, hqq⟩ : ∃ q, s.next = q := ⟨_, rfl⟩
  rw [hqq] at p4 hq ⊢
  have hw : IntKind.i64.wrap ((q : Int) + 1) = (q : Int) + 1 := by rw [IntKind.wrap_i64]; omega
  have hw2 : IntKind.i64.wrap ((q : Int) + 1 - 1) = (q : Int) := by rw [IntKind.wrap_i64]; omega
  unfold maxLen at l2
  have hu1 : (name != [95]) = true := by simpa using hnu
  have hu2 : (name == [95]) = false := beq_false_of_ne hnu
  have HN := Lib.hid hnm
  have HLEN := Lib.hid hln
  have HQ := Lib.hid hqq
  have HNO := Lib.hid hno
  have HE := Lib.hid (And.intro e1 (And.intro e2 (And.intro e3 hn)))
  have HNU := Lib.hid hnu
  obtain ⟨olds, hol⟩ : ∃ l, s.names.flatMap nmCells = l := ⟨_, rfl⟩
  rw [hol] at pn
  have HOl := Lib.hid hol
  have HPN := Lib.hid pn
  have HRB := Lib.hid (fun k hk => (row_in pn (g := k) hk).1)
  have HPM := Lib.hid pm
  have hlt1 := HS1.out.lt
  have hsz1 : rb + 1 ≤ w1.heap.size := by omega
  have hrn : (Value.slice a n c).ownBlock ≠ some rb := fun e => by have := HRB.out rb e; omega
  have HG := Lib.hid (fun (o : Obj) (w7 : World) (g : (w1.alloc o).drew.grownBy w7 (Value.slice a n c).ownBlock) (k : Nat) (hk : k < w1.heap.size) (hne : (Value.slice a n c).ownBlock ≠ some k) => (g.block k (Nat.lt_of_lt_of_le hk (bel1' w1 o).size) (Ne.symm hne)).trans ((bel1' w1 o).block k hk))
  have HGZ := Lib.hid (fun (o : Obj) (w7 : World) (g : (w1.alloc o).drew.grownBy w7 (Value.slice a n c).ownBlock) => Nat.le_trans (bel1' w1 o).size g.size)
  have HGO := Lib.hid (fun (o : Obj) (w7 : World) (g : (w1.alloc o).drew.grownBy w7 (Value.slice a n c).ownBlock) => (show Below 0 w1 w7 from ((bel1' w1 o).mono (Nat.zero_le _)).drew.grown g (Nat.zero_le _) (fun _ _ => Nat.zero_le _)))
  have HRn := Lib.hid hrn
  have HLT := Lib.hid hlt1
  have c3' : ∀ o, (w1.alloc o).cell? ⟨rb, 3, none⟩ = some (.slice a n c) := fun o => Lib.cell?_alloc_some _ p3
  have c4' : ∀ o, (w1.alloc o).cell? ⟨rb, 4, none⟩ = some (.int .i64 (q : Int)) := fun o => Lib.cell?_alloc_some _ p4
  have HROW := Lib.hid (fun (o : Obj) => show (w1.alloc o).drew.ownsRow (rb + 1) 90 2 (.slice a n c) n olds from (HPN.out.alloc o))
  obtain ⟨i0, hi0, hzz, hss, hbb⟩ := info_parts infoNmD
  clear h hno e1 e2 e3 hn hln hqq hb1 hx1 hz1 pn hnm hnu hol pm hrn hlt1
  go_enter Tryz.func159, Tryz.ntmps159
  go_wp2_with fail
  (try rw [hw1])
  clear hw1
  go_loop [5] (fun v => ∃ i : Nat, i ≤ n ∧ v = .int .i64 i) (fun v => n - (intOf v).toNat)
  case atStart => exact ⟨0, Nat.zero_le _, rfl⟩
  case round =>
    obtain ⟨i, hi, rfl⟩ := hrel
    by_cases hik : i < n
    · have hin : (i : Int) < n := by omega
      obtain ⟨y, hy⟩ : ∃ y, s.names[i]? = some y := ⟨_, List.getElem?_eq_getElem (by rw [HLEN.out]; omega)⟩
      obtain ⟨b, off, hbo, q0, q1⟩ := nms_get HN.out hy
      have hne := HNO.out i y hy
      subst hbo
      clear hy HG HGZ HGO HROW c3' c4'
      go_wp2
      go_round
      case rel => exact ⟨i + 1, by omega, by go_num⟩
      case measure => simp [intOf]; omega
    · have hin : ¬ (i : Int) < n := by omega
      go_wp2_with fail
      go_region_law ((refine step_append_k (by rfl) _ _ _ (by rfl) (rb + 1) 90 i0 (.agg #[.string ⟨#[]⟩, .int .i64 0]) 2 24 Tryz.underlying87 hi0 hzz hss (by decide) hbb rfl (.slice a n c) n olds (by rfl) (HROW.out _) (some ⟨w1.heap.size, 0, none⟩) 1 1 [.string ⟨name.toArray⟩, .int .i64 (q : Int)] (by rfl) (by rfl) (Or.inr ⟨_, rfl, fun j u hu => cell_new w1 #[.string ⟨name.toArray⟩, .int .i64 (q : Int)] _ j u hu⟩) (by simp [Value.oneCell']) (by unfold maxLen; omega) (by omega) (by simp; omega) (n + 1) (olds ++ [.string ⟨name.toArray⟩, .int .i64 (q : Int)]) rfl rfl ?_; intro a7 c7 w7 hown7 hgrow7 hat7; have e7 := HG.out _ _ hgrow7; have d3 : w7.cell? ⟨rb, 3, none⟩ = some (.slice a n c) := (by rw [World.cell?_of_block (e7 rb HLT.out HRn.out)]; exact p3); have d4 : w7.cell? ⟨rb, 4, none⟩ = some (.int .i64 (q : Int)) := (by rw [World.cell?_of_block (e7 rb HLT.out HRn.out)]; exact p4); have f3 : w7.frozen? ⟨rb, 3, none⟩ = false := (by rw [World.frozen?_of_block (e7 rb HLT.out HRn.out)]; exact pf 3); have f4 : w7.frozen? ⟨rb, 4, none⟩ = false := (by rw [World.frozen?_of_block (e7 rb HLT.out HRn.out)]; exact pf 4); have HE7 := Lib.hid e7; have HO7 := Lib.hid hown7; have HZ7 := Lib.hid (HGZ.out _ _ hgrow7); have HOT := Lib.hid (HGO.out _ _ hgrow7); have HA7 := Lib.hid hat7; clear e7 hown7 hgrow7 hat7))
      all_goals
        have hat : (Value.slice a7 (n + 1) c7).ownBlock = (Value.slice a n c).ownBlock ∨ ∃ k, w1.heap.size ≤ k ∧ (Value.slice a7 (n + 1) c7).ownBlock = some k := HA7.out.imp id (fun h => ⟨_, (bel1' w1 _).size, h⟩)
        have hown : w7.ownsRow (rb + 1) 90 2 (.slice a7 (n + 1) c7) s'.names.length (s'.names.flatMap nmCells) := by
          have h := HO7.out
          rw [HE.out.2.1, List.length_append, List.length_singleton, List.flatMap_append, HLEN.out, HOl.out, HQ.out]
          exact h
        have hnu' : ∀ p ∈ s'.names, p.1 ≠ [95] := fun p hp => by
          rw [HE.out.2.1] at hp
          rcases List.mem_append.1 hp with hp | hp
          · exact HNOU.out p hp
          · simp at hp; subst hp; exact HNU.out
        have hn1 := HS1.out.named (s' := s') (v' := .slice a7 (n + 1) c7) HE.out.1 HE.out.2.2.2 hnu' p3 HPM.out HRB.out HOT.out HZ7.out HE7.out hown hat
        have hB1 : (Value.slice a n c).ownBlock ≠ some w.heap.size := fun e => by have := HPM.out _ e; rw [HB.out] at this; cases this
        have HVB := Lib.hid (show (Value.slice a7 (n + 1) c7).ownBlock ≠ some w.heap.size from fun e => by
          rcases hat with h | ⟨k, hk, h⟩
          · exact hB1 (h.symm.trans e)
          · rw [h] at e; injection e with e; have := HX1.out.lt; omega)
        have HX7 := Lib.hid ((HX1.out.block (HE7.out _ HX1.out.lt hB1) (Nat.lt_of_lt_of_le HX1.out.lt HZ7.out)).far (c := rb) (k := 3) (u := .slice a7 (n + 1) c7) (Ne.symm hnr))
        have HX8 := Lib.hid (HX7.out.far (c := rb) (k := 4) (u := .int .i64 ((q : Int) + 1)) (Ne.symm hnr))
        have e4 : ((s'.next : Nat) : Int) = (q : Int) + 1 := by rw [HE.out.2.2.1, HQ.out]; omega
        rw [e4] at hn1
        have HN1 := Lib.hid hn1.1
        have HTT := Lib.hid hn1.2
        obtain ⟨w8, hw8⟩ : ∃ w8, w7.setCell ⟨rb, 3, none⟩ (.slice a7 (n + 1) c7) = w8 := ⟨_, rfl⟩
        have g4 : w8.cell? ⟨rb, 4, none⟩ = some (.int .i64 (q : Int)) := by rw [← hw8, near_cell (by decide)]; exact d4
        have gf : w8.frozen? ⟨rb, 4, none⟩ = false := by rw [← hw8, World.frozen?_setCell]; exact f4
        rw [hw8] at HX7 HX8 HN1 HTT
        obtain ⟨r0, r1, r2, r3, rf⟩ := HX7.out.four
        clear hB1 hat hown hn1 d3 d4 f3 f4 c3' c4' p3 p4 p5 pf hnu' e4
        (try rw [hw8])
        clear hw8
        go_wp2_with fail
        obtain ⟨w9, hw9⟩ : ∃ w9, w8.setCell ⟨rb, 4, none⟩ (.int .i64 ((q : Int) + 1)) = w9 := ⟨_, rfl⟩
        have g5 : w9.cell? ⟨rb, 4, none⟩ = some (.int .i64 ((q : Int) + 1)) := by rw [← hw9]; exact css g4
        rw [hw9] at HX8 HN1 HTT
        obtain ⟨r0, r1, r2, r3, rf⟩ := HX8.out.four
        (try rw [hw9])
        clear hw9 g4 gf
        go_wp2
        refine bodyPost_ret (v := .agg #[.int .i64 0, .int .i64 (q : Int), .string ⟨#[]⟩, .slice none 0 0]) (by rw [results_cell1 rfl]; go_simp) rfl ⟨withB D (.slice a7 (n + 1) c7), withB M (.slice a7 (n + 1) c7), rfl, ?_⟩
        have hP := HN1.out.put4 (b := w.heap.size) (withB_of (plusB_self D _)) ((withB_no HVB.out).trans HB.out) (.int .i64 0) (.int .i64 (q : Int)) (.string ⟨#[]⟩) (.slice none 0 0)
        rw [with_plus] at hP
        have hT0 := (((Turn.into (D := D) (M := M) HB1W.out (Nat.le_refl _)).trans HTT.out))
        rw [with_plus] at hT0
        have hT := (hT0.unbox (Nat.le_refl _)).set4 (b := w.heap.size) (Or.inl (Nat.le_refl _)) (.int .i64 0) (.int .i64 (q : Int)) (.string ⟨#[]⟩) (.slice none 0 0)
        exact ⟨hP.unbox (fun k hk => by
          by_cases e : (Value.slice a7 (n + 1) c7).ownBlock = some k
          · exact withB_own e
          · rw [withB_no e] at hk; exact withB_of (HMD.out k hk)) (fun k hk => by
          have h9 := hP.old k hk
          cases hd : withB D (.slice a7 (n + 1) c7) k with
          | false => rfl
          | true => rw [plusB_of hd] at h9; cases h9), hT⟩
theorem dvariable_at {D M : Nat → Bool} {w : World} {rb : Nat} {xs : List O} {L : List TokP} {s : RS} (h : Sd D M w rb xs L (some s)) (name : List UInt8) (hn : Nice (varR name s).2) :
    Calls Tryz.prog 159 #[.pointer (some ⟨rb, 0, none⟩), .string ⟨name.toArray⟩] w fun e w' => ∃ n : Nat, (varR name s).1 = vT n ∧ n ≤ 2000 ∧ VPost D M w rb xs L n (varR name s).2 e w' := by
  have hnx := h.gd.nice.1
  by_cases hu : name = [95]
  · have hf : s.names.find? (fun p => p.1 == name) = none := List.find?_eq_none.2 (fun p hp => by have := h.gd.nou p hp; rw [hu]; simpa using this)
    have e : varR name s = (vT s.next, { s with names := if name = [95] then s.names else s.names ++ [(name, s.next)], next := s.next + 1 }) := by unfold varR; rw [hf]
    rw [e] at hn ⊢
    rw [if_pos hu] at hn ⊢
    subst hu
    exact (dvar_under (s' := { rest := s.rest, next := s.next + 1, names := s.names }) h rfl rfl rfl hn).mono fun e w' hp => ⟨s.next, rfl, by omega, hp⟩
  · rcases nm_first name s.names with ⟨h1, h2⟩ | ⟨k, x, h1, h2, h3, h4⟩
    · have e : varR name s = (vT s.next, { s with names := if name = [95] then s.names else s.names ++ [(name, s.next)], next := s.next + 1 }) := by unfold varR; rw [h1]
      rw [e] at hn ⊢
      rw [if_neg hu] at hn ⊢
      exact (dvar_miss (s' := { rest := s.rest, next := s.next + 1, names := s.names ++ [(name, s.next)] }) h name hu h2 rfl rfl rfl hn).mono fun e w' hp => ⟨s.next, rfl, by omega, hp⟩
    · have e : varR name s = (vT x.2, s) := by unfold varR; rw [h2]
      rw [e]
      have hb := h.gd.nice.2.2.2 x (List.mem_of_getElem? h1)
      exact (dvar_hit h name hu h1 h3 h4).mono fun e w' hp => ⟨x.2, rfl, by omega, hp⟩
end Go.Proofs.YtobdhcaoeholhaaGreatDoor
/- The document's reader: what a call leaves; Args. -/
namespace Go.Proofs.YtobdhcaoeholhaaGreatDoor
open Go.Shelf Go.RowKit
set_option linter.unusedVariables false

/-- What term, primary, name leave. -/
def RPost (D M : Nat → Bool) (w : World) (rb : Nat) (xs : List O) (L : List TokP) (X : Out TL) (e : Ending) (w' : World) : Prop :=
  ∃ (D' M' : Nat → Bool) (t : Tm) (v : Value) (lv : Int), e = .returned (.tuple #[v, .int .i64 lv]) ∧ TmV (hide D' w') t v ∧ Turn D M D' M' w w' ∧ Sd D' M' w' rb xs L (X.map (·.2)) ∧ ∀ p s', X = some (p, s') → t = p.1 ∧ lv = p.2
/-- What args leaves. -/
def APost (D M : Nat → Bool) (w : World) (rb : Nat) (xs : List O) (L : List TokP) (X : Out (List Tm)) (e : Ending) (w' : World) : Prop :=
  ∃ (D' M' : Nat → Bool) (l : List Tm) (v : Value), e = .returned v ∧ Tms (hide D' w') v l ∧ Turn D M D' M' w w' ∧ Sd D' M' w' rb xs L (X.map (·.2)) ∧ ∀ p s', X = some (p, s') → l = p
def IHD (xs : List O) (L : List TokP) (n : Nat) : Prop := ∀ (D M : Nat → Bool) (w : World) (rb : Nat) (s : RS) (most : Int), 0 ≤ most → Sd D M w rb xs L (some s) → s.rest.length < n →
  Calls Tryz.prog 78 #[.pointer (some ⟨rb, 0, none⟩), .int .i64 most] w (RPost D M w rb xs L (TERMX xs most s))
theorem rdone {D M D1 M1 : Nat → Bool} {w w1 : World} {rb b : Nat} {xs : List O} {L : List TokP} {t : Tm} {v u0 u1 u2 u3 : Value} {lv : Int} {X : Out TL} (ht : Turn D M D1 M1 w w1) (hs : Sd D1 M1 w1 rb xs L (X.map (·.2))) (md : ∀ k, M k = true → D k = true) (hb : w.heap.size ≤ b) (hd : D1 b = true) (hm : M1 b = false) (h : TmV (hide D1 w1) t v)
    (hX : ∀ p s', X = some (p, s') → t = p.1 ∧ lv = p.2) : RPost D M w rb xs L X (.returned (.tuple #[v, .int .i64 lv])) (set4 w1 b u0 u1 u2 u3) := by
  have hT := ht.set4 (b := b) (Or.inl hb) u0 u1 u2 u3
  have hS := hs.put4 hd hm u0 u1 u2 u3
  exact ⟨_, M1, t, v, lv, rfl, (h.put4 hd u0 u1 u2 u3).fin hT hS.okd, fin_turn hT, hS.fin hT md, hX⟩
/-- What stands behind an Arg. -/
def moreI (xs : List O) (s1 : RS) : Out (List Tm) := match takesR [44] s1 with
  | none => some ([], s1)
  | some s2 => ITEMS (preO xs) (betO xs) s2
def contI (xs : List O) (acc : List Tm) (o : Option RS) : Out (List Tm) := match o with
  | none => none
  | some s1 => behindI acc (moreI xs s1)
theorem more_none {xs : List O} {s1 : RS} (h : takesR [44] s1 = none) : moreI xs s1 = some ([], s1) := by unfold moreI; rw [h]
theorem more_some {xs : List O} {s1 s2 : RS} (h : takesR [44] s1 = some s2) : moreI xs s1 = ITEMS (preO xs) (betO xs) s2 := by unfold moreI; rw [h]
theorem cont_some (xs : List O) (acc : List Tm) (s1 : RS) : contI xs acc (some s1) = behindI acc (moreI xs s1) := rfl
theorem behind_behind (a b : List Tm) (X : Out (List Tm)) : behindI a (behindI b X) = behindI (a ++ b) X := by
  cases X with
  | none => rfl
  | some r => simp [behindI]
theorem ditems_none {xs : List O} {s : RS} (h : TERMX xs 999 s = none) : ITEMS (preO xs) (betO xs) s = none := ITEMS_none h
theorem items_some' {xs : List O} {s s1 : RS} {p : TL} (h : TERMX xs 999 s = some (p, s1)) : ITEMS (preO xs) (betO xs) s = behindI [p.1] (moreI xs s1) := by
  cases h2 : takesR [44] s1 with
  | none => rw [more_none h2, ITEMS_last h h2]; rfl
  | some s2 =>
    rw [more_some h2, (ITEMS_more h h2).1]
    cases ITEMS (preO xs) (betO xs) s2 with
    | none => rfl
    | some r => rfl
theorem cont_bad {xs : List O} {acc : List Tm} {s1 s2 : RS} (h : takesR [44] s1 = some s2) (h2 : TERMX xs 999 s2 = none) : contI xs acc (some s1) = none := by
  rw [cont_some, more_some h, ITEMS_none h2]; rfl
theorem cont_next {xs : List O} {acc : List Tm} {s1 s2 s3 : RS} {p : TL} (h : takesR [44] s1 = some s2) (h2 : TERMX xs 999 s2 = some (p, s3)) : contI xs acc (some s1) = contI xs (acc ++ [p.1]) (some s3) := by
  rw [cont_some, more_some h, items_some' h2, behind_behind, cont_some]
theorem cont_last {xs : List O} {acc : List Tm} {s1 : RS} (h : takesR [44] s1 = none) : contI xs acc (some s1) = some (acc, s1) := by
  rw [cont_some, more_none h]
  simp [behindI]
/-- A row of one. -/
theorem rowY_one {D M : Nat → Bool} {w : World} {base : Nat} {t : Tm} {k n : Int} {s : ByteArray} {u : Value} (hb : base ≤ w.heap.size) (ho : Okd D M w) (h : TmV (hide D w) t (.agg #[.int .i64 k, .int .i64 n, .string s, u])) (ep : Value.agg #[.int .i64 k, .int .i64 n, .string s, u] = pVal (t, u)) :
    RowY (plusB D w.heap.size) M (w.alloc (.cells #[.int .i64 k, .int .i64 n, .string s, u] 66)) base (.slice (some ⟨w.heap.size, 0, none⟩) 1 1) [(t, u)] := by
  have hl := World.ownsRow_lit (base := base) (e := 66) (size := 4) w #[.int .i64 k, .int .i64 n, .string s, u] 1 hb (by decide) rfl
  have hc : pCells (t, u) = [.int .i64 k, .int .i64 n, .string s, u] := by
    unfold pVal at ep
    simp only [Value.agg.injEq, Array.mk.injEq, List.cons.injEq, Value.int.injEq, Value.string.injEq, and_true, true_and] at ep
    unfold pCells
    simp only
    rw [ep.1, ep.2.1, ep.2.2]
  refine ⟨?_, fun g hg => ?_, fun p hp => ?_⟩
  · unfold RowP
    rw [List.flatMap_cons, List.flatMap_nil, hc]
    exact hl
  · simp [Value.ownBlock] at hg
    subst hg
    refine ⟨plusB_self _ _, ?_⟩
    cases hm : M w.heap.size with
    | false => rfl
    | true => have := ho.1 _ hm; rw [ho.2 _ (Nat.le_refl _)] at this; cases this
  · simp at hp
    subst hp
    show TmV _ t (pVal (t, u))
    rw [← ep]
    exact h.box (bel1' _ _) (Nat.le_refl _)
end Go.Proofs.YtobdhcaoeholhaaGreatDoor
/- The document's reader: args. -/
namespace Go.Proofs.YtobdhcaoeholhaaGreatDoor
open Go.Shelf Go.RowKit
set_option linter.unusedVariables false

theorem Sd.grown {D M : Nat → Bool} {W w' : World} {rb base : Nat} {xs : List O} {L : List TokP} {o : Option RS} {v v' : Value} {n k : Nat} {ty : TypeId} {l : List Value} (h : Sd D M W rb xs L o) (hg : W.grownBy w' v.ownBlock) (hD : ∀ g, v.ownBlock = some g → D g = true ∧ M g = false) (hv : v'.ownBlock = v.ownBlock ∨ v'.ownBlock = some W.heap.size) (hr : w'.ownsRow base ty k v' n l) : Sd (withB D v') M w' rb xs L o :=
  h.step (grown_stays hg (fun g e => (hD g e).1) hv) (fun k hm => withB_of (h.md k hm)) (fun k hk => by
    rw [withB_no (fun e => by have := (row_in hr e).2; omega)]
    exact h.old k (Nat.le_trans hg.size hk)) fun k hk hm => hg.block k hk (fun e => by rw [(hD k e.symm).2] at hm; cases hm)
/-- Where the loop of args stands. -/
structure ALoop (D M : Nat → Bool) (w : World) (rb B : Nat) (xs : List O) (L : List TokP) (n : Nat) (X : Out (List Tm)) (wr : World) (D1 M1 : Nat → Bool) (o : Option RS) (ps : List TmP) (v : Value) (u0 u1 u2 u3 : Value) : Prop where
  sd : Sd D1 M1 wr rb xs L o
  row : RowY D1 M1 wr w.heap.size v ps
  turn : Turn D M D1 M1 w wr
  box : Box wr B [u0, u1, u2, u3]
  db : D1 B = true
  mb : M1 B = false
  ne : ∀ g, v.ownBlock = some g → g ≠ B
  ok : contI xs (ps.map (·.1)) o = X
  len : ∀ s1, o = some s1 → s1.rest.length < n ∧ ps.length + s1.rest.length ≤ 2000
theorem rowY_put4 {D M : Nat → Bool} {w : World} {base : Nat} {v : Value} {ps : List TmP} (h : RowY D M w base v ps) {b : Nat} (hd : D b = true) (hne : ∀ g, v.ownBlock = some g → g ≠ b) (u0 u1 u2 u3 : Value) : RowY D M (set4 w b u0 u1 u2 u3) base v ps :=
  (((h.put ⟨b, 0, none⟩ u0 hd hne).put ⟨b, 1, none⟩ u1 hd hne).put ⟨b, 2, none⟩ u2 hd hne).put ⟨b, 3, none⟩ u3 hd hne
set_option maxRecDepth 100000 in
set_option maxHeartbeats 8000000 in
theorem dargs_at {xs : List O} {L : List TokP} {n : Nat} (hL : WfL L) (ih : IHD xs L n) {D M : Nat → Bool} {w : World} {rb : Nat} {s : RS} (h : Sd D M w rb xs L (some s)) (hlt : s.rest.length < n) :
    Calls Tryz.prog 161 #[.pointer (some ⟨rb, 0, none⟩)] w (APost D M w rb xs L (ITEMS (preO xs) (betO xs) s)) := by
  obtain ⟨X, hX⟩ : ∃ X, ITEMS (preO xs) (betO xs) s = X := ⟨_, rfl⟩
  rw [hX]
  obtain ⟨i0, hi0, hz0, hs0, hb0⟩ := info_parts infoTermR
  have HI := Lib.hid (ih D M w rb s 999 (by decide) h hlt)
  have HIH := Lib.hid ih
  have HLL := Lib.hid hL
  have HX := Lib.hid hX
  have HLT := Lib.hid hlt
  have HMD := Lib.hid h.md
  have hlen := h.gd.nice.1
  clear h hX ih hL hlt
  go_enter Tryz.func161, Tryz.ntmps161
  (go_wp2_with fail; go_fit (HI.out); rintro e w1 ⟨D1, M1, t1, v1, lv1, rfl, htv, ht1, hs1, hx1⟩)
  obtain ⟨k1, n1, s1, a1, m1, c1, rfl, _, _, _, ep⟩ := four_of htv
  obtain ⟨w2, hw2, hb2, hz2, hxb⟩ := box_new w1 #[.int .i64 k1, .int .i64 n1, .string s1, .slice a1 m1 c1] 66
  obtain ⟨d0, d1, d2, d3, df⟩ := hxb.four
  obtain ⟨w3, hw3, hb3, hz3, hxr⟩ := box_new w2 #[.int .i64 k1, .int .i64 n1, .string s1, .slice a1 m1 c1] 66
  have hwB : w.heap.size ≤ w1.heap.size := ht1.size
  have HWB := Lib.hid hwB
  have HAL : Hid (ALoop D M w rb w1.heap.size xs L n X w3 (plusB (plusB D1 w1.heap.size) w2.heap.size) M1 ((TERMX xs 999 s).map (·.2)) [(t1, .slice a1 m1 c1)] (.slice (some ⟨w2.heap.size, 0, none⟩) 1 1) (.int .i64 k1) (.int .i64 n1) (.string s1) (.slice a1 m1 c1)) := Lib.hid (by
    have hsB := hs1.box hb2 (Nat.le_refl _) hxb.lt
    have hsR := hsB.box hb3 (Nat.le_refl _) hxr.lt
    have hrow := rowY_one (base := w.heap.size) (Nat.le_trans hwB (by omega)) hsB.okd (htv.box hb2 (Nat.le_refl _)) ep
    rw [hw3] at hrow
    have hne : w1.heap.size ≠ w2.heap.size := by omega
    refine { sd := hsR, row := hrow, turn := (ht1.into2 hb2 (Nat.le_refl _)).into2 hb3 (Nat.le_refl _), box := hxb.ext hb3, db := plusB_of (plusB_self _ _), mb := hs1.out (Nat.le_refl _), ne := fun g hg => ?_, ok := ?_, len := fun s2 hs2 => ?_ }
    · simp [Value.ownBlock] at hg; subst hg; exact Ne.symm hne
    · rw [← HX.out]
      cases hT : TERMX xs 999 s with
      | none => rw [ditems_none hT]; rfl
      | some q =>
        obtain ⟨p, s2⟩ := q
        rw [items_some' hT]
        rw [← (hx1 p s2 hT).1]
        rfl
    · cases hT : TERMX xs 999 s with
      | none => rw [hT] at hs2; cases hs2
      | some q =>
        obtain ⟨p, s3⟩ := q
        rw [hT] at hs2
        cases hs2
        have := TERM_shr _ _ _ _ hT
        have := HLT.out
        simp only [List.length_cons, List.length_nil]
        omega)
  clear htv ht1 hs1 hx1 hb2 hb3 hz2 hz3 hxb hxr HX HI ep hwB
  obtain ⟨o, ho⟩ : ∃ o, (TERMX xs 999 s).map (·.2) = o := ⟨_, rfl⟩
  rw [ho] at HAL
  clear ho
  go_wp2_with fail
  (try rw [hw2])
  clear hw2
  go_wp2_with fail
  (try rw [hw3])
  clear hw3 d0 d1 d2 d3 df
  go_loopw [5] (fun v wr => ∃ (D1 M1 : Nat → Bool) (o : Option RS) (ps : List TmP) (a : Option Addr) (m c : Nat) (u0 u1 u3 : Int) (u2 : ByteArray) (u4 : Option Addr) (u5 u6 : Nat), v = .slice a m c ∧ ps.length = m ∧ m ≤ 2001 ∧ Hid (ALoop D M w rb w1.heap.size xs L n X wr D1 M1 o ps v (.int .i64 u0) (.int .i64 u1) (.string u2) (.slice u4 u5 u6)))
    (fun v wr => 2002 - (match v with | .slice _ m _ => m | _ => 0))
  case atStart => exact ⟨_, M1, o, _, _, 1, 1, k1, n1, 0, s1, a1, m1, c1, rfl, rfl, by omega, HAL⟩
  case round =>
    obtain ⟨D1, M1, o, ps, a, m, c, u0, u1, u3, u2, u4, u5, u6, rfl, hpm, hm1, HA⟩ := hrel
    have c5 := HA.out.sd.c5
    obtain ⟨x0, x1, x2, x3, xf⟩ := HA.out.box.four
    have HPM := Lib.hid hpm
    clear hpm
    cases o with
    | none =>
      have hN : X = none := HA.out.ok.symm
      have hbad : (none : Option RS).isNone = true := rfl
      rw [hbad] at c5
      have HN := Lib.hid hN
      clear hN hbad
      go_wp2
      go_ret
      have hF := RowY.fin (Nat.le_refl _) HA.out.row HA.out.turn HA.out.sd.okd (by rw [HPM.out]; unfold BIG; omega)
      exact ⟨_, M1, _, _, rfl, hF, fin_turn HA.out.turn, by rw [HN.out]; exact HA.out.sd.fin HA.out.turn HMD.out, fun p s' hp => by rw [HN.out] at hp; cases hp⟩
    | some s1 =>
      have hbad : (some s1).isNone = false := rfl
      rw [hbad] at c5
      have HTK := Lib.hid (dpunct_at HLL.out HA.out.sd [44])
      have hln := HA.out.len s1 rfl
      have HLN := Lib.hid hln
      have hmm : m + s1.rest.length ≤ 2000 := by have := hln.2; rw [HPM.out] at this; exact this
      clear hbad hln
      cases hmk : isMark [44] (headR s1) with
      | false =>
        rw [hmk] at HTK
        have hno := takesR_no hmk
        rw [hno.2] at HTK
        have HN := Lib.hid (show X = some (ps.map (·.1), s1) from HA.out.ok.symm.trans (cont_last hno.1))
        clear hno hmk
        (go_wp2_with fail; go_fit (HTK.out); rintro e w4 ⟨rfl, hs4, ht4⟩)
        have HS4 := Lib.hid hs4
        have HT4 := Lib.hid ht4
        clear hs4 ht4
        go_wp2
        go_ret
        have hT := HA.out.turn.trans HT4.out
        have hF := RowY.fin (Nat.le_refl _) (HA.out.row.turn HT4.out HA.out.sd.md) hT HS4.out.okd (by rw [HPM.out]; unfold BIG; omega)
        exact ⟨_, M1, _, _, rfl, hF, fin_turn hT, by rw [HN.out]; exact HS4.out.fin hT HMD.out, fun p s' hp => by rw [HN.out] at hp; cases hp; rfl⟩
      | true =>
        rw [hmk] at HTK
        have hy := takesR_yes hmk
        have hsh := (takes_lt hy).2
        have HY := Lib.hid hy
        have HSH := Lib.hid hsh
        clear hy hmk
        (go_wp2_with fail; go_fit (HTK.out); rintro e w4 ⟨rfl, hs4, ht4⟩)
        have HC := Lib.hid (HIH.out D1 M1 w4 rb (takesS [44] s1) 999 (by decide) hs4 (by have := HLN.out.1; omega))
        have HS4 := Lib.hid hs4
        have HT4 := Lib.hid (HA.out.turn.trans ht4)
        have HB4 := Lib.hid (HA.out.box.turn ht4 HA.out.mb)
        have HR4 := Lib.hid (HA.out.row.turn ht4 HA.out.sd.md)
        have HDB := Lib.hid HA.out.db
        have HMB := Lib.hid HA.out.mb
        have HNE := Lib.hid HA.out.ne
        have HCT := Lib.hid HA.out.ok
        clear hs4 ht4 c5 x0 x1 x2 x3 xf hsh
        (go_wp2_with fail; go_fit (HC.out); rintro e w5 ⟨D5, M5, t5, v5, lv5, rfl, htv, ht5, hs5, hx5⟩)
        obtain ⟨k5, n5, s5, a5, m5, c5, rfl, ek, en, es, ep⟩ := four_of htv
        have hblt := HB4.out.lt
        have hd5 : D5 w1.heap.size = true := (ht5.dd _ hblt).trans HDB.out
        have hm5 : M5 w1.heap.size = false := (ht5.mm _ hblt).trans HMB.out
        have HXB := HB4.out.turn ht5 HMB.out
        obtain ⟨x0, x1, x2, x3, xf⟩ := HXB.four
        have HX6 := Lib.hid (HXB.all4 (.int .i64 k5) (.int .i64 n5) (.string s5) (.slice a5 m5 c5))
        have HS6 := Lib.hid (hs5.put4 hd5 hm5 (.int .i64 k5) (.int .i64 n5) (.string s5) (.slice a5 m5 c5))
        have HT6 := Lib.hid ((HT4.out.trans ht5).set4 (b := w1.heap.size) (Or.inl HWB.out) (.int .i64 k5) (.int .i64 n5) (.string s5) (.slice a5 m5 c5))
        have HV6 := Lib.hid (htv.put4 hd5 (.int .i64 k5) (.int .i64 n5) (.string s5) (.slice a5 m5 c5))
        have HR6 := Lib.hid (rowY_put4 (HR4.out.turn ht5 HS4.out.md) hd5 HNE.out (.int .i64 k5) (.int .i64 n5) (.string s5) (.slice a5 m5 c5))
        have HD5 := Lib.hid hd5
        have HM5 := Lib.hid hm5
        have HX5 := Lib.hid hx5
        have HEP := Lib.hid ep
        have HEK := Lib.hid (And.intro ek (And.intro en es))
        obtain ⟨w6, hw6⟩ : ∃ w6, set4 w5 w1.heap.size (.int .i64 k5) (.int .i64 n5) (.string s5) (.slice a5 m5 c5) = w6 := ⟨_, rfl⟩
        rw [hw6] at HX6 HS6 HT6 HV6 HR6
        obtain ⟨y0, y1, y2, y3, yf⟩ := HX6.out.four
        have hb7 := bel1' w6 (.cells #[.int .i64 k5, .int .i64 n5, .string s5, .slice a5 m5 c5] 66)
        have HW := Lib.hid (HR6.out.turn (Turn.below hb7) HS6.out.md)
        have HS7 := Lib.hid (HS6.out.later hb7)
        have HT7 := Lib.hid (HT6.out.trans (Turn.below hb7))
        have HX7 := Lib.hid (HX6.out.ext hb7)
        have HV7 := Lib.hid (TmV.later hb7 HV6.out)
        have hwz : w.heap.size ≤ (w6.alloc (.cells #[.int .i64 k5, .int .i64 n5, .string s5, .slice a5 m5 c5] 66)).heap.size := HT7.out.size
        have hrow : (w6.alloc (.cells #[.int .i64 k5, .int .i64 n5, .string s5, .slice a5 m5 c5] 66)).ownsRow w.heap.size 66 4 (.slice a m c) m (ps.flatMap pCells) := by have h := HW.out.1; unfold RowP at h; rw [HPM.out] at h; exact h
        have HROW := Lib.hid hrow
        have hm2000 : m ≤ 2000 := by omega
        clear htv ht5 hs5 hx5 ek en es ep hb7 hrow hd5 hm5 hblt HB4 HR4 HC HXB
        go_wp2_with (at_builtin; (try rw [hw6]); refine wpList_append_k rfl _ _ 64 rfl w.heap.size 66 i0 (.agg #[.int .i64 0, .int .i64 0, .string ⟨#[]⟩, .slice none 0 0]) 4 56 Tryz.underlying64 hi0 hz0 hs0 (by decide) hb0 rfl (.slice a m c) m (ps.flatMap pCells) rfl HROW.out (some ⟨w6.heap.size, 0, none⟩) 1 1 [.int .i64 k5, .int .i64 n5, .string s5, .slice a5 m5 c5] rfl rfl (Or.inr ⟨_, rfl, fun j u hu => cell_new w6 #[.int .i64 k5, .int .i64 n5, .string s5, .slice a5 m5 c5] _ j u hu⟩) (by simp [Value.oneCell']) (by unfold maxLen; omega) (by omega) hwz (m + 1) (ps.flatMap pCells ++ [.int .i64 k5, .int .i64 n5, .string s5, .slice a5 m5 c5]) rfl rfl ?_; intro a7 c7 w7 hown7 hgrow7 hat7)
        have hpc : pCells (t5, .slice a5 m5 c5) = [.int .i64 k5, .int .i64 n5, .string s5, .slice a5 m5 c5] := by unfold pCells; rw [← HEK.out.1, ← HEK.out.2.1, ← HEK.out.2.2]
        have hAL : ALoop D M w rb w1.heap.size xs L n X w7 (withB D5 (.slice a7 (m + 1) c7)) M5 ((TERMX xs 999 (takesS [44] s1)).map (·.2)) (ps ++ [(t5, .slice a5 m5 c5)]) (.slice a7 (m + 1) c7) (.int .i64 k5) (.int .i64 n5) (.string s5) (.slice a5 m5 c5) := by
          have hB7 : (Value.slice a m c).ownBlock ≠ some w1.heap.size := fun e => HNE.out _ e rfl
          have hbl := HX7.out.lt
          refine { sd := HS7.out.grown hgrow7 HW.out.2.1 hat7 hown7, row := HW.out.more (by rw [← HEP.out]; exact HV7.out) HS7.out.okd hgrow7 hat7 (by rw [HPM.out, hpc]; exact hown7), turn := HT7.out.grown hgrow7 (fun g hg => (row_in HROW.out hg).1) hat7
                   box := HX7.out.block (hgrow7.block _ hbl (Ne.symm hB7)) (Nat.lt_of_lt_of_le hbl hgrow7.size), db := withB_of HD5.out, mb := HM5.out, ne := fun g hg => ?_, ok := ?_, len := fun s2 hs2 => ?_ }
          · rcases hat7 with hh | hh
            · exact HNE.out g (hh.symm.trans hg)
            · rw [hh] at hg; injection hg with hg; omega
          · rw [← HCT.out, List.map_append]
            cases hT : TERMX xs 999 (takesS [44] s1) with
            | none => rw [cont_bad HY.out hT]; rfl
            | some q =>
              obtain ⟨p, s2⟩ := q
              rw [cont_next HY.out hT, ← (HX5.out p s2 hT).1]
              rfl
          · cases hT : TERMX xs 999 (takesS [44] s1) with
            | none => rw [hT] at hs2; cases hs2
            | some q =>
              obtain ⟨p, s3⟩ := q
              rw [hT] at hs2
              cases hs2
              have h1 := TERM_shr _ _ _ _ hT
              have h2 := HLN.out.1
              have h3 := HSH.out
              rw [List.length_append, HPM.out]
              simp only [List.length_cons, List.length_nil]
              omega
        have HAL2 := Lib.hid hAL
        clear hAL hown7 hgrow7 hat7 hpc hwz
        go_roundw
        case rel => exact ⟨_, M5, _, _, a7, m + 1, c7, k5, n5, 0, s5, a5, m5, c5, rfl, by rw [List.length_append, HPM.out]; rfl, by omega, HAL2⟩
        case measure => simp; omega
end Go.Proofs.YtobdhcaoeholhaaGreatDoor
/- The document's List: any items, any tail. -/
namespace Go.Proofs.YtobdhcaoeholhaaGreatDoor
open Go.Shelf Go.RowKit
set_option linter.unusedVariables false

theorem drop_list {l : List Tm} {i : Nat} {x : Tm} (h : l[i]? = some x) (t : Tm) : listT (l.drop i) t = consT x (listT (l.drop (i + 1)) t) := by
  obtain ⟨h1, rfl⟩ := List.getElem?_eq_some_iff.1 h
  rw [List.drop_eq_getElem_cons h1, listT]
set_option maxRecDepth 100000 in
set_option maxHeartbeats 8000000 in
theorem rlist1_at {D : Nat → Bool} {w : World} {l : List Tm} {t : Tm} {lv v : Value} (hD : Old D w) (hl : Tms (hide D w) lv l) (hv : TmV (hide D w) t v) :
    Calls Tryz.prog 179 #[lv, v] w fun e w' => ∃ v', e = .returned v' ∧ TmV (hide D w') (listT l t) v' ∧ Below w.heap.size w w' := by
  obtain ⟨k0, n0, s0, a0, m0, c0, rfl⟩ := hv.full
  obtain ⟨a, c, rfl, h1, h2, h3⟩ := hl.len
  unfold BIG at h3
  obtain ⟨m, hm⟩ : ∃ m, l.length = m := ⟨_, rfl⟩
  obtain ⟨w1, hw1, hb1, hz1, hx1⟩ := box_new w #[.int .i64 k0, .int .i64 n0, .string s0, .slice a0 m0 c0] 66
  obtain ⟨w2, hw2, hb2, hz2, hx2⟩ := box_new w1 #[.int .i64 0, .int .i64 0, .string ⟨#[]⟩, .slice none 0 0] 66
  have hB2 := Ext.trans' hb1 hb2
  have hBB : w.heap.size ≤ w1.heap.size := hb1.size
  have hne : w.heap.size ≠ w1.heap.size := by omega
  have hne' : w1.heap.size ≠ w.heap.size := by omega
  have HO1 := Lib.hid (((show Okd D noM w from okd_no hD).box hb1.size hx1.lt).2)
  have HV2 := Lib.hid ((hv.box hb1 (Nat.le_refl _)).box hb2 (Nat.le_refl _))
  have HO2 := Lib.hid ((((show Okd D noM w from okd_no hD).box hb1.size hx1.lt).box hb2.size hx2.lt).2)
  have HDD2 := Lib.hid (show ∀ k, k < w.heap.size → D k = false → plusB (plusB D w.heap.size) w1.heap.size k = false from fun k hk hd => (plusB_ne (by omega)).trans ((plusB_ne (by omega)).trans hd))
  have HDL := Lib.hid (show ∀ k, plusB (plusB D w.heap.size) w1.heap.size k = false → D k = false from fun k hk => by
    cases hd : D k with
    | false => rfl
    | true => rw [plusB_of (plusB_of hd)] at hk; cases hk)
  have HX1 := Lib.hid (hx1.ext hb2)
  have HX2 := Lib.hid hx2
  have HL := Lib.hid hl
  have HM := Lib.hid hm
  have HDD := Lib.hid hD
  rw [hm] at h1 h3 HL ⊢
  have HB2 := Lib.hid hB2
  unfold maxLen at h2
  obtain ⟨Q0, hQ0⟩ : ∃ Q : Int, (m : Int) - 1 = Q := ⟨_, rfl⟩
  have hw0 : IntKind.i64.wrap ((m : Int) - 1) = Q0 := by rw [IntKind.wrap_i64]; omega
  have HQ0 := Lib.hid hQ0
  clear hl hv hm hD hb1 hb2 hx1 hx2 hz1 hz2 hB2 hQ0
  go_enter Tryz.func179, Tryz.ntmps179
  go_wp2_with fail
  (try rw [hw1])
  (try rw [hw2])
  clear hw1 hw2
  go_wp2_with fail
  go_loopw [5] (fun z wr => ∃ (j : Nat) (Q : Int) (k n : Int) (s : ByteArray) (a4 : Option Addr) (m4 c4 : Nat), j ≤ m ∧ z = .int .i64 Q ∧ Hid ((j : Int) - 1 = Q) ∧ Hid (Box wr w.heap.size [.int .i64 k, .int .i64 n, .string s, .slice a4 m4 c4] ∧ Box wr w1.heap.size [.int .i64 0, .int .i64 0, .string ⟨#[]⟩, .slice none 0 0] ∧ TmV (hide (plusB (plusB D w.heap.size) w1.heap.size) wr) (listT (l.drop j) t) (.agg #[.int .i64 k, .int .i64 n, .string s, .slice a4 m4 c4]) ∧ Below w.heap.size w wr))
    (fun z wr => match z with | .int _ q => (q + 1).toNat | _ => 0)
  case atStart => exact ⟨m, Q0, k0, n0, s0, a0, m0, c0, Nat.le_refl _, rfl, HQ0, Lib.hid ⟨HX1.out, HX2.out, by rw [List.drop_of_length_le (by rw [HM.out]; exact Nat.le_refl _)]; exact HV2.out, HB2.out⟩⟩
  case round =>
    obtain ⟨j, Q, k, n, s, a4, m4, c4, hjm, rfl, HQ, HI⟩ := hrel
    obtain ⟨p0, p1, p2, p3, pf⟩ := HI.out.1.four
    by_cases hj : j = 0
    · have hq : ¬ (0 ≤ Q) := by have := HQ.out; omega
      obtain ⟨q0, q1, q2, q3, qf⟩ := HI.out.2.1.four
      go_wp2
      refine bodyPost_ret (v := .agg #[.int .i64 k, .int .i64 n, .string s, .slice a4 m4 c4]) (by rw [results_cell1 rfl]; go_simp) rfl ⟨_, rfl, ?_, Below.set4 HI.out.2.2.2 hBB _ _ _ _⟩
      subst hj
      have hT := HI.out.2.2.1
      rw [List.drop_zero] at hT
      exact TmV.stay (Stays.less HDL.out) _ _ (hT.put4 (plusB_self _ _) (.int .i64 k) (.int .i64 n) (.string s) (.slice a4 m4 c4))
    · obtain ⟨i, rfl⟩ : ∃ i, j = i + 1 := ⟨j - 1, by omega⟩
      obtain rfl : Q = (i : Int) := by have := HQ.out; omega
      have hq : (0 : Int) ≤ i := by omega
      have him : (i : Int) < m := by omega
      obtain ⟨x, hx⟩ : ∃ x, l[i]? = some x := ⟨_, List.getElem?_eq_getElem (by rw [HM.out]; omega)⟩
      have hdl := drop_list hx t
      obtain ⟨b, off, kx, nx, sx, ux, rfl, hbb, _, _, _, x0, x1, x2, x3, hux, htx⟩ := HL.out.get hx
      obtain ⟨ax, cx, rfl, _⟩ := hux.len
      rw [hide_size] at hbb
      have UN := (Stays.unhide D w).2
      have x0 := cell_later HI.out.2.2.2 (UN _ _ x0)
      have x1 := cell_later HI.out.2.2.2 (UN _ _ x1)
      have x2 := cell_later HI.out.2.2.2 (UN _ _ x2)
      have x3 := cell_later HI.out.2.2.2 (UN _ _ x3)
      have hbB : b ≠ w.heap.size := by omega
      obtain ⟨mx, hmx⟩ : ∃ m, x.args.length = m := ⟨_, rfl⟩
      rw [hmx] at x3 htx
      have htw := TmV.stay (Stays.below HI.out.2.2.2 HDD2.out) _ _ htx
      have ho2 : Old (plusB (plusB D w.heap.size) w1.heap.size) wr := fun k hk => by
        have e1 := HI.out.1.lt
        have e2 := HI.out.2.1.lt
        have e3 := HI.out.2.2.2.size
        exact (plusB_ne (by omega)).trans ((plusB_ne (by omega)).trans (HDD.out k (by omega)))
      have h8 := tms_two (w := wr.drew) (show Old _ wr.drew from ho2) (TmV.later (Below.refl _ _).drew htw) (TmV.later (Below.refl _ _).drew HI.out.2.2.1) 66
      have hcon : TmV (hide (plusB (plusB D w.heap.size) w1.heap.size) (wr.drew.alloc (.cells #[.int .i64 kx, .int .i64 nx, .string sx, .slice ax mx cx, .int .i64 k, .int .i64 n, .string s, .slice a4 m4 c4] 66))) (listT (l.drop i) t) (.agg #[.int .i64 2, .int .i64 0, .string ⟨#[46]⟩, .slice (some ⟨wr.drew.heap.size, 0, none⟩) 2 2]) := by
        rw [hdl]
        exact tmV_iff.2 ⟨_, rfl, by unfold BIG; decide, i64_2, i64_0, h8⟩
      have HCON := Lib.hid hcon
      have HWI := Lib.hid (show i ≤ m by omega)
      have hws : IntKind.i64.wrap ((i : Int) - 1) = (i : Int) - 1 := by rw [IntKind.wrap_i64]; omega
      have HBr := Lib.hid HI.out.2.2.2
      have HXB := Lib.hid HI.out.1
      have HXC := Lib.hid HI.out.2.1
      clear hx hdl htx htw h8 hcon hux ho2 UN HI HQ
      go_wp2_with fail
      refine wp_region_held_drew (S := fun w' => w'.cell? ⟨b, off + i * 4, none⟩ = some (.int .i64 kx) ∧ w'.cell? ⟨b, off + i * 4 + 1, none⟩ = some (.int .i64 nx) ∧ w'.cell? ⟨b, off + i * 4 + 2, none⟩ = some (.string sx) ∧ w'.cell? ⟨b, off + i * 4 + 3, none⟩ = some (.slice ax mx cx)) (by kernel_rfl) ⟨x0, x1, x2, x3⟩ (fun hHeld => ?_)
      first | (refine held_t (i := 0) hHeld ?_; apply Exists.intro; refine ⟨fun wq hq => ?_, ?_⟩; (focus ((try dsimp only at hq); go_simp; (first | done | with_reducible rfl | fail)))) | refine held_s (i := 0) hHeld ?_ | fail
      first | (refine held_t (i := 1) hHeld ?_; apply Exists.intro; refine ⟨fun wq hq => ?_, ?_⟩; (focus ((try dsimp only at hq); go_simp; (first | done | with_reducible rfl | fail)))) | refine held_s (i := 1) hHeld ?_ | fail
      first | (refine held_t (i := 2) hHeld ?_; apply Exists.intro; refine ⟨fun wq hq => ?_, ?_⟩; (focus ((try dsimp only at hq); go_simp; (first | done | with_reducible rfl | fail)))) | refine held_s (i := 2) hHeld ?_ | fail
      first | (refine held_t (i := 3) hHeld ?_; apply Exists.intro; refine ⟨fun wq hq => ?_, ?_⟩; (focus ((try dsimp only at hq); go_simp; (first | done | with_reducible rfl | fail)))) | refine held_s (i := 3) hHeld ?_ | fail
      try simp only [Act.put, List.setIfInBounds_toArray, List.set_cons_zero, List.set_cons_succ]
      refine held_c 4 fun K hK => ?_
      go_simp
      skip
      refine hK.out _ _ (hHeld) (fun hHeld => ?_)
      clear hK K
      try simp only [Act.put, List.setIfInBounds_toArray, List.set_cons_zero, List.set_cons_succ]
      refine held_c 5 fun K hK => ?_
      go_simp
      skip
      refine hK.out _ _ (⟨cell_later (bel1' _ _) hHeld.1, cell_later (bel1' _ _) hHeld.2.1, cell_later (bel1' _ _) hHeld.2.2.1, cell_later (bel1' _ _) hHeld.2.2.2⟩) (fun hHeld => ?_)
      clear hK K
      try simp only [Act.put, List.setIfInBounds_toArray, List.set_cons_zero, List.set_cons_succ]
      refine held_c 6 fun K hK => ?_
      go_simp
      (go_at_call 118; refine (rcomp_at _ _ _ _ _).mono ?_; rintro e w5 ⟨rfl, hb5⟩; have hb6 := Ext.trans' (Below.refl wr.heap.size wr).drew (Ext.trans' (bel1' wr.drew _) hb5); have HB6 := Lib.hid hb6; obtain ⟨p0, p1, p2, p3, pf⟩ := (HXB.out.ext hb6).four; have HC6 := Lib.hid (HCON.out.later hb5))
      refine hK.out _ _ (⟨cell_later hb5 hHeld.1, cell_later hb5 hHeld.2.1, cell_later hb5 hHeld.2.2.1, cell_later hb5 hHeld.2.2.2⟩) (fun hHeld => ?_)
      clear hK K
      try simp only [Act.put, List.setIfInBounds_toArray, List.set_cons_zero, List.set_cons_succ]
      refine held_c 7 fun K hK => ?_
      go_simp
      skip
      refine hK.out _ _ (⟨far4 hHeld.1 hbB _ _ _ _, far4 hHeld.2.1 hbB _ _ _ _, far4 hHeld.2.2.1 hbB _ _ _ _, far4 hHeld.2.2.2 hbB _ _ _ _⟩) (fun hHeld => ?_)
      clear hK K
      try simp only [Act.put, List.setIfInBounds_toArray, List.set_cons_zero, List.set_cons_succ]
      refine wpAnyH_done (by kernel_rfl) ?_ _
      have HN := Lib.hid (And.intro ((HXB.out.ext HB6.out).all4 (.int .i64 2) (.int .i64 0) (.string ⟨#[46]⟩) (.slice (some ⟨wr.drew.heap.size, 0, none⟩) 2 2)) (And.intro ((HXC.out.ext HB6.out).far4 hne' (.int .i64 2) (.int .i64 0) (.string ⟨#[46]⟩) (.slice (some ⟨wr.drew.heap.size, 0, none⟩) 2 2)) (And.intro (HC6.out.put4 (plusB_of (plusB_self _ _)) (.int .i64 2) (.int .i64 0) (.string ⟨#[46]⟩) (.slice (some ⟨wr.drew.heap.size, 0, none⟩) 2 2)) (Below.set4 (Ext.trans' HBr.out HB6.out) (Nat.le_refl _) (.int .i64 2) (.int .i64 0) (.string ⟨#[46]⟩) (.slice (some ⟨wr.drew.heap.size, 0, none⟩) 2 2)))))
      clear hHeld x0 x1 x2 x3 p0 p1 p2 p3 pf
      go_wp2
      go_roundw
      case rel => exact ⟨i, _, 2, 0, ⟨#[46]⟩, _, 2, 2, by omega, rfl, Lib.hid rfl, HN⟩
      case measure => simp
end Go.Proofs.YtobdhcaoeholhaaGreatDoor
/- The document's reader: bracket. (gen_rp9.py) -/
namespace Go.Proofs.YtobdhcaoeholhaaGreatDoor
open Go.Shelf Go.RowKit
set_option linter.unusedVariables false

def zTm : Tm := .mk 0 0 ⟨#[]⟩ []
theorem zTm_at (w : World) : TmV w zTm zVal := leaf_tm w i64_0 i64_0 (by unfold BIG; decide)
theorem okd_out {D M : Nat → Bool} {w : World} (h : Okd D M w) {k : Nat} (hk : w.heap.size ≤ k) : M k = false := by
  cases hm : M k with
  | false => rfl
  | true => have := h.1 _ hm; rw [h.2 _ hk] at this; cases this
/-- It failed: nothing is answered. -/
theorem rfailed {D M D1 M1 : Nat → Bool} {w w1 : World} {rb b : Nat} {xs : List O} {L : List TokP} {u0 u1 u2 u3 : Value} {X : Out TL} (hX : X = none) (ht : Turn D M D1 M1 w w1) (hs : Sd D1 M1 w1 rb xs L none) (md : ∀ k, M k = true → D k = true) (hb : w.heap.size ≤ b) (hd : D1 b = true) (hm : M1 b = false) :
    RPost D M w rb xs L X (.returned (.tuple #[zVal, .int .i64 0])) (set4 w1 b u0 u1 u2 u3) := by
  subst hX
  exact rdone ht hs md hb hd hm (zTm_at _) (fun p s' h => by cases h)
theorem rgave {D M D1 M1 : Nat → Bool} {w w1 : World} {rb b : Nat} {xs : List O} {L : List TokP} {u0 u1 u2 u3 : Value} {X : Out TL} {t : Tm} {lv : Int} {v : Value} {s' : RS} (hX : X = some ((t, lv), s')) (ht : Turn D M D1 M1 w w1) (hs : Sd D1 M1 w1 rb xs L (some s')) (md : ∀ k, M k = true → D k = true) (hb : w.heap.size ≤ b) (hd : D1 b = true) (hm : M1 b = false) (h : TmV (hide D1 w1) t v) :
    RPost D M w rb xs L X (.returned (.tuple #[v, .int .i64 lv])) (set4 w1 b u0 u1 u2 u3) := by
  subst hX
  exact rdone ht hs md hb hd hm h (fun p s'' he => by cases he; exact ⟨rfl, rfl⟩)
set_option maxHeartbeats 4000000 in
theorem dparen_at {xs : List O} {L : List TokP} {n : Nat} (hL : WfL L) (ih : IHD xs L n) {D M : Nat → Bool} {w : World} {rb : Nat} {s : RS} (h : Sd D M w rb xs L (some s)) (hlt : s.rest.length < n) :
    Calls Tryz.prog 160 #[.pointer (some ⟨rb, 0, none⟩), .string ⟨#[40]⟩] w (RPost D M w rb xs L (zeroR (bracketR (TERMX xs) [40] s))) := by
  obtain ⟨X, hX⟩ : ∃ X, zeroR (bracketR (TERMX xs) [40] s) = X := ⟨_, rfl⟩
  rw [hX]
  have HXX := Lib.hid hX
  obtain ⟨w1, hw1, hb1, hz1, hx1⟩ := box_new w #[.int .i64 0, .int .i64 0, .string ⟨#[]⟩, .slice none 0 0] 66
  have h1 := h.box hb1 (Nat.le_refl _) hx1.lt
  have HMd := Lib.hid h.md
  have HMB := Lib.hid (h.out (Nat.le_refl _))
  have HT1 := Lib.hid (Turn.into (D := D) (M := M) hb1 (Nat.le_refl _))
  have HX1 := Lib.hid hx1
  have HLL := Lib.hid hL
  have HI := Lib.hid (ih _ _ _ rb s 1200 (by decide) h1 hlt)
  have HBR := Lib.hid (show bracketR (TERMX xs) [40] s = closedR (TERMX xs) [41] s from rfl)
  clear h hX hlt ih h1 hx1 hb1 hz1 hL
  go_enter Tryz.func160, Tryz.ntmps160
  go_wp2_with fail
  (try rw [hw1])
  clear hw1
  (go_wp2_with fail; go_fit (HI.out); rintro e w2 ⟨D2, M2, t2, v2, lv2, rfl, htv, ht2, hs2, hx2⟩)
  obtain ⟨k2, n2, s2, a2, m2, c2, rfl⟩ := htv.full
  obtain ⟨w3, hw3, hb3, hz3, hx3⟩ := box_new w2 #[.int .i64 k2, .int .i64 n2, .string s2, .slice a2 m2 c2] 66
  have HS3 := Lib.hid (hs2.box hb3 (Nat.le_refl _) hx3.lt)
  have HT3 := Lib.hid ((HT1.out.trans ht2).into2 hb3 (Nat.le_refl _))
  have HXB3 := Lib.hid ((HX1.out.turn ht2 HMB.out).ext hb3)
  have HXT3 := Lib.hid hx3
  have HDB3 := Lib.hid (plusB_of (b := w2.heap.size) ((ht2.dd _ HX1.out.lt).trans (plusB_self D _)))
  have HMB3 := Lib.hid ((ht2.mm _ HX1.out.lt).trans HMB.out)
  have HMT3 := Lib.hid (hs2.out (Nat.le_refl w2.heap.size))
  have HV3 := Lib.hid (htv.box hb3 (Nat.le_refl _))
  have HX2 := Lib.hid hx2
  have c5 := HS3.out.c5
  obtain ⟨r0, r1, r2, r3, rf⟩ := hx3.four
  clear htv ht2 hs2 hx2 hb3 hz3 hx3 HI
  cases hM : TERMX xs 1200 s with
  | none =>
    rw [hM] at c5 HS3
    have hN : X = none := by rw [← HXX.out, HBR.out]; rw [closed_none hM]; rfl
    have HN := Lib.hid hN
    have hbad : ((none : Out TL).map (·.2)).isNone = true := rfl
    rw [hbad] at c5
    clear hN hM hbad
    go_wp2_with fail
    (try rw [hw3])
    clear hw3
    have HFL := Lib.hid (dfail_at HS3.out)
    (go_wp2_with fail; go_fit (HFL.out); rintro e wf ⟨rfl, hsf, htf⟩)
    have HSF := Lib.hid hsf
    have HTF := Lib.hid (HT3.out.trans htf)
    have HXF := Lib.hid (HXB3.out.turn htf HMB3.out)
    obtain ⟨b0, b1, b2, b3, bf⟩ := HXF.out.four
    clear hsf htf
    go_wp2
    refine bodyPost_ret (v := .tuple #[zVal, .int .i64 0]) (by rw [results_cell2' rfl]; go_simp; (try rfl)) rfl ?_
    exact rfailed HN.out HTF.out HSF.out HMd.out (Nat.le_refl _) HDB3.out HMB3.out
  | some q =>
    obtain ⟨p, s1⟩ := q
    rw [hM] at c5 HS3
    obtain ⟨rfl, _⟩ := HX2.out p s1 hM
    have hbad : ((some (p, s1) : Out TL).map (·.2)).isNone = false := rfl
    rw [hbad] at c5
    have HS3 : Hid (Sd (plusB D2 w2.heap.size) M2 w3 rb xs L (some s1)) := HS3
    have HTK := Lib.hid (dpunct_at HLL.out HS3.out [41])
    have HM := Lib.hid hM
    clear hbad hM
    cases hmk : isMark [41] (headR s1) with
    | false =>
      rw [hmk] at HTK
      have hno := takesR_no hmk
      rw [hno.2] at HTK
      have hN : X = none := by rw [← HXX.out, HBR.out]; rw [closed_open HM.out hmk]; rfl
      have HN := Lib.hid hN
      clear hN hno hmk
      go_wp2_with fail
      (try rw [hw3])
      clear hw3
      (go_wp2_with fail; go_fit (HTK.out); rintro e w4 ⟨rfl, hs4, ht4⟩)
      have HS4 := Lib.hid hs4
      have HT4 := Lib.hid (HT3.out.trans ht4)
      have HXB4 := Lib.hid (HXB3.out.turn ht4 HMB3.out)
      have HDB4 := HDB3
      have HMB4 := HMB3
      clear hs4 ht4
      have HFL := Lib.hid (dfail_at HS4.out)
      (go_wp2_with fail; go_fit (HFL.out); rintro e wf ⟨rfl, hsf, htf⟩)
      have HSF := Lib.hid hsf
      have HTF := Lib.hid (HT4.out.trans htf)
      have HXF := Lib.hid (HXB4.out.turn htf HMB4.out)
      obtain ⟨b0, b1, b2, b3, bf⟩ := HXF.out.four
      clear hsf htf
      go_wp2
      refine bodyPost_ret (v := .tuple #[zVal, .int .i64 0]) (by rw [results_cell2' rfl]; go_simp; (try rfl)) rfl ?_
      exact rfailed HN.out HTF.out HSF.out HMd.out (Nat.le_refl _) HDB4.out HMB4.out
    | true =>
      rw [hmk] at HTK
      have hN : X = some ((p.1, 0), takesS [41] s1) := by rw [← HXX.out, HBR.out]; rw [closed_done HM.out hmk]; rfl
      have HN := Lib.hid hN
      clear hN hmk
      go_wp2_with fail
      (try rw [hw3])
      clear hw3
      (go_wp2_with fail; go_fit (HTK.out); rintro e w4 ⟨rfl, hs4, ht4⟩)
      have HS4 := Lib.hid hs4
      have HT4 := Lib.hid (HT3.out.trans ht4)
      have HXB4 := Lib.hid (HXB3.out.turn ht4 HMB3.out)
      have HXT4 := Lib.hid (HXT3.out.turn ht4 HMT3.out)
      have HV4 := Lib.hid (TmV.stay (ht4.stays HS3.out.md) _ _ HV3.out)
      obtain ⟨r0, r1, r2, r3, rf⟩ := HXT4.out.four
      obtain ⟨b0, b1, b2, b3, bf⟩ := HXB4.out.four
      clear hs4 ht4
      go_wp2
      refine bodyPost_ret (v := .tuple #[.agg #[.int .i64 k2, .int .i64 n2, .string s2, .slice a2 m2 c2], .int .i64 0]) (by rw [results_cell2' rfl]; go_simp) rfl ?_
      exact rgave HN.out HT4.out HS4.out HMd.out (Nat.le_refl _) HDB3.out HMB3.out HV4.out
set_option maxHeartbeats 4000000 in
theorem dbrace_at {xs : List O} {L : List TokP} {n : Nat} (hL : WfL L) (ih : IHD xs L n) {D M : Nat → Bool} {w : World} {rb : Nat} {s : RS} (h : Sd D M w rb xs L (some s)) (hlt : s.rest.length < n) :
    Calls Tryz.prog 160 #[.pointer (some ⟨rb, 0, none⟩), .string ⟨#[123]⟩] w (RPost D M w rb xs L (zeroR (bracketR (TERMX xs) [123] s))) := by
  obtain ⟨X, hX⟩ : ∃ X, zeroR (bracketR (TERMX xs) [123] s) = X := ⟨_, rfl⟩
  rw [hX]
  have HXX := Lib.hid hX
  obtain ⟨w1, hw1, hb1, hz1, hx1⟩ := box_new w #[.int .i64 0, .int .i64 0, .string ⟨#[]⟩, .slice none 0 0] 66
  have h1 := h.box hb1 (Nat.le_refl _) hx1.lt
  have HMd := Lib.hid h.md
  have HMB := Lib.hid (h.out (Nat.le_refl _))
  have HT1 := Lib.hid (Turn.into (D := D) (M := M) hb1 (Nat.le_refl _))
  have HX1 := Lib.hid hx1
  have HLL := Lib.hid hL
  have HI := Lib.hid (ih _ _ _ rb s 1200 (by decide) h1 hlt)
  have HBR := Lib.hid (show bracketR (TERMX xs) [123] s = (match closedR (TERMX xs) [125] s with | none => none | some (t, s1) => some (.mk 2 0 (ba [123, 125]) [t], s1)) from rfl)
  clear h hX hlt ih h1 hx1 hb1 hz1 hL
  go_enter Tryz.func160, Tryz.ntmps160
  go_wp2_with fail
  (try rw [hw1])
  clear hw1
  (go_wp2_with fail; go_fit (HI.out); rintro e w2 ⟨D2, M2, t2, v2, lv2, rfl, htv, ht2, hs2, hx2⟩)
  obtain ⟨k2, n2, s2, a2, m2, c2, rfl⟩ := htv.full
  obtain ⟨w3, hw3, hb3, hz3, hx3⟩ := box_new w2 #[.int .i64 k2, .int .i64 n2, .string s2, .slice a2 m2 c2] 66
  have HS3 := Lib.hid (hs2.box hb3 (Nat.le_refl _) hx3.lt)
  have HT3 := Lib.hid ((HT1.out.trans ht2).into2 hb3 (Nat.le_refl _))
  have HXB3 := Lib.hid ((HX1.out.turn ht2 HMB.out).ext hb3)
  have HXT3 := Lib.hid hx3
  have HDB3 := Lib.hid (plusB_of (b := w2.heap.size) ((ht2.dd _ HX1.out.lt).trans (plusB_self D _)))
  have HMB3 := Lib.hid ((ht2.mm _ HX1.out.lt).trans HMB.out)
  have HMT3 := Lib.hid (hs2.out (Nat.le_refl w2.heap.size))
  have HV3 := Lib.hid (htv.box hb3 (Nat.le_refl _))
  have HX2 := Lib.hid hx2
  have c5 := HS3.out.c5
  obtain ⟨r0, r1, r2, r3, rf⟩ := hx3.four
  clear htv ht2 hs2 hx2 hb3 hz3 hx3 HI
  cases hM : TERMX xs 1200 s with
  | none =>
    rw [hM] at c5 HS3
    have hN : X = none := by rw [← HXX.out, HBR.out]; rw [closed_none hM]; rfl
    have HN := Lib.hid hN
    have hbad : ((none : Out TL).map (·.2)).isNone = true := rfl
    rw [hbad] at c5
    clear hN hM hbad
    go_wp2_with fail
    (try rw [hw3])
    clear hw3
    have HFL := Lib.hid (dfail_at HS3.out)
    (go_wp2_with fail; go_fit (HFL.out); rintro e wf ⟨rfl, hsf, htf⟩)
    have HSF := Lib.hid hsf
    have HTF := Lib.hid (HT3.out.trans htf)
    have HXF := Lib.hid (HXB3.out.turn htf HMB3.out)
    obtain ⟨b0, b1, b2, b3, bf⟩ := HXF.out.four
    clear hsf htf
    go_wp2
    refine bodyPost_ret (v := .tuple #[zVal, .int .i64 0]) (by rw [results_cell2' rfl]; go_simp; (try rfl)) rfl ?_
    exact rfailed HN.out HTF.out HSF.out HMd.out (Nat.le_refl _) HDB3.out HMB3.out
  | some q =>
    obtain ⟨p, s1⟩ := q
    rw [hM] at c5 HS3
    obtain ⟨rfl, _⟩ := HX2.out p s1 hM
    have hbad : ((some (p, s1) : Out TL).map (·.2)).isNone = false := rfl
    rw [hbad] at c5
    have HS3 : Hid (Sd (plusB D2 w2.heap.size) M2 w3 rb xs L (some s1)) := HS3
    have HTK := Lib.hid (dpunct_at HLL.out HS3.out [125])
    have HM := Lib.hid hM
    clear hbad hM
    cases hmk : isMark [125] (headR s1) with
    | false =>
      rw [hmk] at HTK
      have hno := takesR_no hmk
      rw [hno.2] at HTK
      have hN : X = none := by rw [← HXX.out, HBR.out]; rw [closed_open HM.out hmk]; rfl
      have HN := Lib.hid hN
      clear hN hno hmk
      go_wp2_with fail
      (try rw [hw3])
      clear hw3
      (go_wp2_with fail; go_fit (HTK.out); rintro e w4 ⟨rfl, hs4, ht4⟩)
      have HS4 := Lib.hid hs4
      have HT4 := Lib.hid (HT3.out.trans ht4)
      have HXB4 := Lib.hid (HXB3.out.turn ht4 HMB3.out)
      have HDB4 := HDB3
      have HMB4 := HMB3
      clear hs4 ht4
      have HFL := Lib.hid (dfail_at HS4.out)
      (go_wp2_with fail; go_fit (HFL.out); rintro e wf ⟨rfl, hsf, htf⟩)
      have HSF := Lib.hid hsf
      have HTF := Lib.hid (HT4.out.trans htf)
      have HXF := Lib.hid (HXB4.out.turn htf HMB4.out)
      obtain ⟨b0, b1, b2, b3, bf⟩ := HXF.out.four
      clear hsf htf
      go_wp2
      refine bodyPost_ret (v := .tuple #[zVal, .int .i64 0]) (by rw [results_cell2' rfl]; go_simp; (try rfl)) rfl ?_
      exact rfailed HN.out HTF.out HSF.out HMd.out (Nat.le_refl _) HDB4.out HMB4.out
    | true =>
      rw [hmk] at HTK
      have hN : X = some (((.mk 2 0 ⟨#[123, 125]⟩ [p.1]), 0), takesS [125] s1) := by rw [← HXX.out, HBR.out]; rw [closed_done HM.out hmk]; rfl
      have HN := Lib.hid hN
      clear hN hmk
      go_wp2_with fail
      (try rw [hw3])
      clear hw3
      (go_wp2_with fail; go_fit (HTK.out); rintro e w4 ⟨rfl, hs4, ht4⟩)
      have HS4 := Lib.hid hs4
      have HT4 := Lib.hid (HT3.out.trans ht4)
      have HXB4 := Lib.hid (HXB3.out.turn ht4 HMB3.out)
      have HXT4 := Lib.hid (HXT3.out.turn ht4 HMT3.out)
      have HV4 := Lib.hid (TmV.stay (ht4.stays HS3.out.md) _ _ HV3.out)
      obtain ⟨r0, r1, r2, r3, rf⟩ := HXT4.out.four
      obtain ⟨b0, b1, b2, b3, bf⟩ := HXB4.out.four
      clear hs4 ht4
      have h1 := tms_one HS4.out.old HV4.out 66
      have hv5 : TmV (hide (plusB D2 w2.heap.size) (w4.alloc (.cells #[.int .i64 k2, .int .i64 n2, .string s2, .slice a2 m2 c2] 66))) (.mk 2 0 ⟨#[123, 125]⟩ [p.1]) (.agg #[.int .i64 2, .int .i64 0, .string ⟨#[123, 125]⟩, .slice (some ⟨w4.heap.size, 0, none⟩) 1 1]) := tmV_iff.2 ⟨_, rfl, by unfold BIG; decide, i64_2, i64_0, h1⟩
      have HV5 := Lib.hid hv5
      clear h1 hv5
      (go_wp2_with fail; go_fit (rcomp_at _ _ _ _ _); rintro e w6 ⟨rfl, hb6⟩)
      have hb46 := Ext.trans' (bel1' w4 (.cells #[.int .i64 k2, .int .i64 n2, .string s2, .slice a2 m2 c2] 66)) hb6
      have HB46 := Lib.hid hb46
      have HV6 := Lib.hid (HV5.out.later hb6)
      obtain ⟨b0, b1, b2, b3, bf⟩ := (HXB4.out.ext hb46).four
      clear hb6 hb46
      go_wp2
      refine bodyPost_ret (v := .tuple #[.agg #[.int .i64 2, .int .i64 0, .string ⟨#[123, 125]⟩, .slice (some ⟨w4.heap.size, 0, none⟩) 1 1], .int .i64 0]) (by rw [results_cell2' rfl]; go_simp) rfl ?_
      exact rgave HN.out (HT4.out.trans (Turn.below HB46.out)) (HS4.out.later HB46.out) HMd.out (Nat.le_refl _) HDB3.out HMB3.out HV6.out
end Go.Proofs.YtobdhcaoeholhaaGreatDoor
