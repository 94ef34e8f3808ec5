import Derived.Test.YtannchfoldnhcaaHayaf
import Derived.Test.YtannchfoldnhcaaHayae
import Derived.Deep.RegionHeld3
import Derived.Test.YtannchfoldnhcaaHayac
import Derived.Test.YtannchfoldnhcaaHayad
import Derived.Ground.SlgnProg
import Derived.Shelf.SlicesE.Reverse
import Derived.Test.YtannchfoldnhcaaProg
import Derived.Shelf.SlGeneric
import Derived.Lib.OwnBridge
import Derived.Lib.RowBridge
import Derived.Test.YtannchfoldnhcaaHayab
import Derived.Test.YtannchfoldnhcaaHayaa
import Derived.Deep.Quiet
import Derived.Deep.LoopGhost
set_option linter.unusedVariables false
set_option linter.unusedSimpArgs false
/- Package code: Back's registers; made. -/
namespace Go.Proofs.Ytannchfoldnhcaa
open Go.RowKit
set_option linter.unusedVariables false

/-- What the check has told of a step with Args. -/
theorem goK_facts {sl : Int} : ∀ (l : List InsM) (i next : Nat) (seen : List Int) (r : Nat × List Int), goK sl l i next seen = some r → next ≤ r.1 ∧ ∀ (j : Nat) (x : InsM), l[j]? = some x →
    (x.op = opVar ∨ x.op = opVal ∨ x.op = opInt ∨ x.op = opAtom ∨ x.op = opComp) ∧ (x.op = opComp → ∃ C B : Nat, x.c = (C : Int) ∧ x.b = (B : Int) ∧ i + j + 1 ≤ C ∧ C + B ≤ r.1 ∧ 1 ≤ B ∧ B ≤ 8)
  | [], i, next, seen, r, h => by
    rw [goK] at h
    cases h
    exact ⟨Nat.le_refl _, fun j x hx => by simp at hx⟩
  | y :: l, i, next, seen, r, h => by
    rw [goK] at h
    split at h
    · rename_i hok
      obtain ⟨ih1, ih2⟩ := goK_facts l (i + 1) _ _ r h
      have hmono : next ≤ nextI next y := by unfold nextI; split <;> omega
      refine ⟨Nat.le_trans hmono ih1, fun j x hx => ?_⟩
      cases j with
      | zero =>
        simp at hx
        subst hx
        rw [Bool.and_eq_true] at hok
        obtain ⟨ha, hp⟩ := hok
        have ha : y.a = (i : Int) := by simpa using ha
        unfold partK partI at hp
        rw [Bool.and_eq_true, decide_eq_true_eq] at hp
        obtain ⟨hlt, hp⟩ := hp
        by_cases h1 : y.op = opVar
        · exact ⟨Or.inl h1, fun e => by rw [h1] at e; exact absurd e (by decide)⟩
        by_cases h2 : y.op = opVal
        · exact ⟨Or.inr (Or.inl h2), fun e => by rw [h2] at e; exact absurd e (by decide)⟩
        by_cases h3 : y.op = opInt
        · exact ⟨Or.inr (Or.inr (Or.inl h3)), fun e => by rw [h3] at e; exact absurd e (by decide)⟩
        by_cases h4 : y.op = opAtom
        · exact ⟨Or.inr (Or.inr (Or.inr (Or.inl h4))), fun e => by rw [h4] at e; exact absurd e (by decide)⟩
        by_cases h5 : y.op = opComp
        · refine ⟨Or.inr (Or.inr (Or.inr (Or.inr h5))), fun _ => ?_⟩
          rw [if_neg h1, if_neg h2, if_neg h3, if_neg h4, if_pos h5] at hp
          simp only [Bool.and_eq_true, decide_eq_true_eq, beq_iff_eq] at hp
          obtain ⟨⟨⟨⟨p1, p2⟩, p3⟩, p4⟩, p5⟩ := hp
          have hn : nextI next y = next + y.b.toNat := by unfold nextI; rw [if_pos h5]
          rw [hn] at ih1
          exact ⟨next, y.b.toNat, p3, by omega, by omega, ih1, by omega, by omega⟩
        · rw [if_neg h1, if_neg h2, if_neg h3, if_neg h4, if_neg h5] at hp
          cases hp
      | succ j =>
        obtain ⟨k1, k2⟩ := ih2 j x (by simpa using hx)
        refine ⟨k1, fun e => ?_⟩
        obtain ⟨C, B, q1, q2, q3, q4⟩ := k2 e
        exact ⟨C, B, q1, q2, by omega, q4⟩
    · cases h
/-- What a good code is. -/
theorem goodK_facts {c : CodeM} (h : goodK c = true) : ∃ A S n : Nat, c.ar = (A : Int) ∧ c.sl = (S : Int) ∧ c.rg = (n : Int) ∧ c.l.length = n ∧ A ≤ 8 ∧ A ≤ n ∧ S ≤ n ∧ n ≤ 2000 ∧ ∀ (j : Nat) (x : InsM), c.l[j]? = some x →
    (x.op = opVar ∨ x.op = opVal ∨ x.op = opInt ∨ x.op = opAtom ∨ x.op = opComp) ∧ (x.op = opComp → ∃ C B : Nat, x.c = (C : Int) ∧ x.b = (B : Int) ∧ j + 1 ≤ C ∧ C + B ≤ n ∧ 1 ≤ B ∧ B ≤ 8) := by
  unfold goodK at h
  simp only [Bool.and_eq_true, decide_eq_true_eq, beq_iff_eq] at h
  obtain ⟨⟨⟨⟨⟨⟨h1, h2⟩, h3⟩, h4⟩, h5⟩, h6⟩, h7⟩ := h
  cases hr : goK c.sl c.l 0 c.ar.toNat [] with
  | none => rw [hr] at h7; cases h7
  | some r =>
    obtain ⟨rn, rs⟩ := r
    rw [hr] at h7
    simp only [Bool.and_eq_true, beq_iff_eq] at h7
    obtain ⟨f1, f2⟩ := goK_facts _ _ _ _ _ hr
    have f1' : c.ar.toNat ≤ rn := f1
    refine ⟨c.ar.toNat, c.sl.toNat, c.l.length, by omega, by omega, by omega, rfl, by omega, by omega, by omega, by omega, fun j x hx => ?_⟩
    obtain ⟨g1, g2⟩ := f2 j x hx
    refine ⟨g1, fun e => ?_⟩
    obtain ⟨C, B, q1, q2, q3, q4, q5⟩ := g2 e
    have q4' : C + B ≤ rn := q4
    exact ⟨C, B, q1, q2, by omega, by omega, q5⟩
/-- Args out of whatever row. -/
theorem comp_src {D : Nat → Bool} {w : World} {ao : Option Addr} {m c : Nat} (ps : List TmP) (s : ByteArray) (hs : s.size ≤ BIG) (hD : Old D w) (hpl : ps.length = m) (hbig : m * 56 ≤ BIG) (hpa : ∀ p ∈ ps, TmV (hide D w) p.1 (pVal p))
    (hsrc : m = 0 ∨ ∃ ad, ao = some ad ∧ ∀ j u, (ps.flatMap pCells)[j]? = some u → w.cell? (ad.add j) = some u) :
    Calls Try.prog 12 #[.string s, .slice ao m c] w fun e w' => ∃ v, e = .returned v ∧ TmV (hide D w') (nameT s (ps.map (·.1))) v ∧ Below w.heap.size w w' := by
  refine (comp_ps (c := c) ps s hpl hbig (pCells_one ps hpa) hsrc).mono ?_
  rintro e w' ⟨a, c', rfl, hR, hB⟩
  refine ⟨_, rfl, ?_, hB⟩
  have hT := (hR.hide (D := D) (fun k hk _ => hD k (by omega))).terms (fun p hp => TmV.later hB (hpa p hp)) (by rw [hpl]; exact hbig)
  exact tmV_iff.2 ⟨_, rfl, hs, i64_2, i64_0, hT⟩
/-- The registers, filled from their end. -/
structure RegB (w : World) (lb n : Nat) (ps : List TmP) : Prop where
  len : ps.length ≤ n
  done : ∀ i p, ps[i]? = some p → ∀ j u, (pCells p)[j]? = some u → w.cell? ⟨lb, (n - ps.length + i) * 4 + j, none⟩ = some u
  rest : ∀ i, i < n - ps.length → w.cell? ⟨lb, i * 4, none⟩ = some (.int .i64 0) ∧ w.cell? ⟨lb, i * 4 + 1, none⟩ = some (.int .i64 0) ∧ w.cell? ⟨lb, i * 4 + 2, none⟩ = some (.string ⟨#[]⟩) ∧ w.cell? ⟨lb, i * 4 + 3, none⟩ = some (.slice none 0 0)
  fz : ∀ j, w.frozen? ⟨lb, j, none⟩ = false
  lt : lb < w.heap.size
theorem RegB.later {w w' : World} {lb n : Nat} {ps : List TmP} (h : RegB w lb n ps) (hb : Below w.heap.size w w') : RegB w' lb n ps where
  len := h.len
  done := fun i p hp j u hu => cell_later hb (h.done i p hp j u hu)
  rest := fun i h1 => by obtain ⟨a, b, c, d⟩ := h.rest i h1; exact ⟨cell_later hb a, cell_later hb b, cell_later hb c, cell_later hb d⟩
  fz := fun j => (hb.frozen (p := ⟨lb, j, none⟩) h.lt).trans (h.fz j)
  lt := Nat.lt_of_lt_of_le h.lt hb.size
theorem RegB.new (w : World) (n : Nat) (ty : TypeId) : RegB (w.alloc (.cells (madeCells #[.int .i64 0, .int .i64 0, .string ⟨#[]⟩, .slice none 0 0] (n * 4)) ty)) w.heap.size n [] where
  len := Nat.zero_le _
  done := fun i p hp => by simp at hp
  rest := fun i h => (lay_new w n ty).rest i (by simp) (by simpa using h)
  fz := (lay_new w n ty).fz
  lt := (lay_new w n ty).lt
theorem RegB.put {w : World} {lb n : Nat} {ps : List TmP} (h : RegB w lb n ps) {i : Nat} (hi : i + ps.length + 1 = n) {p : TmP} {u0 u1 u2 u3 : Value} (hp : pCells p = [u0, u1, u2, u3]) : RegB (setAt w lb (i * 4) u0 u1 u2 u3) lb n (p :: ps) where
  len := by rw [List.length_cons]; omega
  done := fun k q hq j u hu => by
    have hj : j < 4 := by
      have := (List.getElem?_eq_some_iff.1 hu).1
      rw [pCells_len] at this
      exact this
    rw [List.length_cons, show n - (ps.length + 1) = i by omega]
    cases k with
    | zero =>
      simp at hq
      subst hq
      obtain ⟨r0, r1, r2, r3⟩ := h.rest i (by omega)
      rw [Nat.add_zero]
      rw [hp] at hu
      match j, hj, hu with
      | 0, _, hu =>
        cases hu
        rw [near_cell (by omega), near_cell (by omega), near_cell (by omega)]
        exact css r0
      | 1, _, hu =>
        cases hu
        rw [near_cell (by omega), near_cell (by omega)]
        exact css (u := .int .i64 0) (by rw [near_cell (by omega)]; exact r1)
      | 2, _, hu =>
        cases hu
        rw [near_cell (by omega)]
        exact css (u := .string ⟨#[]⟩) (by rw [near_cell (by omega), near_cell (by omega)]; exact r2)
      | 3, _, hu =>
        cases hu
        exact css (u := .slice none 0 0) (by rw [near_cell (by omega), near_cell (by omega), near_cell (by omega)]; exact r3)
    | succ k =>
      rw [setAt_off (by omega)]
      have := h.done k q (by simpa using hq) j u hu
      rw [show n - ps.length + k = i + (k + 1) by omega] at this
      exact this
  rest := fun k h1 => by
    rw [List.length_cons] at h1
    obtain ⟨a, b, c, d⟩ := h.rest k (by omega)
    exact ⟨by rw [setAt_off (by omega)]; exact a, by rw [setAt_off (by omega)]; exact b, by rw [setAt_off (by omega)]; exact c, by rw [setAt_off (by omega)]; exact d⟩
  fz := fun j => by rw [World.frozen?_setCell, World.frozen?_setCell, World.frozen?_setCell, World.frozen?_setCell]; exact h.fz j
  lt := by have := h.lt; simpa [World.setCell] using this
theorem flat_done {w : World} {lb n : Nat} {ps : List TmP} (h : RegB w lb n ps) {C B : Nat} (h1 : n - ps.length ≤ C) (h2 : C + B ≤ n) : ∀ j u, (((ps.drop (C - (n - ps.length))).take B).flatMap pCells)[j]? = some u → w.cell? ((⟨lb, C * 4, none⟩ : Addr).add j) = some u := by
  intro j u hu
  have hlen := h.len
  have hj : j < (((ps.drop (C - (n - ps.length))).take B).flatMap pCells).length := (List.getElem?_eq_some_iff.1 hu).1
  rw [flat_len pCells_len] at hj
  have hql : ((ps.drop (C - (n - ps.length))).take B).length = B := by rw [List.length_take, List.length_drop]; omega
  have hjd : j / 4 < ((ps.drop (C - (n - ps.length))).take B).length := by omega
  obtain ⟨p, hp⟩ : ∃ p, ((ps.drop (C - (n - ps.length))).take B)[j / 4]? = some p := ⟨_, List.getElem?_eq_getElem hjd⟩
  have hg := flat_get pCells_len _ _ _ hp (j % 4) (Nat.mod_lt _ (by omega))
  rw [show j / 4 * 4 + j % 4 = j by omega, hu] at hg
  rw [List.getElem?_take, if_pos (by omega), List.getElem?_drop] at hp
  have := h.done _ p hp (j % 4) u hg.symm
  rw [add_plain]
  rw [show (n - ps.length + (C - (n - ps.length) + j / 4)) * 4 + j % 4 = C * 4 + j by omega] at this
  exact this
/-- What made leaves. -/
def MadeP (D : Nat → Bool) (w : World) (T : Tm) (e : Ending) (w' : World) : Prop := ∃ v, e = .returned v ∧ TmV (hide D w') T v ∧ Below w.heap.size w w'
set_option maxHeartbeats 2000000 in
set_option maxRecDepth 100000 in
theorem made_at {w : World} {lb n : Nat} {ps : List TmP} {D : Nat → Bool} (h : RegB w lb n ps) (hn : n ≤ 2000) (hD : Old D w) (hpa : ∀ p ∈ ps, TmV (hide D w) p.1 (pVal p)) {i : Nat} (hi : i + ps.length + 1 = n) (x : InsM) (hx : InsIn x)
    (hop : x.op = opVar ∨ x.op = opVal ∨ x.op = opInt ∨ x.op = opAtom ∨ x.op = opComp) (hcomp : x.op = opComp → ∃ C B : Nat, x.c = (C : Int) ∧ x.b = (B : Int) ∧ i + 1 ≤ C ∧ C + B ≤ n ∧ 1 ≤ B ∧ B ≤ 8) :
    Calls Try.prog 36 #[insVal x, .slice (some ⟨lb, 0, none⟩) n n] w (MadeP D w (insT (ps.map (·.1)) i x)) := by
  obtain ⟨op, a, b, c, m, s⟩ := x
  have HOP := Lib.hid hop
  obtain ⟨w1, e1, B1, z1, X1⟩ := box_new w #[.string op, .int .i64 a, .int .i64 b, .int .i64 c, .int .i64 m, .string s] 36
  obtain ⟨w2, e2, B2, z2, X2⟩ := box_new w1 #[.int .i64 0, .int .i64 0, .string ⟨#[]⟩, .slice none 0 0] 31
  have X1 := X1.ext B2
  have B12 := Ext.trans' B1 B2
  rw [z1] at X2
  have x0 := X1.cells 0 _ rfl
  have x2 := X1.cells 2 _ rfl
  have x3 := X1.cells 3 _ rfl
  have x4 := X1.cells 4 _ rfl
  have x5 := X1.cells 5 _ rfl
  have HE := Lib.hid (And.intro e1 e2)
  have HX := Lib.hid hx
  have HB2 := Lib.hid (And.intro B12 X2)
  have HR2 := Lib.hid (h.later B12)
  obtain ⟨D', hD'⟩ : ∃ D' : Nat → Bool, D' = fun k => D k || decide (k = w.heap.size + 1) := ⟨_, rfl⟩
  have hz2 : w2.heap.size = w.heap.size + 2 := by omega
  have HD2 := Lib.hid (show Old D' w2 from fun k hk => by rw [hD']; simp; exact ⟨hD k (by omega), by omega⟩)
  have hsub : ∀ k, D' k = false → D k = false := fun k hk => by rw [hD'] at hk; simp at hk; exact hk.1
  have hbx : D' (w.heap.size + 1) = true := by rw [hD']; simp
  have hup : ∀ k, k < w.heap.size → D k = false → D' k = false := fun k hk h => by rw [hD']; simp; exact ⟨h, by omega⟩
  have HPA := Lib.hid (fun p hp => TmV.stay (Stays.below B12 hup) _ _ (hpa p hp) : ∀ p ∈ ps, TmV (hide D' w2) p.1 (pVal p))
  have END := Lib.hid (fun (T : Tm) (wq : World) (k4 n4 : Int) (s4 : ByteArray) (a4 : Option Addr) (m4 c4 : Nat) (ht : TmV (hide D' wq) T (.agg #[.int .i64 k4, .int .i64 n4, .string s4, .slice a4 m4 c4])) (hb : Below w2.heap.size w2 wq) =>
    (show TmV (hide D (set4 wq (w.heap.size + 1) (.int .i64 k4) (.int .i64 n4) (.string s4) (.slice a4 m4 c4))) T (.agg #[.int .i64 k4, .int .i64 n4, .string s4, .slice a4 m4 c4]) ∧ Below w.heap.size w (set4 wq (w.heap.size + 1) (.int .i64 k4) (.int .i64 n4) (.string s4) (.slice a4 m4 c4)) from
      ⟨TmV.stay (((((Stays.set _ _ hbx).trans (Stays.set _ _ hbx)).trans (Stays.set _ _ hbx)).trans (Stays.set _ _ hbx)).trans (Stays.less hsub)) _ _ ht, Below.set4 (b := w.heap.size + 1) (Ext.trans' HB2.out.1 hb) (by omega) _ _ _ _⟩))
  have HLEN := Lib.hid (And.intro h.len hi)
  have HHD := Lib.hid (fun C B hc hb => flat_done (C := C) (B := B) (h.later B12) hc hb)
  clear h hx hpa hD B1 B2 B12 X1 X2 e1 e2 z1 z2 hz2 hup hsub hbx hD'
  unfold insVal
  by_cases h1 : op = opVar ∨ op = opVal
  · have hT : insT (ps.map (·.1)) i ⟨op, a, b, c, m, s⟩ = varV b := by unfold insT; rw [if_pos h1]
    rw [hT]
    clear hT hcomp hop
    rcases h1 with h1 | h1 <;> (
      subst h1
      (first | unfold opVar at x0 HE ⊢ | unfold opVal at x0 HE ⊢)
      go_enter Try.func36, Try.ntmps36
      go_upto_region 1 with fail
      (try rw [HE.out.1, HE.out.2])
      (go_wp2_with fail; go_fit (var_at _ b); rintro e w3 ⟨rfl, b3⟩)
      have HEND := Lib.hid (END.out (varV b) w3 0 b ⟨#[]⟩ none 0 0 (leaf_tm _ i64_0 HX.out.b (by unfold BIG; decide)) b3)
      obtain ⟨r0, r1, r2, r3, rf⟩ := (HB2.out.2.ext b3).four
      clear b3 x0 x2 x3 x4 x5
      go_wp2
      refine bodyPost_ret (v := .agg #[.int .i64 0, .int .i64 b, .string ⟨#[]⟩, .slice none 0 0]) (by rw [results_cell1 rfl]; go_simp) rfl ⟨_, rfl, HEND.out.1, HEND.out.2⟩)
  by_cases h2 : op = opInt
  · have hT : insT (ps.map (·.1)) i ⟨op, a, b, c, m, s⟩ = intT m := by unfold insT; rw [if_neg h1, if_pos h2]; rfl
    rw [hT]
    clear hT hcomp hop h1
    subst h2
    unfold opInt at x0 HE ⊢
    go_enter Try.func36, Try.ntmps36
    go_upto_region 1 with fail
    (try rw [HE.out.1, HE.out.2])
    (go_wp2_with fail; go_fit (int_at _ m); rintro e w3 ⟨rfl, b3⟩)
    have HEND := Lib.hid (END.out (intT m) w3 1 m ⟨#[]⟩ none 0 0 (leaf_tm _ i64_1 HX.out.n (by unfold BIG; decide)) b3)
    obtain ⟨r0, r1, r2, r3, rf⟩ := (HB2.out.2.ext b3).four
    clear b3 x0 x2 x3 x4 x5
    go_wp2
    refine bodyPost_ret (v := .agg #[.int .i64 1, .int .i64 m, .string ⟨#[]⟩, .slice none 0 0]) (by rw [results_cell1 rfl]; go_simp) rfl ⟨_, rfl, HEND.out.1, HEND.out.2⟩
  by_cases h3 : op = opAtom
  · have hT : insT (ps.map (·.1)) i ⟨op, a, b, c, m, s⟩ = atomT s := by unfold insT; rw [if_neg h1, if_neg h2, if_pos h3]; rfl
    rw [hT]
    clear hT hcomp hop h1 h2
    subst h3
    unfold opAtom at x0 HE ⊢
    go_enter Try.func36, Try.ntmps36
    go_upto_region 1 with fail
    (try rw [HE.out.1, HE.out.2])
    (go_wp2_with fail; go_fit (atom_at _ s); rintro e w3 ⟨rfl, b3⟩)
    have HEND := Lib.hid (END.out (atomT s) w3 2 0 s none 0 0 (leaf_tm _ i64_2 i64_0 HX.out.s) b3)
    obtain ⟨r0, r1, r2, r3, rf⟩ := (HB2.out.2.ext b3).four
    clear b3 x0 x2 x3 x4 x5
    go_wp2
    refine bodyPost_ret (v := .agg #[.int .i64 2, .int .i64 0, .string s, .slice none 0 0]) (by rw [results_cell1 rfl]; go_simp) rfl ⟨_, rfl, HEND.out.1, HEND.out.2⟩
  have h4 : op = opComp := by
    rcases HOP.out with h | h | h | h | h
    · exact absurd (Or.inl h) h1
    · exact absurd (Or.inr h) h1
    · exact absurd h h2
    · exact absurd h h3
    · exact h
  obtain ⟨C, B, q1, q2, q3, q4, q5, q6⟩ := hcomp h4
  have q1 : c = (C : Int) := q1
  have q2 : b = (B : Int) := q2
  have hT : insT (ps.map (·.1)) i ⟨op, a, b, c, m, s⟩ = nameT s (((ps.drop (C - (i + 1))).take B).map (·.1)) := by
    unfold insT
    rw [if_neg h1, if_neg h2, if_neg h3]
    show nameT s (List.take b.toNat (List.drop (c.toNat - (i + 1)) (ps.map (·.1)))) = _
    rw [q1, q2, Int.toNat_natCast, Int.toNat_natCast, List.map_take, List.map_drop]
  rw [hT]
  have hlen := HLEN.out.1
  have hoff : n - ps.length = i + 1 := by omega
  have hsrc := HHD.out C B (by omega) (by omega)
  rw [hoff] at hsrc
  obtain ⟨qs, hqs⟩ : ∃ qs, (ps.drop (C - (i + 1))).take B = qs := ⟨_, rfl⟩
  have hql : qs.length = B := by rw [← hqs, List.length_take, List.length_drop]; omega
  have hqm : ∀ p ∈ qs, p ∈ ps := fun p hp => by rw [← hqs] at hp; exact List.mem_of_mem_drop (List.mem_of_mem_take hp)
  rw [hqs] at hsrc ⊢
  have C9 := fun (wq : World) (hb : Below w2.heap.size w2 wq) => comp_src (c := n - C) qs s HX.out.s (HD2.out.mono hb.size) hql (by unfold BIG; omega) (fun p hp => TmV.later hb (HPA.out p (hqm p hp))) (Or.inr ⟨⟨lb, C * 4, none⟩, rfl, fun j u hu => cell_later hb (hsrc j u hu)⟩)
  subst q1 q2
  have HC9 := Lib.hid C9
  clear hT hcomp hop h1 h2 h3 hsrc hqs hql hqm HPA HHD C9 HOP hoff
  subst h4
  unfold opComp at x0 HE ⊢
  go_enter Try.func36, Try.ntmps36
  go_upto_region 1 with fail
  (try rw [HE.out.1, HE.out.2])
  have hwn : w.heap.size ≠ w.heap.size + 1 := by omega
  have hw : IntKind.i64.wrap ((C : Int) + (B : Int)) = ((C + B : Nat) : Int) := by rw [IntKind.wrap_i64]; omega
  go_upto_region 9 with fail
  refine wp_region_held_drew (S := fun w' => w'.cell? ⟨w.heap.size, 2, none⟩ = some (.int .i64 B) ∧ w'.cell? ⟨w.heap.size, 3, none⟩ = some (.int .i64 C) ∧ w'.cell? ⟨w.heap.size, 5, none⟩ = some (.string s)) (by kernel_rfl) (⟨x2, x3, x5⟩) (fun hHeld => ?_)
  first | (refine held_t (i := 0) hHeld ?_; apply Exists.intro; refine ⟨fun wq hq => ?_, ?_⟩; (focus ((try dsimp only at hq); go_simp; (first | done | with_reducible rfl | fail)))) | refine held_s (i := 0) hHeld ?_ | fail
  first | (refine held_t (i := 1) hHeld ?_; apply Exists.intro; refine ⟨fun wq hq => ?_, ?_⟩; (focus ((try dsimp only at hq); go_simp; (first | done | with_reducible rfl | fail)))) | refine held_s (i := 1) hHeld ?_ | fail
  first | (refine held_t (i := 2) hHeld ?_; apply Exists.intro; refine ⟨fun wq hq => ?_, ?_⟩; (focus ((try dsimp only at hq); go_simp; (first | done | with_reducible rfl | fail)))) | refine held_s (i := 2) hHeld ?_ | fail
  first | (refine held_t (i := 3) hHeld ?_; apply Exists.intro; refine ⟨fun wq hq => ?_, ?_⟩; (focus ((try dsimp only at hq); go_simp; (first | done | with_reducible rfl | fail)))) | refine held_s (i := 3) hHeld ?_ | fail
  first | (refine held_t (i := 4) hHeld ?_; apply Exists.intro; refine ⟨fun wq hq => ?_, ?_⟩; (focus ((try dsimp only at hq); go_simp; (first | done | with_reducible rfl | fail)))) | refine held_s (i := 4) hHeld ?_ | fail
  first | (refine held_t (i := 5) hHeld ?_; apply Exists.intro; refine ⟨fun wq hq => ?_, ?_⟩; (focus ((try dsimp only at hq); go_simp; (first | done | with_reducible rfl | fail)))) | refine held_s (i := 5) hHeld ?_ | fail
  first | (refine held_t (i := 6) hHeld ?_; apply Exists.intro; refine ⟨fun wq hq => ?_, ?_⟩; (focus ((try dsimp only at hq); go_simp; (first | done | with_reducible rfl | fail)))) | refine held_s (i := 6) hHeld ?_ | fail
  first | (refine held_t (i := 7) hHeld ?_; apply Exists.intro; refine ⟨fun wq hq => ?_, ?_⟩; (focus ((try dsimp only at hq); go_simp; (first | done | with_reducible rfl | fail)))) | refine held_s (i := 7) hHeld ?_ | fail
  first | (refine held_t (i := 8) hHeld ?_; apply Exists.intro; refine ⟨fun wq hq => ?_, ?_⟩; (focus ((try dsimp only at hq); go_simp; (first | done | with_reducible rfl | fail)))) | refine held_s (i := 8) hHeld ?_ | fail
  first | (refine held_t (i := 9) hHeld ?_; apply Exists.intro; refine ⟨fun wq hq => ?_, ?_⟩; (focus ((try dsimp only at hq); go_simp; (first | done | with_reducible rfl | fail)))) | refine held_s (i := 9) hHeld ?_ | fail
  try simp only [Act.put, List.setIfInBounds_toArray, List.set_cons_zero, List.set_cons_succ]
  refine held_c 10 fun K hK => ?_
  go_simp
  (rw [if_pos (⟨by omega, by omega⟩ : 0 ≤ (C : Int) + (B : Int) ∧ (C : Int) + (B : Int) ≤ (n : Int)), if_pos (by omega : C ≤ ((C : Int) + (B : Int)).toNat), if_neg (by omega : ¬ n = C), show ((C : Int) + (B : Int)).toNat - C = B by omega]; go_simp)
  refine hK.out _ _ (hHeld) (fun hHeld => ?_)
  clear hK K
  try simp only [Act.put, List.setIfInBounds_toArray, List.set_cons_zero, List.set_cons_succ]
  refine held_c 11 fun K hK => ?_
  go_simp
  (go_at_call 12; refine (HC9.out _ (Below.refl _ _).drew).mono ?_; rintro e w3 ⟨v3, rfl, ht3, b3⟩; obtain ⟨k4, n4, s4, a4, m4, c4, rfl, f1, f2, f3, f4⟩ := four_of ht3; clear f1 f2 f3 f4; have HB3 := Lib.hid (Ext.trans' (Below.refl w2.heap.size w2).drew b3); have HEND := Lib.hid (END.out _ w3 k4 n4 s4 a4 m4 c4 ht3 HB3.out); have hh := (HB2.out.2.ext HB3.out).four; have r0 := hh.1; have r1 := hh.2.1; have r2 := hh.2.2.1; have r3 := hh.2.2.2.1; have rf := hh.2.2.2.2)
  refine hK.out _ _ (⟨cell_later b3 hHeld.1, cell_later b3 hHeld.2.1, cell_later b3 hHeld.2.2⟩) (fun hHeld => ?_)
  clear hK K
  try simp only [Act.put, List.setIfInBounds_toArray, List.set_cons_zero, List.set_cons_succ]
  refine held_c 12 fun K hK => ?_
  go_simp
  skip
  refine hK.out _ _ (⟨(far_cell hwn).trans ((far_cell hwn).trans ((far_cell hwn).trans ((far_cell hwn).trans hHeld.1))), (far_cell hwn).trans ((far_cell hwn).trans ((far_cell hwn).trans ((far_cell hwn).trans hHeld.2.1))), (far_cell hwn).trans ((far_cell hwn).trans ((far_cell hwn).trans ((far_cell hwn).trans hHeld.2.2)))⟩) (fun hHeld => ?_)
  clear hK K
  try simp only [Act.put, List.setIfInBounds_toArray, List.set_cons_zero, List.set_cons_succ]
  refine wpAnyH_done (by kernel_rfl) ?_ _
  clear hh hHeld b3 ht3
  go_wp2
  refine bodyPost_ret (v := .agg #[.int .i64 k4, .int .i64 n4, .string s4, .slice a4 m4 c4]) (by rw [results_cell1 rfl]; go_simp) rfl ⟨_, rfl, HEND.out.1, HEND.out.2⟩
end Go.Proofs.Ytannchfoldnhcaa
/- Package code: Back. -/
namespace Go.Proofs.Ytannchfoldnhcaa
open Go.RowKit
set_option linter.unusedVariables false

theorem infoTermB : (Try.prog.info? 31).map (fun i => (i.zero, i.size, i.bytes)) = some (some (.agg #[.int .i64 0, .int .i64 0, .string ⟨#[]⟩, .slice none 0 0]), 4, 56) := by kernel_rfl
theorem make_regs (m : Nat) (hm : m ≤ 100000) (w : World) : (Instr.makeSlice 29 (.int .i64 m) (.int .i64 m)).run Try.prog w = .ok (.slice (some ⟨w.heap.size, 0, none⟩) m m) (w.alloc (.cells (madeCells #[.int .i64 0, .int .i64 0, .string ⟨#[]⟩, .slice none 0 0] (m * 4)) 31)) := by
  obtain ⟨i0, hi0, hz0, hs0, hb0⟩ := info_parts infoTermB
  have h := run_makeSlice (P := Try.prog) w 29 31 i0 _ Try.underlying29 hi0 hz0 .i64 .i64 m m (by omega) (by omega) (by rw [hs0]; omega) (by rw [hb0]; omega) (by omega)
  rw [hs0] at h
  simp only [Int.toNat_natCast] at h
  exact h
/-- What Back answers. -/
def backK (c : CodeM) (name : ByteArray) : Tm × Int := if goodK c = true ∧ goodT (backC c name) = true then (backC c name, 0) else (zeroT, 1)
theorem backK_head {t : Tm} (hg : goodT t = true) (hk : t.k = 2) : backK (headC t) t.s = (renT 0 t, 0) ∧ alikeQ (renT 0 t) t = true := by
  have h := backCE_head hg hk
  refine ⟨?_, h.2⟩
  have h1 := h.1
  unfold backCE at h1
  unfold backK
  rw [← h1]
  by_cases hgb : goodT (backC (headC t) t.s) = true
  · rw [if_pos ⟨head_goodK hg hk, hgb⟩, if_pos ⟨head_good hg hk, hgb⟩]
  · rw [if_neg (fun e => hgb e.2), if_neg (fun e => hgb e.2)]
theorem backs_drop {l : List InsM} {i : Nat} {x : InsM} (hx : l[i]? = some x) : backsT (l.drop i) i = insT (backsT (l.drop (i + 1)) (i + 1)) i x :: backsT (l.drop (i + 1)) (i + 1) := by
  obtain ⟨hlt, rfl⟩ := List.getElem?_eq_some_iff.1 hx
  rw [List.drop_eq_getElem_cons hlt, backsT]
theorem backs_len : ∀ (l : List InsM) (i : Nat), (backsT l i).length = l.length
  | [], i => by rw [backsT]; rfl
  | x :: r, i => by rw [backsT, List.length_cons, List.length_cons, backs_len r (i + 1)]
/-- What holds as the registers are filled. -/
def BkI (w : World) (lb n : Nat) (D : Nat → Bool) (l : List InsM) (vs : List Value) (i : Nat) (wr : World) : Prop :=
  ∃ ps : List TmP, RegB wr lb n ps ∧ ps.map (·.1) = backsT (l.drop i) i ∧ (∀ p ∈ ps, TmV (hide D wr) p.1 (pVal p)) ∧ Below w.heap.size w wr ∧ Box wr (w.heap.size + 1) vs
set_option maxHeartbeats 4000000 in
set_option maxRecDepth 100000 in
theorem back_at {w : World} {c : CodeM} {v : Value} (h : CodeV w c v) (s : ByteArray) (hs : s.size ≤ BIG) :
    Calls Try.prog 13 #[v, .string s] w fun e w' => ∃ r, e = .returned (.tuple #[r, .int .i64 (backK c s).2]) ∧ TmV w' (backK c s).1 r ∧ Below w.heap.size w w' := by
  have HG := Lib.hid (fun (wq : World) (hb : Below w.heap.size w wq) => cgood_at (h.ext hb))
  obtain ⟨a, m, k, rfl, i1, i2, i3, hel, hins⟩ := h
  obtain ⟨w1, e1, B1, z1, X1⟩ := box_new w #[.int .i64 c.ar, .int .i64 c.sl, .int .i64 c.rg, .slice a m k] 25
  obtain ⟨w2, e2, B2, z2, X2⟩ := box_new w1 #[.int .i64 0, .int .i64 0, .string ⟨#[]⟩, .slice none 0 0] 31
  have X1 := X1.ext B2
  have B12 := Ext.trans' B1 B2
  rw [z1] at X2
  obtain ⟨x0, x1, x2, x3, _⟩ := X1.four
  have HE := Lib.hid (And.intro e1 e2)
  have HB2 := Lib.hid (And.intro B12 (And.intro X1 X2))
  have HIN := Lib.hid hins
  have HEL := Lib.hid hel
  have HS := Lib.hid hs
  have hz2 : w2.heap.size = w.heap.size + 2 := by omega
  have HZ2 := Lib.hid hz2
  have C := HG.out w2 B12
  obtain ⟨g, hg⟩ : ∃ g, goodK c = g := ⟨_, rfl⟩
  rw [hg] at C
  clear hins hel hs B1 B2 B12 X1 X2 z1 z2 e1 e2 HG hz2
  cases g
  · have hb : backK c s = (zeroT, 1) := by unfold backK; rw [hg, if_neg (by simp)]
    rw [hb]
    clear hb hg
    go_enter Try.func13, Try.ntmps13
    go_upto_region 1 with fail
    (try rw [HE.out.1, HE.out.2])
    (go_wp2_with fail; go_fit (C); rintro e w3 ⟨rfl, b3⟩)
    have HB3 := Lib.hid (Ext.trans' HB2.out.1 b3)
    obtain ⟨r0, r1, r2, r3, rf⟩ := (HB2.out.2.2.ext b3).four
    clear b3 C x0 x1 x2 x3
    go_wp2
    refine bodyPost_ret (v := .tuple #[.agg #[.int .i64 0, .int .i64 0, .string ⟨#[]⟩, .slice none 0 0], .int .i64 1]) (by rw [results_cell_tmp rfl]; go_simp) rfl ⟨_, rfl, zero_tm _, ?_⟩
    exact Below.set4 (b := w.heap.size + 1) HB3.out (by omega) _ _ _ _
  obtain ⟨A, S, n, hA, hS, hn, hln, hA8, hAn, hSn, hn2, hfacts⟩ := goodK_facts hg
  obtain ⟨hm, hmk, hkm⟩ := ins_len HEL.out
  unfold maxLen at hkm
  rw [hln] at hm
  have hm' : n = m := hm.symm
  subst hm'
  rw [hA] at x0 HE HB2 C ⊢
  rw [hn] at x2 HE HB2 C ⊢
  have HF := Lib.hid hfacts
  have HLN := Lib.hid hln
  have HMK := make_regs n (by omega)
  obtain ⟨gb, hgb⟩ : ∃ gb, goodT (backC c s) = gb := ⟨_, rfl⟩
  have hbk : backK c s = if gb = true then (backC c s, 0) else (zeroT, 1) := by
    unfold backK
    rw [hg, hgb]
    simp
  rw [hbk]
  have HGB := Lib.hid hgb
  have HA := Lib.hid hA
  clear hbk hgb hg hfacts hln hS hn i1 i2 i3 hA
  go_enter Try.func13, Try.ntmps13
  go_upto_region 1 with fail
  (try rw [HE.out.1, HE.out.2])
  (go_wp2_with fail; go_fit (C); rintro e w3 ⟨rfl, b3⟩)
  have hb3 := Ext.trans' HB2.out.1 b3
  have HB3 := Lib.hid (And.intro hb3 (And.intro (HB2.out.2.1.ext b3) (HB2.out.2.2.ext b3)))
  obtain ⟨x0, x1, x2, x3, _⟩ := HB3.out.2.1.four
  have hsz3 : w.heap.size + 2 ≤ w3.heap.size := by have := b3.size; have := HZ2.out; omega
  have HK3 := HMK w3
  obtain ⟨w4, e4⟩ : ∃ w4, w3.alloc (.cells (madeCells #[.int .i64 0, .int .i64 0, .string ⟨#[]⟩, .slice none 0 0] (n * 4)) 31) = w4 := ⟨_, rfl⟩
  have hR4 : RegB w4 w3.heap.size n [] := by rw [← e4]; exact RegB.new w3 n _
  have b4 : Below w3.heap.size w3 w4 := by rw [← e4]; exact bel1' _ _
  obtain ⟨lb, hlb⟩ : ∃ lb, w3.heap.size = lb := ⟨_, rfl⟩
  rw [hlb] at HK3 hR4
  rw [e4] at HK3
  have HLB := Lib.hid hlb
  obtain ⟨D, hD⟩ : ∃ D : Nat → Bool, D = fun k => decide (k = lb) || decide (k = w.heap.size + 1) := ⟨_, rfl⟩
  have HD := Lib.hid (show D lb = true ∧ D (w.heap.size + 1) = true ∧ ∀ k, w4.heap.size ≤ k → D k = false from ⟨by rw [hD]; simp, by rw [hD]; simp, fun k hk => by have h1 := hR4.lt; have h2 := HB3.out.2.2.lt; have h3 := b4.size; rw [hD]; simp; omega⟩)
  have HI0 := Lib.hid (show BkI w lb n D c.l [.int .i64 0, .int .i64 0, .string ⟨#[]⟩, .slice none 0 0] n w4 ∧ Below w3.heap.size w3 w4 ∧ w4.heap.size ≤ w4.heap.size from
    ⟨⟨[], hR4, by rw [List.drop_eq_nil_of_le (by rw [HLN.out]; exact Nat.le_refl _), backsT]; rfl, by simp, Ext.trans' hb3 b4, HB3.out.2.2.ext b4⟩, b4, Nat.le_refl _⟩)
  have HC4 := Lib.hid (fun (wq : World) (hb : Below w3.heap.size w3 wq) => HB3.out.2.1.ext hb)
  have hlbw : w.heap.size + 2 ≤ lb := by omega
  have HD2 := Lib.hid (show w.heap.size + 1 ≠ lb by omega)
  have BSET := Lib.hid (fun (wq : World) (hb : Below w.heap.size w wq) (o : Nat) (u0 u1 u2 u3 : Value) => (show Below w.heap.size w (setAt wq lb o u0 u1 u2 u3) from
    hb.trans (((((touch_one wq lb o u0).trans (touch_one _ lb (o + 1) u1) (fun k hk => Or.inl hk)).trans (touch_one _ lb (o + 2) u2) (fun k hk => Or.inl hk)).trans (touch_one _ lb (o + 3) u3) (fun k hk => Or.inl hk)).below hb.size (fun k hk => by simp at hk; omega))))
  have BSET3 := Lib.hid (fun (wq : World) (hb : Below w3.heap.size w3 wq) (o : Nat) (u0 u1 u2 u3 : Value) => (show Below w3.heap.size w3 (setAt wq lb o u0 u1 u2 u3) from
    hb.trans (((((touch_one wq lb o u0).trans (touch_one _ lb (o + 1) u1) (fun k hk => Or.inl hk)).trans (touch_one _ lb (o + 2) u2) (fun k hk => Or.inl hk)).trans (touch_one _ lb (o + 3) u3) (fun k hk => Or.inl hk)).below hb.size (fun k hk => by simp at hk; omega))))
  have b4' := b4
  clear b3 C hb3 hR4 b4 e4 HMK
  clear x0 x1 x3 hlb
  obtain ⟨y0, y1, y2, y3, _⟩ := (HC4.out _ b4').four
  go_wp2_with fail
  clear x2 y0 y1 y2 y3
  go_loopw [7] (fun v wr => ∃ i : Nat, i ≤ n ∧ v = .int .i64 ((i : Int) - 1) ∧ Hid (BkI w lb n D c.l [.int .i64 0, .int .i64 0, .string ⟨#[]⟩, .slice none 0 0] i wr ∧ Below w3.heap.size w3 wr ∧ w4.heap.size ≤ wr.heap.size)) (fun v _ => (intOf v + 1).toNat)
  case atStart => exact ⟨n, Nat.le_refl _, by go_num, HI0⟩
  case round =>
    obtain ⟨i, hi, rfl, HI⟩ := hrel
    obtain ⟨⟨ps, hreg, hmap, hpa, hbw, hbx⟩, hb3, hsz⟩ := HI.out
    have hpl : ps.length = n - i := by
      have := congrArg List.length hmap
      rw [List.length_map, backs_len, List.length_drop, HLN.out] at this
      exact this
    obtain ⟨y0, y1, y2, y3, _⟩ := (HC4.out _ hb3).four
    cases i with
    | zero =>
      obtain ⟨z, hz⟩ : ∃ z : Int, (((0 : Nat) : Int) - 1) = z := ⟨_, rfl⟩
      have hz2 : z < 0 := by omega
      rw [hz]
      have hfl := flat_done hreg (C := 0) (B := A) (by omega) (by omega)
      rw [Nat.zero_sub, List.drop_zero, Nat.zero_mul] at hfl
      have hqm : ∀ p ∈ ps.take A, p ∈ ps := fun p hp => List.mem_of_mem_take hp
      have C := comp_src (c := n) (ps.take A) s HS.out (fun k hk => HD.out.2.2 k (Nat.le_trans hsz hk)) (by rw [List.length_take]; omega : (ps.take A).length = A) (by unfold BIG; omega) (fun p hp => hpa p (hqm p hp)) (Or.inr ⟨⟨lb, 0, none⟩, rfl, hfl⟩)
      have hT : nameT s ((ps.take A).map (·.1)) = backC c s := by
        unfold backC
        rw [List.map_take, hmap, List.drop_zero, HA.out, Int.toNat_natCast]
      rw [hT] at C
      have HBW := Lib.hid (And.intro hbw hbx)
      clear hz hfl hqm hT hreg hmap hpa hbw hbx HI hpl hi
      (go_wp2_with fail; go_fit (C); rintro e w6 ⟨v6, rfl, ht6, b6⟩)
      obtain ⟨k6, n6, s6, a6, m6, c6, rfl, f1, f2, f3, f4⟩ := four_of ht6
      obtain ⟨w7, e7, b7, z7, X7⟩ := box_new w6 #[.int .i64 0, .int .i64 0, .string ⟨#[]⟩, .slice none 0 0] 31
      have X8 := (((X7.set (k := 0) (u := .int .i64 k6) (by simp)).set (k := 1) (u := .int .i64 n6) (by simp)).set (k := 2) (u := .string s6) (by simp)).set (k := 3) (u := .slice a6 m6 c6) (by simp)
      have b8 : Below w6.heap.size w6 (set4 w7 w6.heap.size (.int .i64 k6) (.int .i64 n6) (.string s6) (.slice a6 m6 c6)) := Below.set4 b7 (Nat.le_refl _) _ _ _ _
      have X8' : Box (set4 w7 w6.heap.size (.int .i64 k6) (.int .i64 n6) (.string s6) (.slice a6 m6 c6)) w6.heap.size [.int .i64 k6, .int .i64 n6, .string s6, .slice a6 m6 c6] := X8
      obtain ⟨r0, r1, r2, r3, rf⟩ := X7.four
      obtain ⟨w8, hw8⟩ : ∃ w8, set4 w7 w6.heap.size (.int .i64 k6) (.int .i64 n6) (.string s6) (.slice a6 m6 c6) = w8 := ⟨_, rfl⟩
      rw [hw8] at b8 X8'
      unfold Go.Proofs.Ytannchfoldnhcaa.set4 Go.Proofs.Ytannchfoldnhcaa.set3 at hw8
      clear X8 f1 f2 f3 f4 C y0 y1 y2 y3
      go_upto_region 9 with fail
      (try rw [e7])
      (try rw [hw8])
      have hb68 := Ext.trans' b6 b8
      have HB8 := Lib.hid (And.intro (Ext.trans' HBW.out.1 hb68) (And.intro (HBW.out.2.ext hb68) (TmV.later b8 ht6)))
      obtain ⟨y0, y1, y2, y3, _⟩ := X8'.four
      have C := Good_at (backC c s) w8 _ HB8.out.2.2.bare
      rw [HGB.out] at C
      clear r0 r1 r2 r3 rf hw8 X8' X7 b7 z7 e7 b8 hb68 ht6 b6
      (go_wp2_with fail; go_fit (C); rintro e w9 ⟨rfl, b9⟩)
      have HB9 := Lib.hid (And.intro (Ext.trans' HB8.out.1 b9) (TmV.later b9 HB8.out.2.2))
      obtain ⟨r0, r1, r2, r3, rf⟩ := (HB8.out.2.1.ext b9).four
      replace y0 := cell_later b9 y0
      replace y1 := cell_later b9 y1
      replace y2 := cell_later b9 y2
      replace y3 := cell_later b9 y3
      clear b9 C
      cases gb
      · go_wp2
        refine bodyPost_ret (v := .tuple #[.agg #[.int .i64 0, .int .i64 0, .string ⟨#[]⟩, .slice none 0 0], .int .i64 1]) (by rw [results_cell_tmp rfl]; go_simp) rfl ⟨_, rfl, zero_tm _, ?_⟩
        exact Below.set4 (b := w.heap.size + 1) HB9.out.1 (by omega) _ _ _ _
      · go_wp2
        refine bodyPost_ret (v := .tuple #[.agg #[.int .i64 k6, .int .i64 n6, .string s6, .slice a6 m6 c6], .int .i64 0]) (by rw [results_cell_tmp rfl]; go_simp) rfl ⟨_, rfl, ?_, ?_⟩
        · exact TmV.bare (D := D) (TmV.stay ((((Stays.set _ _ HD.out.2.1).trans (Stays.set _ _ HD.out.2.1)).trans (Stays.set _ _ HD.out.2.1)).trans (Stays.set _ _ HD.out.2.1)) _ _ HB9.out.2)
        · exact Below.set4 (b := w.heap.size + 1) HB9.out.1 (by omega) _ _ _ _
    | succ j =>
      obtain ⟨x, hx⟩ : ∃ x, c.l[j]? = some x := ⟨_, List.getElem?_eq_getElem (by rw [HLN.out]; omega)⟩
      obtain ⟨b, off, rfl, hbb, d0, d1, d2, d3, d4, d5⟩ := ins_get (HEL.out.ext hbw) hx
      have hin := HIN.out x (List.mem_of_getElem? hx)
      have C := made_at hreg hn2 (fun k hk => HD.out.2.2 k (Nat.le_trans hsz hk)) hpa (i := j) (by omega) x hin (HF.out j x hx).1 (HF.out j x hx).2
      have hvj : (((j + 1 : Nat) : Int) - 1) = (j : Int) := by omega
      rw [hvj]
      have HRG := Lib.hid (And.intro hreg (And.intro hmap (And.intro hpa (And.intro hbw hbx))))
      have HBK := Lib.hid (backs_drop hx)
      rw [← hmap] at HBK
      obtain ⟨T, hT⟩ : ∃ T, insT (ps.map (·.1)) j x = T := ⟨_, rfl⟩
      unfold MadeP insVal at C
      rw [hT] at C HBK
      have HB3W := Lib.hid (And.intro hb3 hsz)
      have hjn : j < n := by omega
      have hpl2 := Lib.hid (show j + ps.length + 1 = n by omega)
      have hrest := hreg.rest j (by omega)
      have hrf := hreg.fz
      clear hT hx hin hreg hmap hpa hbw hbx hb3 hvj hpl hsz HI hbb
      go_upto_region 7 with fail
      (go_wp2_with fail; go_fit (C); rintro e w5 ⟨v5, rfl, ht5, b5⟩)
      obtain ⟨k5, n5, s5, a5, m5, c5, rfl, f1, f2, f3, f4⟩ := four_of ht5
      have hpc : ∃ u, pCells (T, u) = [.int .i64 k5, .int .i64 n5, .string s5, .slice a5 m5 c5] ∧ pVal (T, u) = .agg #[.int .i64 k5, .int .i64 n5, .string s5, .slice a5 m5 c5] := ⟨.slice a5 m5 c5, by unfold pCells; rw [f1, f2, f3], f4.symm⟩
      have HPC := Lib.hid hpc
      have HT5 := Lib.hid ht5
      have HB5 := Lib.hid b5
      have r0 := cell_later b5 hrest.1
      have r1 := cell_later b5 hrest.2.1
      have r2 := cell_later b5 hrest.2.2.1
      have r3 := cell_later b5 hrest.2.2.2
      have hreg5 := Lib.hid (HRG.out.1.later b5)
      have rf := hreg5.out.fz
      clear hrest hrf f1 f2 f3 f4 hpc ht5 b5 C d0 d1 d2 d3 d4 d5 y0 y1 y2 y3
      go_wp2
      go_roundw
      case rel =>
        obtain ⟨u, hu1, hu2⟩ := HPC.out
        refine ⟨j, by omega, rfl, Lib.hid ⟨⟨(T, u) :: ps, hreg5.out.put hpl2.out hu1, by rw [List.map_cons, HBK.out], ?_, ?_, ?_⟩, ?_, ?_⟩⟩
        · intro p hp
          have hst : Stays (hide D wr) (hide D (setAt w5 lb (j * 4) (.int .i64 k5) (.int .i64 n5) (.string s5) (.slice a5 m5 c5))) :=
            (Stays.below HB5.out (fun _ _ h => h)).trans ((((Stays.set _ _ HD.out.1).trans (Stays.set _ _ HD.out.1)).trans (Stays.set _ _ HD.out.1)).trans (Stays.set _ _ HD.out.1))
          rcases List.mem_cons.1 hp with rfl | hp
          · rw [hu2]
            exact TmV.stay ((((Stays.set _ _ HD.out.1).trans (Stays.set _ _ HD.out.1)).trans (Stays.set _ _ HD.out.1)).trans (Stays.set _ _ HD.out.1)) _ _ HT5.out
          · exact TmV.stay hst _ _ (HRG.out.2.2.1 p hp)
        · exact BSET.out _ (Ext.trans' HRG.out.2.2.2.1 HB5.out) _ _ _ _ _
        · exact ((((HRG.out.2.2.2.2.ext HB5.out).far HD2.out).far HD2.out).far HD2.out).far HD2.out
        · exact BSET3.out _ (Ext.trans' HB3W.out.1 HB5.out) _ _ _ _ _
        · have h1 := HB5.out.size
          have h2 := HB3W.out.2
          simp only [World.setCell, Array.size_modify]
          omega
      case measure => first | (simp [intOf]; done) | (simp [intOf]; omega)
end Go.Proofs.Ytannchfoldnhcaa
/- Package code: what makes steps: its map of slots, its state; variable. -/
namespace Go.Proofs.Ytannchfoldnhcaa
open Go.RowKit Go.Maps
set_option linter.unusedVariables false

theorem pos_appC {n : Int} (m : List Int) : ∀ {l : List Int}, n ∈ l → posI (l ++ m) n = posI l n
  | x :: r, h => by
    rw [List.cons_append, posI, posI]
    by_cases e : x = n
    · rw [if_pos e, if_pos e]
    · rw [if_neg e, if_neg e, pos_appC m (by
        rcases List.mem_cons.1 h with h | h
        · exact absurd h.symm e
        · exact h)]
theorem pos_newC {n : Int} : ∀ {l : List Int}, ¬ n ∈ l → posI (l ++ [n]) n = l.length
  | [], _ => by simp [posI]
  | x :: r, h => by
    rw [List.cons_append, posI, if_neg (fun e => h (by simp [e])), pos_newC (fun q => h (by simp [q]))]
    rfl
/-- Each of l has its place in l. -/
def SlotM (w : World) (mb : Nat) (l : List Int) : Prop := ∃ D : DataW Unit, w.ownsMap Try.prog 2 (plainElem Try.prog 3) mb l.length D ∧ Tidy D ∧ (∀ v, Maps.has D (.int .i64 v) = true ↔ v ∈ l) ∧ (∀ v, v ∈ l → ∀ z, D.atKey (.int .i64 v) z = .lit (.int .i64 (posI l v : Int))) ∧ Maps.size D = l.length
theorem SlotM.nil (w : World) : SlotM (w.alloc (.map #[] 0)) w.heap.size [] := ⟨.map [], World.ownsMap_made w _ _ _, tidy_empty, fun v => by simp [Maps.has], fun v h => (by cases h), rfl⟩
theorem SlotM.block {w w' : World} {mb : Nat} {l : List Int} (h : SlotM w mb l) (e : w'.heap[mb]? = w.heap[mb]?) : SlotM w' mb l := by
  obtain ⟨D, ⟨es, clock, h1, h2⟩, q⟩ := h
  exact ⟨D, ⟨es, clock, e.trans h1, h2⟩, q⟩
theorem SlotM.lt {w : World} {mb : Nat} {l : List Int} (h : SlotM w mb l) : mb < w.heap.size := by
  obtain ⟨D, q1, _⟩ := h
  exact q1.lt
theorem SlotM.ext {w w' : World} {mb : Nat} {l : List Int} (h : SlotM w mb l) (b : Below w.heap.size w w') : SlotM w' mb l := h.block (b.block mb h.lt)
theorem SlotM.look {w : World} {mb : Nat} {l : List Int} (h : SlotM w mb l) {n : Int} (hn : I64 n) (hm : n ∈ l) : (Instr.lookup 75 (.map (some mb)) (.int .i64 n) false).run Try.prog w = .ok (.int .i64 (posI l n : Int)) w := by
  obtain ⟨D, q1, q2, q3, q4, q5⟩ := h
  obtain ⟨c, hrun, hat, hw⟩ := q1.lookup_int lKeyed Try.underlying75 Try.underlying3 (by kernel_rfl) (lKey hn)
  rw [q4 n hm] at hat
  cases hat
  exact hrun
theorem SlotM.store {w : World} {mb : Nat} {l : List Int} (h : SlotM w mb l) {n : Int} (hn : I64 n) (hl : l.length < 100000) (hm : ¬ n ∈ l) :
    ∃ w', (Instr.mapUpdate 75 (.map (some mb)) (.int .i64 n) (.int .i64 (l.length : Nat))).run Try.prog w = .ok () w' ∧ SlotM w' mb (l ++ [n]) ∧ Touch [mb] w w' := by
  obtain ⟨D, q1, q2, q3, q4, q5⟩ := h
  have hno : Maps.has D (.int .i64 n) = false := by
    cases hh : Maps.has D (.int .i64 n)
    · rfl
    · exact absurd ((q3 n).1 hh) hm
  have hzz : I64 ((l.length : Nat) : Int) := by unfold I64; omega
  obtain ⟨w', hrun, ho, ht⟩ := q1.store lKeyed Try.underlying75 (by unfold maxLen; omega) (lKey hn) (plainElem_int Try.underlying3 (wf_i64 hzz))
  refine ⟨w', hrun, ⟨_, by rw [List.length_append]; exact ho, q2.put (by trivial) _, fun u => ?_, fun u hu y => ?_, by rw [size_put q2, hno, q5, List.length_append]; rfl⟩, ?_⟩
  · by_cases e : u = n
    · subst e
      rw [has_put_same q2.isMap (by trivial)]
      simp
    · rw [has_put_other (fun e' => e (by injection e')), q3 u]
      simp [e]
  · by_cases e : u = n
    · subst e
      rw [atKey_put_same q2.isMap (by trivial), pos_newC hm]
    · have hul : u ∈ l := by simpa [e] using hu
      rw [atKey_put_other (fun e' => e (by injection e')), q4 u hul y, pos_appC _ hul]
  · obtain ⟨g1, g2, g3, g4, g5⟩ := ht.grown
    exact ⟨g1, g2, g3, g4, fun k hk hne => g5 k hk (fun e => hne (by simp at e; simp [e]))⟩
/-- How many there are. -/
theorem SlotM.count {w : World} {mb : Nat} {l : List Int} (h : SlotM w mb l) (ty : TypeId) : (Builtin.len_ #[75] ty #[.map (some mb)]).run Try.prog w = .ok (.int .i64 (l.length : Nat)) w := by
  obtain ⟨D, q1, q2, q3, q4, q5⟩ := h
  rw [← q5]
  exact q1.len Try.underlying75 ty
/-- What makes steps, in memory. -/
structure MkS (B : Nat) (w : World) (mb qb sb S : Nat) (vs : List Int) (vr : Value) (ps : List TmP) (seen : List Int) : Prop where
  box : Box w mb [vr, .map (some qb), .slice (some ⟨sb, 0, none⟩) S S]
  row : RowP w B 31 vr ps
  map : SlotM w qb vs
  bits : ∀ n, n ∈ vs → w.cell? ⟨sb, posI vs n, none⟩ = some (.bool (seen.contains n))
  fz : ∀ j, w.frozen? ⟨sb, j, none⟩ = false
  lt : sb < w.heap.size
  apart : mb ≠ qb ∧ mb ≠ sb ∧ qb ≠ sb ∧ vr.ownBlock ≠ some mb ∧ vr.ownBlock ≠ some qb ∧ vr.ownBlock ≠ some sb
  size : vs.length = S ∧ S ≤ 2000
  own : B ≤ mb ∧ B ≤ qb ∧ B ≤ sb
section
variable {B : Nat} {w w' : World} {mb qb sb S : Nat} {vs : List Int} {vr : Value} {ps : List TmP} {seen : List Int}
theorem RowP.keep {w w' : World} {base : Nat} {ty : TypeId} {v : Value} {ps : List TmP} (h : RowP w base ty v ps) (hb : ∀ k, v.ownBlock = some k → w'.heap[k]? = w.heap[k]?) : RowP w' base ty v ps := owns_row_block h hb
theorem MkS.touch (h : MkS B w mb qb sb S vs vr ps seen) {F : List Nat} (t : Touch F w w') (h1 : ¬ mb ∈ F) (h2 : ¬ qb ∈ F) (h3 : ¬ sb ∈ F) (h4 : ∀ k, vr.ownBlock = some k → ¬ k ∈ F) : MkS B w' mb qb sb S vs vr ps seen :=
  ⟨t.box h1 h.box, h.row.keep (fun k hk => t.block k (h.row.lt k hk).2 (h4 k hk)), h.map.block (t.block _ h.map.lt h2), fun n hn => t.cell h3 (h.bits n hn),
    fun j => by rw [World.frozen?_of_block (t.block sb h.lt h3)]; exact h.fz j, Nat.lt_of_lt_of_le h.lt t.size, h.apart, h.size, h.own⟩
theorem MkS.ext (h : MkS B w mb qb sb S vs vr ps seen) (hb : Below w.heap.size w w') : MkS B w' mb qb sb S vs vr ps seen := h.touch (Touch.of_below hb []) (by simp) (by simp) (by simp) (by simp)
def varIns (seen : List Int) (n : Int) (reg slot : Int) : InsM := ⟨if seen.contains n then opVal else opVar, reg, slot, 0, 0, ⟨#[]⟩⟩
def seenN (seen : List Int) (n : Int) : List Int := if seen.contains n then seen else seen ++ [n]
/-- What variable leaves. -/
def VarP (B : Nat) (w : World) (mb qb sb S : Nat) (vs : List Int) (vr : Value) (ps : List TmP) (seen : List Int) (n reg : Int) (e : Ending) (w' : World) : Prop :=
  e = .returned (insVal (varIns seen n reg (posI vs n : Int))) ∧ MkS B w' mb qb sb S vs vr ps (seenN seen n) ∧ Touch [sb] w w'
theorem set6_touch (w : World) (b : Nat) (u0 u1 u2 u3 u4 u5 : Value) : Touch [b] w ((((((w.setCell ⟨b, 0, none⟩ u0).setCell ⟨b, 1, none⟩ u1).setCell ⟨b, 2, none⟩ u2).setCell ⟨b, 3, none⟩ u3).setCell ⟨b, 4, none⟩ u4).setCell ⟨b, 5, none⟩ u5) :=
  ((((((touch_one w b 0 u0).trans (touch_one _ b 1 u1) (fun k hk => Or.inl hk)).trans (touch_one _ b 2 u2) (fun k hk => Or.inl hk)).trans (touch_one _ b 3 u3) (fun k hk => Or.inl hk)).trans (touch_one _ b 4 u4) (fun k hk => Or.inl hk)).trans (touch_one _ b 5 u5) (fun k hk => Or.inl hk))
theorem MkS.lts (h : MkS B w mb qb sb S vs vr ps seen) : mb < w.heap.size ∧ qb < w.heap.size ∧ sb < w.heap.size ∧ ∀ k, vr.ownBlock = some k → k < w.heap.size := ⟨h.box.lt, h.map.lt, h.lt, fun k hk => (h.row.lt k hk).2⟩
/-- A step's cells in a new block. -/
theorem MkS.six (h : MkS B w mb qb sb S vs vr ps seen) {w0 : World} {b : Nat} (hw0 : w0.heap.size ≤ b) (hmb : mb < w0.heap.size) (hqb : qb < w0.heap.size) (hsb : sb < w0.heap.size) (hr : ∀ k, vr.ownBlock = some k → k ≠ b) (u0 u1 u2 u3 u4 u5 : Value) :
    MkS B ((((((w.setCell ⟨b, 0, none⟩ u0).setCell ⟨b, 1, none⟩ u1).setCell ⟨b, 2, none⟩ u2).setCell ⟨b, 3, none⟩ u3).setCell ⟨b, 4, none⟩ u4).setCell ⟨b, 5, none⟩ u5) mb qb sb S vs vr ps seen :=
  h.touch (set6_touch w b u0 u1 u2 u3 u4 u5) (by simp; omega) (by simp; omega) (by simp; omega) (fun k hk => by simp; exact hr k hk)
set_option maxHeartbeats 1000000 in
theorem variable_at (h : MkS B w mb qb sb S vs vr ps seen) {n reg : Int} (hn : n ∈ vs) : Calls Try.prog 59 #[.pointer (some ⟨mb, 0, none⟩), .int .i64 reg, .int .i64 (posI vs n : Int)] w (VarP B w mb qb sb S vs vr ps seen n reg) := by
  obtain ⟨w1, e1, B1, z1, X1⟩ := box_new w #[.string ⟨#[]⟩, .int .i64 0, .int .i64 0, .int .i64 0, .int .i64 0, .string ⟨#[]⟩] 36
  have h1 := h.ext B1
  obtain ⟨c0, c1, c2, cf⟩ := h1.box.three
  have hbit := h1.bits n hn
  have hfz := h1.fz
  have hlt := pos_lt hn
  rw [h.size.1] at hlt
  have hS := h.size.2
  have hl := h.lts
  obtain ⟨j, hj⟩ : ∃ j, posI vs n = j := ⟨_, rfl⟩
  have HJ := Lib.hid hj
  obtain ⟨z, hz⟩ : ∃ z, seen.contains n = z := ⟨_, rfl⟩
  have HZ := Lib.hid hz
  unfold VarP
  rw [hj] at hbit hlt ⊢
  rw [hz] at hbit
  have H1 := Lib.hid (And.intro h1 (And.intro X1 B1))
  have HE := Lib.hid e1
  have HL := Lib.hid hl
  have HN := Lib.hid hn
  have y0 := X1.cells 0 _ rfl
  have y1 := X1.cells 1 _ rfl
  have y2 := X1.cells 2 _ rfl
  have y3 := X1.cells 3 _ rfl
  have y4 := X1.cells 4 _ rfl
  have y5 := X1.cells 5 _ rfl
  have yf := X1.fz
  clear h h1 X1 B1 e1 z1 hl hj hz hn
  cases z
  · have hv : varIns seen n reg (j : Int) = ⟨opVar, reg, (j : Int), 0, 0, ⟨#[]⟩⟩ := by unfold varIns; rw [HZ.out]; rfl
    have hs : seenN seen n = seen ++ [n] := by unfold seenN; rw [HZ.out]; rfl
    rw [hv, hs]
    have hne : w.heap.size ≠ sb := by have := HL.out.2.2.1; omega
    have y0' : (w1.setCell ⟨sb, j, none⟩ (.bool true)).cell? ⟨w.heap.size, 0, none⟩ = some (.string ⟨#[]⟩) := (far_cell hne).trans y0
    have y1' : (w1.setCell ⟨sb, j, none⟩ (.bool true)).cell? ⟨w.heap.size, 1, none⟩ = some (.int .i64 0) := (far_cell hne).trans y1
    have y2' : (w1.setCell ⟨sb, j, none⟩ (.bool true)).cell? ⟨w.heap.size, 2, none⟩ = some (.int .i64 0) := (far_cell hne).trans y2
    have y3' : (w1.setCell ⟨sb, j, none⟩ (.bool true)).cell? ⟨w.heap.size, 3, none⟩ = some (.int .i64 0) := (far_cell hne).trans y3
    have y4' : (w1.setCell ⟨sb, j, none⟩ (.bool true)).cell? ⟨w.heap.size, 4, none⟩ = some (.int .i64 0) := (far_cell hne).trans y4
    have y5' : (w1.setCell ⟨sb, j, none⟩ (.bool true)).cell? ⟨w.heap.size, 5, none⟩ = some (.string ⟨#[]⟩) := (far_cell hne).trans y5
    have HHB := Lib.hid hbit
    clear hv hs
    go_enter Try.func59, Try.ntmps59
    go_upto_region 1 with fail
    (try rw [HE.out])
    go_wp2
    unfold insVal opVar
    refine bodyPost_ret (v := .agg #[.string ⟨#[118, 97, 114]⟩, .int .i64 reg, .int .i64 j, .int .i64 0, .int .i64 0, .string ⟨#[]⟩]) (by rw [results_cell1 rfl]; go_simp) rfl ⟨rfl, ?_, ?_⟩
    · have hx := H1.out.1
      have hm2 : MkS B (w1.setCell ⟨sb, j, none⟩ (.bool true)) mb qb sb S vs vr ps (seen ++ [n]) := by
        have t := touch_one w1 sb j (.bool true)
        have a := hx.apart
        refine ⟨t.box (by simp; exact a.2.1) hx.box, hx.row.keep (fun k hk => t.block k (hx.row.lt k hk).2 (by simp; exact fun e => a.2.2.2.2.2 (by rw [hk, e]))), hx.map.block (t.block _ hx.map.lt (by simp; exact a.2.2.1)), fun m hm => ?_, fun i => by rw [World.frozen?_setCell]; exact hx.fz i, Nat.lt_of_lt_of_le hx.lt t.size, a, hx.size, hx.own⟩
        by_cases e : m = n
        · subst e
          rw [HJ.out, contains_app, show (m == m) = true by simp, Bool.or_true]
          exact css HHB.out
        · have hp : posI vs m ≠ j := fun q => e (pos_inj hm HN.out (by rw [q, HJ.out]))
          rw [near_cell hp, contains_app, show (m == n) = false by simpa using e, Bool.or_false]
          exact hx.bits m hm
      exact hm2.six (w0 := w) (Nat.le_refl _) HL.out.1 HL.out.2.1 HL.out.2.2.1 (fun k hk => by have := HL.out.2.2.2 k hk; omega) _ _ _ _ _ _
    · exact ((Touch.of_below H1.out.2.2 [sb]).trans (touch_one w1 sb j _) (fun k hk => Or.inl hk)).trans (set6_touch _ w.heap.size _ _ _ _ _ _) (fun k hk => by simp at hk; exact Or.inr (by omega))
  · have hv : varIns seen n reg (j : Int) = ⟨opVal, reg, (j : Int), 0, 0, ⟨#[]⟩⟩ := by unfold varIns; rw [HZ.out]; rfl
    have hs : seenN seen n = seen := by unfold seenN; rw [HZ.out]; rfl
    rw [hv, hs]
    clear hv hs
    go_enter Try.func59, Try.ntmps59
    go_upto_region 1 with fail
    (try rw [HE.out])
    go_wp2
    unfold insVal opVal
    refine bodyPost_ret (v := .agg #[.string ⟨#[118, 97, 108]⟩, .int .i64 reg, .int .i64 j, .int .i64 0, .int .i64 0, .string ⟨#[]⟩]) (by rw [results_cell1 rfl]; go_simp) rfl ⟨rfl, ?_, ?_⟩
    · exact H1.out.1.six (w0 := w) (Nat.le_refl _) HL.out.1 HL.out.2.1 HL.out.2.2.1 (fun k hk => by have := HL.out.2.2.2 k hk; omega) _ _ _ _ _ _
    · exact (Touch.of_below H1.out.2.2 [sb]).trans (set6_touch _ w.heap.size _ _ _ _ _ _) (fun k hk => by simp at hk; exact Or.inr (by omega))
end
end Go.Proofs.Ytannchfoldnhcaa
