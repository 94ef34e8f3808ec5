/- Package term: Depth, over memory of which the terms' blocks bear no mark. -/
import Derived.Test.YthikbenfhaglkaaTnH
import Derived.Test.YthikbenfhaglkaaPMap
namespace Go.Proofs.Ythikbenfhaglkaa
open Go.RowKit
set_option linter.unusedVariables false

def unmB (W : World) (k : Nat) : Bool := match W.heap[k]? with | some (.cells _ _ (0, 0)) => true | _ => false
theorem unmB_iff {W : World} {k : Nat} : unmB W k = true ↔ Plain W k := by
  unfold unmB Plain
  constructor
  · intro h
    split at h
    · rename_i c t e; exact ⟨c, t, e⟩
    · cases h
  · rintro ⟨c, t, e⟩
    rw [e]
    rfl
/-- Hidden: these, and whatever is not plain. -/
def npl (E : Nat → Bool) (W : World) : Nat → Bool := fun k => E k || !unmB W k
theorem npl_no {E : Nat → Bool} {W : World} {k : Nat} (h : npl E W k = false) : E k = false ∧ Plain W k := by
  unfold npl at h
  rw [Bool.or_eq_false_iff] at h
  exact ⟨h.1, unmB_iff.1 (by simpa using h.2)⟩
theorem npl_of {E : Nat → Bool} {W : World} {k : Nat} (h1 : E k = false) (h2 : Plain W k) : npl E W k = false := by
  unfold npl
  rw [h1, unmB_iff.2 h2]
  rfl
def noB : Nat → Bool := fun _ => false
/-- Read from plain blocks alone, none of these. -/
def TmQ (E : Nat → Bool) (W : World) (x : Tm) (v : Value) : Prop := TmV (hide (npl E W) W) x v
theorem TmQ.later {E : Nat → Bool} {W W' : World} {x : Tm} {v : Value} (h : TmQ E W x v) (hb : Below W.heap.size W W') : TmQ E W' x v :=
  TmV.stay (Stays.below hb fun k hk hd => npl_of (npl_no hd).1 ((npl_no hd).2.below hb)) x v h
theorem TmQ.bare {E : Nat → Bool} {W : World} {x : Tm} {v : Value} (h : TmQ E W x v) : TmV W x v := TmV.stay (Stays.unhide _ W) x v h
theorem TmQ.hid {E : Nat → Bool} {W : World} {x : Tm} {v : Value} (h : TmQ E W x v) : TmV (hide E W) x v := TmV.stay (Stays.less fun k hk => (npl_no hk).1) x v h
theorem TmQ.less {E E' : Nat → Bool} {W : World} {x : Tm} {v : Value} (h : TmQ E W x v) (he : ∀ k, E k = false → E' k = false) : TmQ E' W x v := TmV.stay (Stays.less fun k hk => npl_of (he k (npl_no hk).1) (npl_no hk).2) x v h
theorem leaf_q (E : Nat → Bool) (w : World) {k n : Int} {s : ByteArray} (hk : I64 k) (hn : I64 n) (hs : s.size ≤ BIG) : TmQ E w (.mk k n s []) (.agg #[.int .i64 k, .int .i64 n, .string s, .slice none 0 0]) := leaf_tm _ hk hn hs
theorem comp_q {E : Nat → Bool} {w : World} {ao : Option Addr} {m c : Nat} (ps : List TmP) (s : ByteArray) (hs : s.size ≤ BIG) (hE : Old E w) (hpa : ∀ p ∈ ps, TmQ E w p.1 (pVal p)) (hpl : ps.length = m) (hbig : m * 56 ≤ BIG)
    (hsrc : m = 0 ∨ ∃ ad, ao = some ad ∧ ∀ j u, (ps.flatMap pCells)[j]? = some u → w.cell? (ad.add j) = some u) :
    Calls Try.prog 8 #[.string s, .slice ao m c] w fun e w' => ∃ a c', e = .returned (.agg #[.int .i64 2, .int .i64 0, .string s, .slice a m c']) ∧ TmQ E w' (.mk 2 0 s (ps.map (·.1))) (.agg #[.int .i64 2, .int .i64 0, .string s, .slice a m c']) ∧ Below w.heap.size w w' := by
  refine (comp_ps (c := c) ps s hpl hbig (pCells_one ps (fun p hp => (hpa p hp).bare)) hsrc).mono ?_
  rintro e w' ⟨a, c', rfl, hR, hB⟩
  refine ⟨a, c', rfl, ?_, hB⟩
  have hT := (hR.hide (D := npl E w') (fun k hk hc => by
    obtain ⟨cur, hc⟩ := hc
    exact npl_of (hE k (by omega)) ⟨cur, _, hc⟩)).terms (fun p hp => (hpa p hp).later hB) (by rw [hpl]; exact hbig)
  exact tmV_iff.2 ⟨_, rfl, hs, i64_2, i64_0, hT⟩
mutual
theorem TmV.same {w : World} : ∀ (x y : Tm) (v : Value), TmV w x v → TmV w y v → x = y
  | .mk k n s ts, .mk k' n' s' ts', v, h, h' => by
    rw [TmV] at h h'
    obtain ⟨a, c, rfl, h2, h3, h4, h5, h6, h7, h8⟩ := h
    obtain ⟨a', c', e, g2, g3, g4, g5, g6, g7, g8⟩ := h'
    simp only [Value.agg.injEq] at e
    have e2 := congrArg Array.toList e
    simp only [List.cons.injEq, and_true, Value.int.injEq, true_and, Value.string.injEq, Value.slice.injEq] at e2
    obtain ⟨rfl, rfl, rfl, rfl, hl, rfl⟩ := e2
    have : ts = ts' := by
      rcases h8 with rfl | ⟨b, off, rfl, _, hr⟩
      · rcases g8 with rfl | _
        · rfl
        · exact (List.length_eq_zero_iff.1 hl.symm).symm
      · rcases g8 with rfl | ⟨b', off', e3, _, hr'⟩
        · exact List.length_eq_zero_iff.1 hl
        · cases e3
          exact TmRow.same ts ts' b off hl hr hr'
    rw [this]
theorem TmRow.same {w : World} : ∀ (l l' : List Tm) (b off : Nat), l.length = l'.length → TmRow w l b off → TmRow w l' b off → l = l'
  | [], [], b, off, _, _, _ => rfl
  | x :: r, y :: q, b, off, hl, h, h' => by
    rw [TmRow] at h h'
    obtain ⟨⟨c0, c1, c2, c3, h0, h1, h2, h3, h4⟩, h5⟩ := h
    obtain ⟨⟨d0, d1, d2, d3, g0, g1, g2, g3, g4⟩, g5⟩ := h'
    rw [h0] at g0; rw [h1] at g1; rw [h2] at g2; rw [h3] at g3
    cases g0; cases g1; cases g2; cases g3
    rw [TmV.same x y _ h4 g4, TmRow.same r q b (off + 4) (by simpa using hl) h5 g5]
  | [], y :: q, b, off, hl, _, _ => by simp at hl
  | x :: r, [], b, off, hl, _, _ => by simp at hl
end
/-- There, in a plain block, lies this term. -/
def TAt (W : World) (x : Tm) (a : Addr) : Prop := ∃ b off u, a = ⟨b, off, none⟩ ∧ Plain W b ∧ W.cell? ⟨b, off, none⟩ = some (.int .i64 x.k) ∧ W.cell? ⟨b, off + 1, none⟩ = some (.int .i64 x.n) ∧ W.cell? ⟨b, off + 2, none⟩ = some (.string x.s) ∧ W.cell? ⟨b, off + 3, none⟩ = some u ∧ TmQ noB W x (pVal (x, u))
theorem TAt.plain {W : World} {x : Tm} {a : Addr} (h : TAt W x a) : Plain W a.block := by
  obtain ⟨b, off, u, rfl, hp, _⟩ := h
  exact hp
theorem TAt.same {W : World} {x y : Tm} {a : Addr} (h : TAt W x a) (h' : TAt W y a) : x = y := by
  obtain ⟨b, off, u, rfl, _, c0, c1, c2, c3, hq⟩ := h
  obtain ⟨b', off', u', e, _, d0, d1, d2, d3, hq'⟩ := h'
  cases e
  rw [c0] at d0; rw [c1] at d1; rw [c2] at d2; rw [c3] at d3
  have e0 : x.k = y.k := by simpa using d0
  have e1 : x.n = y.n := by simpa using d1
  have e2 : x.s = y.s := by simpa using d2
  have e3 : u = u' := by simpa using d3
  unfold TmQ pVal at hq hq'
  rw [← e3] at hq'
  simp only [← e0, ← e1, ← e2] at hq'
  exact TmV.same _ _ _ hq hq'
/-- Its Args. -/
theorem TAt.args {W : World} {x : Tm} {a : Addr} (h : TAt W x a) : ∃ b off ao c, a = ⟨b, off, none⟩ ∧ b < W.heap.size ∧ W.cell? ⟨b, off + 3, none⟩ = some (.slice ao x.args.length c) ∧ x.args.length ≤ c ∧ c ≤ maxLen ∧ x.args.length * 56 ≤ BIG ∧
    (x.args.length = 0 ∨ ∃ b' off', ao = some ⟨b', off', none⟩ ∧ ∀ (i : Nat) (y : Tm), x.args[i]? = some y → TAt W y ⟨b', off' + i * 4, none⟩) := by
  obtain ⟨b, off, u, rfl, hp, c0, c1, c2, c3, hq⟩ := h
  have hb : b < W.heap.size := World.block_lt_of_cell? _ _ c0
  have hT : Tms (hide (npl noB W) W) u x.args := by
    cases x with
    | mk k n s ts =>
      obtain ⟨u', hu', _, _, _, hq'⟩ := tmV_iff.1 hq
      simp only [pVal, Value.agg.injEq] at hu'
      have h2 := congrArg Array.toList hu'
      simp only [List.cons.injEq, and_true] at h2
      rw [h2.2.2.2]
      exact hq'
  obtain ⟨ao, c, rfl, g1, g2, g3, g4⟩ := hT
  refine ⟨b, off, ao, c, rfl, hb, c3, g1, g2, g3, ?_⟩
  rcases g4 with g4 | ⟨b', off', rfl, hb', hr⟩
  · left; rw [g4]; rfl
  · refine Or.inr ⟨b', off', rfl, fun i y hy => ?_⟩
    obtain ⟨d0, d1, d2, d3, f0, f1, f2, f3, f4⟩ := hr.get i y hy
    obtain ⟨uy, huy⟩ := f4.pair
    have f4' := f4
    rw [huy] at f4'
    simp only [pVal, Value.agg.injEq] at huy
    have h2 := congrArg Array.toList huy
    simp only [List.cons.injEq, and_true] at h2
    obtain ⟨rfl, rfl, rfl, rfl⟩ := h2
    have hnp : npl noB W b' = false := by
      cases hd : npl noB W b' with
      | false => rfl
      | true => rw [hide_gone _ W _ hd] at f0; cases f0
    have UN := (Stays.unhide (npl noB W) W).2
    exact ⟨b', _, _, rfl, (npl_no hnp).2, UN _ _ f0, UN _ _ f1, UN _ _ f2, UN _ _ f3, f4'⟩
theorem TAt.later {W W' : World} {x : Tm} {a : Addr} (h : TAt W x a) (hb : Below W.heap.size W W') : TAt W' x a := by
  obtain ⟨b, off, u, rfl, hp, c0, c1, c2, c3, hq⟩ := h
  exact ⟨b, off, u, rfl, hp.below hb, cell_later hb c0, cell_later hb c1, cell_later hb c2, cell_later hb c3, hq.later hb⟩
/-- What is noted is so. -/
def Noted (W : World) (L : List (Addr × Nat)) : Prop := ∀ p ∈ L, ∃ y, TAt W y p.1 ∧ depthN y = p.2
end Go.Proofs.Ythikbenfhaglkaa
