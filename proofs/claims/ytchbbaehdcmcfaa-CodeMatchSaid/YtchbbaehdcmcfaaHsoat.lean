import Derived.Test.YtchbbaehdcmcfaaHsozz
import Derived.Test.YtchbbaehdcmcfaaHsoas
import Derived.Test.YtchbbaehdcmcfaaHsoao
import Derived.Test.YtchbbaehdcmcfaaHsoai
import Derived.Test.YtchbbaehdcmcfaaHsoad
import Derived.Laws.IdiomCopy
import Derived.Test.YtchbbaehdcmcfaaHsoar
set_option linter.unusedVariables false
set_option linter.unusedSimpArgs false
/- Package code: Back's registers; made. -/
namespace Go.Proofs.Ytchbbaehdcmcfaa
open Go.RowKit
set_option linter.unusedVariables false
theorem goK_facts {sl : Int} : ∀ (l : List InsM) (i next : Nat) (seen : List Int) (r : Nat × List Int), goK sl l i next seen = some r → next ≤ r.1 ∧ ∀ (j : Nat) (x : InsM), l[j]? = some x →
  (x.op = opVar ∨ x.op = opVal ∨ x.op = opInt ∨ x.op = opAtom ∨ x.op = opComp) ∧ (x.op = opComp → ∃ C B : Nat, x.c = (C : Int) ∧ x.b = (B : Int) ∧ i + j + 1 ≤ C ∧ C + B ≤ r.1 ∧ 1 ≤ B ∧ B ≤ 8)
 | [], i, next, seen, r, h => by
  rw [goK] at h
  cases h
  exact ⟨Nat.le_refl _, fun j x hx => by simp at hx⟩
 | y :: l, i, next, seen, r, h => by
  rw [goK] at h
  split at h
  ·rename_i hok
   obtain ⟨ih1, ih2⟩ := goK_facts l (i + 1) _ _ r h
   have hmono : next ≤ nextI next y := by unfold nextI; split <;> omega
   refine ⟨Nat.le_trans hmono ih1, fun j x hx => ?_⟩
   cases j with
   | zero =>
    simp at hx
    subst hx
    rw [Bool.and_eq_true] at hok
    obtain ⟨ha, hp⟩ := hok
    have ha : y.a = (i : Int) := by simpa using ha
    unfold partK partI at hp
    rw [Bool.and_eq_true, decide_eq_true_eq] at hp
    obtain ⟨hlt, hp⟩ := hp
    by_cases h1 : y.op = opVar
    ·exact ⟨Or.inl h1, fun e => by rw [h1] at e; exact absurd e (by decide)⟩
    by_cases h2 : y.op = opVal
    ·exact ⟨Or.inr (Or.inl h2), fun e => by rw [h2] at e; exact absurd e (by decide)⟩
    by_cases h3 : y.op = opInt
    ·exact ⟨Or.inr (Or.inr (Or.inl h3)), fun e => by rw [h3] at e; exact absurd e (by decide)⟩
    by_cases h4 : y.op = opAtom
    ·exact ⟨Or.inr (Or.inr (Or.inr (Or.inl h4))), fun e => by rw [h4] at e; exact absurd e (by decide)⟩
    by_cases h5 : y.op = opComp
    ·refine ⟨Or.inr (Or.inr (Or.inr (Or.inr h5))), fun _ => ?_⟩
     rw [if_neg h1, if_neg h2, if_neg h3, if_neg h4, if_pos h5] at hp
     simp only [Bool.and_eq_true, decide_eq_true_eq, beq_iff_eq] at hp
     obtain ⟨⟨⟨⟨p1, p2⟩, p3⟩, p4⟩, p5⟩ := hp
     have hn : nextI next y = next + y.b.toNat := by unfold nextI; rw [if_pos h5]
     rw [hn] at ih1
     exact ⟨next, y.b.toNat, p3, by omega, by omega, ih1, by omega, by omega⟩
    ·rw [if_neg h1, if_neg h2, if_neg h3, if_neg h4, if_neg h5] at hp
     cases hp
   | succ j =>
    obtain ⟨k1, k2⟩ := ih2 j x (by simpa using hx)
    refine ⟨k1, fun e => ?_⟩
    obtain ⟨C, B, q1, q2, q3, q4⟩ := k2 e
    exact ⟨C, B, q1, q2, by omega, q4⟩
  ·cases h
theorem goodK_facts {c : CodeM} (h : goodK c = true) : ∃ A S n : Nat, c.ar = (A : Int) ∧ c.sl = (S : Int) ∧ c.rg = (n : Int) ∧ c.l.length = n ∧ A ≤ 8 ∧ A ≤ n ∧ S ≤ n ∧ n ≤ 2000 ∧ ∀ (j : Nat) (x : InsM), c.l[j]? = some x →
  (x.op = opVar ∨ x.op = opVal ∨ x.op = opInt ∨ x.op = opAtom ∨ x.op = opComp) ∧ (x.op = opComp → ∃ C B : Nat, x.c = (C : Int) ∧ x.b = (B : Int) ∧ j + 1 ≤ C ∧ C + B ≤ n ∧ 1 ≤ B ∧ B ≤ 8) := by
 unfold goodK at h
 simp only [Bool.and_eq_true, decide_eq_true_eq, beq_iff_eq] at h
 obtain ⟨⟨⟨⟨⟨⟨h1, h2⟩, h3⟩, h4⟩, h5⟩, h6⟩, h7⟩ := h
 cases hr : goK c.sl c.l 0 c.ar.toNat [] with
 | none => rw [hr] at h7; cases h7
 | some r =>
  obtain ⟨rn, rs⟩ := r
  rw [hr] at h7
  simp only [Bool.and_eq_true, beq_iff_eq] at h7
  obtain ⟨f1, f2⟩ := goK_facts _ _ _ _ _ hr
  have f1' : c.ar.toNat ≤ rn := f1
  refine ⟨c.ar.toNat, c.sl.toNat, c.l.length, by omega, by omega, by omega, rfl, by omega, by omega, by omega, by omega, fun j x hx => ?_⟩
  obtain ⟨g1, g2⟩ := f2 j x hx
  refine ⟨g1, fun e => ?_⟩
  obtain ⟨C, B, q1, q2, q3, q4, q5⟩ := g2 e
  have q4' : C + B ≤ rn := q4
  exact ⟨C, B, q1, q2, by omega, by omega, q5⟩
theorem comp_src {D : Nat → Bool} {w : World} {ao : Option Addr} {m c : Nat} (ps : List TmP) (s : ByteArray) (hs : s.size ≤ BIG) (hD : Old D w) (hpl : ps.length = m) (hbig : m * 56 ≤ BIG) (hpa : ∀ p ∈ ps, TmV (hide D w) p.1 (pVal p))
  (hsrc : m = 0 ∨ ∃ ad, ao = some ad ∧ ∀ j u, (ps.flatMap pCells)[j]? = some u → w.cell? (ad.add j) = some u) :
  Calls Try.prog 17 #[.string s, .slice ao m c] w fun e w' => ∃ v, e = .returned v ∧ TmV (hide D w') (nameT s (ps.map (·.1))) v ∧ Below w.heap.size w w' := by
 refine (comp_ps (c := c) ps s hpl hbig (pCells_one ps hpa) hsrc).mono ?_
 rintro e w' ⟨a, c', rfl, hR, hB⟩
 refine ⟨_, rfl, ?_, hB⟩
 have hT := (hR.hide (D := D) (fun k hk _ => hD k (by omega))).terms (fun p hp => TmV.later hB (hpa p hp)) (by rw [hpl]; exact hbig)
 exact tmV_iff.2 ⟨_, rfl, hs, i64_2, i64_0, hT⟩
end Go.Proofs.Ytchbbaehdcmcfaa
/- Package code: Back. -/
namespace Go.Proofs.Ytchbbaehdcmcfaa
open Go.RowKit
set_option linter.unusedVariables false
theorem infoTermB : (Try.prog.info? 31).map (fun i => (i.zero, i.size, i.bytes)) = some (some (.agg #[.int .i64 0, .int .i64 0, .string ⟨#[]⟩, .slice none 0 0]), 4, 56) := by kernel_rfl
theorem make_regs (m : Nat) (hm : m ≤ 100000) (w : World) : (Instr.makeSlice 29 (.int .i64 m) (.int .i64 m)).run Try.prog w = .ok (.slice (some ⟨w.heap.size, 0, none⟩) m m) (w.alloc (.cells (madeCells #[.int .i64 0, .int .i64 0, .string ⟨#[]⟩, .slice none 0 0] (m * 4)) 31)) := by
 obtain ⟨i0, hi0, hz0, hs0, hb0⟩ := info_parts infoTermB
 have h := run_makeSlice (P := Try.prog) w 29 31 i0 _ Try.underlying29 hi0 hz0 .i64 .i64 m m (by omega) (by omega) (by rw [hs0]; omega) (by rw [hb0]; omega) (by omega)
 rw [hs0] at h
 simp only [Int.toNat_natCast] at h
 exact h
end Go.Proofs.Ytchbbaehdcmcfaa
/- Package code: rows of terms that Match fills; copy of elements of whatever size. -/
namespace Go.Proofs.Ytchbbaehdcmcfaa
open Go.RowKit
set_option linter.unusedVariables false
section
variable {P : Program}
theorem run_copy_k (w : World) (dT sT ty elem : TypeId) (sz : Nat) (b o dLen dCap : Nat) (a : Addr) (sLen sCap : Nat) (cs : List Value)
  (hu : P.underlying dT = some (.slice elem)) (hs : (P.info? elem).map (·.size) = some sz) (hn : cs.length = Nat.min sLen dLen * sz)
  (hsrc : ∀ j v, cs[j]? = some v → w.cell? (a.add j) = some v) (hc : ∀ j, j < cs.length → (w.cell? ⟨b, o + j, none⟩).isSome = true) (hf : ∀ j, j < cs.length → w.frozen? ⟨b, o + j, none⟩ = false) (h1 : ∀ v ∈ cs, v.oneCell' = true) :
  (Builtin.copy_ #[dT, sT] ty #[.slice (some ⟨b, o, none⟩) dLen dCap, .slice (some a) sLen sCap]).run P w = .ok (goInt (Nat.min sLen dLen)) (w.setCells b o cs) := by
 have hl := run_loadCells_list (P := P) w a cs hsrc
 have hst := run_storeCells_cells (P := P) b o cs 0 w (by simpa using hc) (by simpa using hf) h1
 cases hq : P.info? elem with
 | none => simp [hq] at hs
 | some i =>
  have hi : i.size = sz := by simpa [hq] using hs
  simp [Builtin.copy_, run_underlying hu, Builtin.lenOf, Builtin.firstCells, sizeOf, typeInfo, hq, hi, ← hn, hl, hst]
theorem run_copy_zero (w : World) (dT sT ty elem : TypeId) (sz : Nat) (d a : Option Addr) (dLen dCap sCap : Nat) (hu : P.underlying dT = some (.slice elem)) (hs : (P.info? elem).map (·.size) = some sz) :
  (Builtin.copy_ #[dT, sT] ty #[.slice d dLen dCap, .slice a 0 sCap]).run P w = .ok (goInt 0) w := by
 have hl : ∀ (x : Addr), (loadCells x 0).run P w = .ok #[] w := fun x => by simpa using run_loadCells_list (P := P) w x [] (by simp)
 cases hq : P.info? elem with
 | none => simp [hq] at hs
 | some i =>
  have hi : i.size = sz := by simpa [hq] using hs
  cases d <;> cases a <;> simp [Builtin.copy_, run_underlying hu, Builtin.lenOf, Builtin.firstCells, sizeOf, typeInfo, hq, hi, storeCells, hl]
end
structure TRow (V w : World) (b n : Nat) (f : Nat → Option Tm) : Prop where
 held : ∀ i x, i < n → f i = some x → ∃ u, TmV V x (pVal (x, u)) ∧ ∀ j c, (pCells (x, u))[j]? = some c → w.cell? ⟨b, i * 4 + j, none⟩ = some c
 free : ∀ i, i < n → f i = none → ∀ j c, (pCells (varV 0, Value.slice none 0 0))[j]? = some c → w.cell? ⟨b, i * 4 + j, none⟩ = some c
 fz : ∀ j, w.frozen? ⟨b, j, none⟩ = false
 lt : b < w.heap.size
section
variable {V w w' : World} {b n : Nat} {f : Nat → Option Tm}
theorem TRow.cells (h : TRow V w b n f) {i j : Nat} (hi : i < n) (hj : j < 4) : ∃ c, w.cell? ⟨b, i * 4 + j, none⟩ = some c := by
 cases hf : f i with
 | some x =>
  obtain ⟨u, _, hc⟩ := h.held i x hi hf
  obtain ⟨c, e⟩ : ∃ c, (pCells (x, u))[j]? = some c := ⟨_, List.getElem?_eq_getElem (by rw [pCells_len]; exact hj)⟩
  exact ⟨c, hc j c e⟩
 | none =>
  obtain ⟨c, e⟩ : ∃ c, (pCells (varV 0, Value.slice none 0 0))[j]? = some c := ⟨_, List.getElem?_eq_getElem (by rw [pCells_len]; exact hj)⟩
  exact ⟨c, h.free i hi hf j c e⟩
theorem TRow.touch (h : TRow V w b n f) {F : List Nat} (t : Touch F w w') (hb : ¬ b ∈ F) : TRow V w' b n f :=
 ⟨fun i x hi hx => by obtain ⟨u, h1, h2⟩ := h.held i x hi hx; exact ⟨u, h1, fun j c hc => t.cell hb (h2 j c hc)⟩, fun i hi hx j c hc => t.cell hb (h.free i hi hx j c hc), fun j => by rw [World.frozen?_of_block (t.block b h.lt hb)]; exact h.fz j, Nat.lt_of_lt_of_le h.lt t.size⟩
theorem TRow.ext (h : TRow V w b n f) (hb : Below w.heap.size w w') : TRow V w' b n f := h.touch (Touch.of_below hb []) (by simp)
theorem TRow.see {V' : World} (h : TRow V w b n f) (hv : Stays V V') : TRow V' w b n f :=
 ⟨fun i x hi hx => by obtain ⟨u, h1, h2⟩ := h.held i x hi hx; exact ⟨u, TmV.stay hv _ _ h1, h2⟩, h.free, h.fz, h.lt⟩
theorem TRow.congr {g : Nat → Option Tm} (h : TRow V w b n f) (e : ∀ i, i < n → g i = f i) : TRow V w b n g :=
 ⟨fun i x hi hx => h.held i x hi (by rw [← e i hi]; exact hx), fun i hi hx => h.free i hi (by rw [← e i hi]; exact hx), h.fz, h.lt⟩
theorem TRow.get (h : TRow V w b n f) {i : Nat} {x : Tm} (hi : i < n) (hx : f i = some x) : ∃ k m s a l c, TmV V x (.agg #[.int .i64 k, .int .i64 m, .string s, .slice a l c]) ∧ w.cell? ⟨b, i * 4, none⟩ = some (.int .i64 k) ∧ w.cell? ⟨b, i * 4 + 1, none⟩ = some (.int .i64 m) ∧ w.cell? ⟨b, i * 4 + 2, none⟩ = some (.string s) ∧ w.cell? ⟨b, i * 4 + 3, none⟩ = some (.slice a l c) ∧ x.k = k ∧ x.n = m ∧ x.s = s ∧ x.args.length = l := by
 obtain ⟨u, h1, h2⟩ := h.held i x hi hx
 obtain ⟨k, m, s, ts⟩ := x
 obtain ⟨u', hu', hss, hkk, hnn, hts⟩ := tmV_iff.1 h1
 obtain rfl : u = u' := by
  have h3 : pVal (Tm.mk k m s ts, u) = Value.agg #[.int .i64 k, .int .i64 m, .string s, u] := rfl
  rw [h3] at hu'
  simpa using hu'
 obtain ⟨a, c, rfl, _⟩ := hts.len
 exact ⟨k, m, s, a, ts.length, c, h1, h2 0 _ rfl, h2 1 _ rfl, h2 2 _ rfl, h2 3 _ rfl, rfl, rfl, rfl, rfl⟩
theorem TRow.put (h : TRow V w b n f) {i : Nat} (hi : i < n) {x : Tm} {u0 u1 u2 u3 : Value} (hx : TmV V x (.agg #[u0, u1, u2, u3])) : TRow V (setAt w b (i * 4) u0 u1 u2 u3) b n (fun k => if k = i then some x else f k) := by
 have hp : ∃ u, pVal (x, u) = .agg #[u0, u1, u2, u3] := by
  obtain ⟨u, hu⟩ := hx.pair
  exact ⟨u, hu.symm⟩
 obtain ⟨u, hu⟩ := hp
 have hpc : pCells (x, u) = [u0, u1, u2, u3] := by
  simp only [pVal, Value.agg.injEq] at hu
  exact congrArg Array.toList hu
 have hc : ∀ j, j < 4 → ∃ c, w.cell? ⟨b, i * 4 + j, none⟩ = some c := fun j hj => h.cells hi hj
 have hin : ∀ j c, (pCells (x, u))[j]? = some c → (setAt w b (i * 4) u0 u1 u2 u3).cell? ⟨b, i * 4 + j, none⟩ = some c := fun j c hj => by
  have h4 : j < 4 := by
   have := (List.getElem?_eq_some_iff.1 hj).1
   rw [pCells_len] at this
   exact this
  rw [hpc] at hj
  match j, h4, hj with
  | 0, _, hj =>
   cases hj
   obtain ⟨c0, e0⟩ := hc 0 (by omega)
   rw [near_cell (by omega), near_cell (by omega), near_cell (by omega)]
   exact css e0
  | 1, _, hj =>
   cases hj
   obtain ⟨c0, e0⟩ := hc 1 (by omega)
   rw [near_cell (by omega), near_cell (by omega)]
   exact css (u := c0) (by rw [near_cell (by omega)]; exact e0)
  | 2, _, hj =>
   cases hj
   obtain ⟨c0, e0⟩ := hc 2 (by omega)
   rw [near_cell (by omega)]
   exact css (u := c0) (by rw [near_cell (by omega), near_cell (by omega)]; exact e0)
  | 3, _, hj =>
   cases hj
   obtain ⟨c0, e0⟩ := hc 3 (by omega)
   exact css (u := c0) (by rw [near_cell (by omega), near_cell (by omega), near_cell (by omega)]; exact e0)
 have hj4 : ∀ (y : TmP) j c, (pCells y)[j]? = some c → j < 4 := fun y j c hj => by
  have := (List.getElem?_eq_some_iff.1 hj).1
  rw [pCells_len] at this
  exact this
 refine ⟨fun k y hk hy => ?_, fun k hk hy j c hj => ?_, fun j => by rw [World.frozen?_setCell, World.frozen?_setCell, World.frozen?_setCell, World.frozen?_setCell]; exact h.fz j, by have := h.lt; simpa [World.setCell] using this⟩
 ·by_cases e : k = i
  ·subst e
   rw [if_pos rfl] at hy
   cases hy
   exact ⟨u, by rw [hu]; exact hx, hin⟩
  ·rw [if_neg e] at hy
   obtain ⟨u', h1, h2⟩ := h.held k y hk hy
   exact ⟨u', h1, fun j c hj => by have := hj4 _ _ _ hj; rw [setAt_off (by omega)]; exact h2 j c hj⟩
 ·by_cases e : k = i
  ·subst e; rw [if_pos rfl] at hy; cases hy
  ·rw [if_neg e] at hy
   have := hj4 _ _ _ hj
   rw [setAt_off (by omega)]
   exact h.free k hk hy j c hj
theorem TRow.copy (h : TRow V w b n f) {C : Nat} {qs : List TmP} (hC : C + qs.length ≤ n) (hq : ∀ q ∈ qs, TmV V q.1 (pVal q)) : TRow V (w.setCells b (C * 4) (qs.flatMap pCells)) b n (fun k => if k < C then f k else if k < C + qs.length then (qs[k - C]?).map (·.1) else f k) := by
 have hfl : (qs.flatMap pCells).length = qs.length * 4 := flat_len pCells_len _
 have hsome : ∀ j, j < (qs.flatMap pCells).length → (w.cell? ⟨b, C * 4 + j, none⟩).isSome = true := fun j hj => by
  rw [hfl] at hj
  obtain ⟨c, e⟩ := h.cells (i := C + j / 4) (j := j % 4) (by omega) (Nat.mod_lt _ (by omega))
  rw [show (C + j / 4) * 4 + j % 4 = C * 4 + j by omega] at e
  rw [e]; rfl
 have hj4 : ∀ (y : TmP) j c, (pCells y)[j]? = some c → j < 4 := fun y j c hj => by
  have := (List.getElem?_eq_some_iff.1 hj).1
  rw [pCells_len] at this
  exact this
 have hout : ∀ k j, k < C ∨ C + qs.length ≤ k → j < 4 → (w.setCells b (C * 4) (qs.flatMap pCells)).cell? ⟨b, k * 4 + j, none⟩ = w.cell? ⟨b, k * 4 + j, none⟩ := fun k j hk hj => by
  refine World.cell?_setCells_out b _ _ _ _ fun _ _ => ?_
  rw [hfl]
  show k * 4 + j < C * 4 ∨ C * 4 + qs.length * 4 ≤ k * 4 + j
  omega
 refine ⟨fun k y hk hy => ?_, fun k hk hy j c hj => ?_, fun j => by rw [World.frozen?_setCells]; exact h.fz j, ?_⟩
 ·by_cases e : k < C
  ·rw [if_pos e] at hy
   obtain ⟨u, h1, h2⟩ := h.held k y hk hy
   exact ⟨u, h1, fun j c hj => by rw [hout k j (Or.inl e) (hj4 _ _ _ hj)]; exact h2 j c hj⟩
  ·rw [if_neg e] at hy
   by_cases e2 : k < C + qs.length
   ·rw [if_pos e2] at hy
    obtain ⟨q, hqk, rfl⟩ := Option.map_eq_some_iff.1 hy
    refine ⟨q.2, hq q (List.mem_of_getElem? hqk), fun j c hj => ?_⟩
    have h4 := hj4 _ _ _ hj
    have hg := flat_get pCells_len qs (k - C) q hqk j h4
    have hlt : (k - C) * 4 + j < (qs.flatMap pCells).length := by rw [hfl]; omega
    have := World.cell?_setCells_in b (qs.flatMap pCells) (C * 4) w hsome ((k - C) * 4 + j) hlt
    rw [show C * 4 + ((k - C) * 4 + j) = k * 4 + j by omega] at this
    rw [this]
    have e3 : (qs.flatMap pCells)[(k - C) * 4 + j]? = some c := by rw [hg]; exact hj
    rw [List.getElem?_eq_getElem hlt] at e3
    exact e3
   ·rw [if_neg e2] at hy
    obtain ⟨u, h1, h2⟩ := h.held k y hk hy
    exact ⟨u, h1, fun j c hj => by rw [hout k j (Or.inr (by omega)) (hj4 _ _ _ hj)]; exact h2 j c hj⟩
 ·by_cases e : k < C
  ·rw [if_pos e] at hy
   rw [hout k j (Or.inl e) (hj4 _ _ _ hj)]
   exact h.free k hk hy j c hj
  ·rw [if_neg e] at hy
   by_cases e2 : k < C + qs.length
   ·rw [if_pos e2] at hy
    rw [List.getElem?_eq_getElem (by omega)] at hy
    cases hy
   ·rw [if_neg e2] at hy
    rw [hout k j (Or.inr (by omega)) (hj4 _ _ _ hj)]
    exact h.free k hk hy j c hj
 ·have : ∀ (vs : List Value) (o : Nat) (w : World), (w.setCells b o vs).heap.size = w.heap.size := by
   intro vs
   induction vs with
   | nil => intro o w; rfl
   | cons v r ih => intro o w; rw [World.setCells, ih]; simp [World.setCell]
  rw [this]
  exact h.lt
theorem setCells_touch (b : Nat) : ∀ (vs : List Value) (o : Nat) (w : World), Touch [b] w (w.setCells b o vs)
 | [], o, w => Touch.refl' _ _
 | v :: r, o, w => (touch_one w b o v).trans (setCells_touch b r (o + 1) _) (fun k hk => Or.inl hk)
theorem TRow.new (V w : World) (n : Nat) (ty : TypeId) : TRow V (w.alloc (.cells (madeCells #[.int .i64 0, .int .i64 0, .string ⟨#[]⟩, .slice none 0 0] (n * 4)) ty)) w.heap.size n (fun _ => none) := by
 have h := lay_new w n ty
 refine ⟨fun i x hi hx => (by cases hx), fun i hi _ j c hj => ?_, h.fz, h.lt⟩
 obtain ⟨r0, r1, r2, r3⟩ := h.rest i (by simp) hi
 have h4 : j < 4 := by
  have := (List.getElem?_eq_some_iff.1 hj).1
  rw [pCells_len] at this
  exact this
 match j, h4, hj with
 | 0, _, hj => cases hj; exact r0
 | 1, _, hj => cases hj; exact r1
 | 2, _, hj => cases hj; exact r2
 | 3, _, hj => cases hj; exact r3
end
end Go.Proofs.Ytchbbaehdcmcfaa
/- Package code: Match's state; alike. -/
namespace Go.Proofs.Ytchbbaehdcmcfaa
open Go.RowKit
set_option linter.unusedVariables false
structure RunS (V w : World) (F : List Nat) (mb gb tb n S : Nat) (p : Value) (regs : List Tm) (sl : Int → Option Tm) : Prop where
 box : Box w mb [p, .slice (some ⟨gb, 0, none⟩) n n, .slice (some ⟨tb, 0, none⟩) S S]
 rrow : TRow V w gb n (fun i => regs[i]?)
 srow : TRow V w tb S (fun i => sl (i : Int))
 apart : mb ≠ gb ∧ mb ≠ tb ∧ gb ≠ tb
 own : ¬ mb ∈ F ∧ ¬ gb ∈ F ∧ ¬ tb ∈ F
 blind : Blind V [mb, gb, tb]
 len : regs.length ≤ n
 size : n ≤ 2000 ∧ S ≤ 2000
 goodr : ∀ r ∈ regs, goodT r = true
 goods : ∀ v x, sl v = some x → goodT x = true
section
variable {V w w' : World} {F F' : List Nat} {mb gb tb n S N : Nat} {p : Value} {regs : List Tm} {sl : Int → Option Tm} {R S0 : List (Int × Tm)}
theorem RunS.lts (h : RunS V w F mb gb tb n S p regs sl) : mb < w.heap.size ∧ gb < w.heap.size ∧ tb < w.heap.size := ⟨h.box.lt, h.rrow.lt, h.srow.lt⟩
theorem RunS.touch (h : RunS V w F mb gb tb n S p regs sl) (t : Touch F w w') (hF : ∀ k ∈ F', k ∈ F ∨ w.heap.size ≤ k) : RunS V w' F' mb gb tb n S p regs sl := by
 have l := h.lts
 have o := h.own
 refine ⟨t.box o.1 h.box, h.rrow.touch t o.2.1, h.srow.touch t o.2.2, h.apart, ⟨fun hm => ?_, fun hm => ?_, fun hm => ?_⟩, h.blind, h.len, h.size, h.goodr, h.goods⟩
 ·rcases hF _ hm with e | e
  ·exact o.1 e
  ·omega
 ·rcases hF _ hm with e | e
  ·exact o.2.1 e
  ·omega
 ·rcases hF _ hm with e | e
  ·exact o.2.2 e
  ·omega
theorem RunS.ext (h : RunS V w F mb gb tb n S p regs sl) (hb : Below w.heap.size w w') : RunS V w' F mb gb tb n S p regs sl := h.touch (Touch.of_below hb F) (fun k hk => Or.inl hk)
def AlkP (V : World) (F : List Nat) (w : World) (p : Value) (N : Nat) (b : BRes) (e : Ending) (w' : World) : Prop :=
 ∃ F' R', e = .returned (.tuple #[.bool b.ok, .int .i64 b.err]) ∧ IsB V F' w' p N R' ∧ Sync R' b.set ∧ Touch F w w' ∧ ∀ k ∈ F', k ∈ F ∨ w.heap.size ≤ k
set_option maxHeartbeats 4000000 in
set_option maxRecDepth 100000 in
theorem alikeM_at (hI : IsB V F w p N R) (hs : Sync R S0) (h : RunS V w F mb gb tb n S p regs sl) {i : Nat} {r : Tm} (hr : regs[i]? = some r) {T : Tm} {vT : Value} (hT : TmV V T vT) :
  Calls Try.prog 94 #[.pointer (some ⟨mb, 0, none⟩), .int .i64 (i : Nat), vT] w (AlkP V F w p N (bothB N S0 r T)) := by
 have hil : i < regs.length := (List.getElem?_eq_some_iff.1 hr).1
 have hin : i < n := Nat.lt_of_lt_of_le hil h.len
 have hn2 := h.size.1
 obtain ⟨kT, nT, sT, aT, mT, cT, rfl, g1, g2, g3, g4⟩ := four_of hT
 clear g1 g2 g3 g4
 obtain ⟨w1, e1, B1, z1, X1⟩ := box_new w #[.int .i64 kT, .int .i64 nT, .string sT, .slice aT mT cT] 31
 have h1 := h.ext B1
 have hI1 := hI.ext B1
 obtain ⟨k, m, s, a, l, c, hv, d0, d1, d2, d3, _⟩ := h1.rrow.get hin hr
 obtain ⟨c0, c1, c2, cf⟩ := h1.box.three
 obtain ⟨x0, x1, x2, x3, _⟩ := X1.four
 have hFl : ¬ w.heap.size ∈ F := fun hm => by have := hI.lt _ hm; omega
 have HO := Lib.hid h.own
 have HB := Lib.hid (And.intro B1 (And.intro hI1 hs))
 have HE := Lib.hid e1
 have HC := Lib.hid (fun (wq : World) (hb : Below w1.heap.size w1 wq) => Both_at (hI1.ext hb) hs hv hT)
 obtain ⟨b, hb⟩ : ∃ b, bothB N S0 r T = b := ⟨_, rfl⟩
 rw [hb] at HC ⊢
 unfold BothP at HC
 clear hv hT hI1 hI h h1 X1 z1 e1 B1 hr hs hb cf
 go_enter Try.func94, Try.ntmps94
 go_upto_region 1 with fail
 (try rw [HE.out])
 refine wp_region_held_drew (S := fun wq => wq.cell? ⟨mb, 0, none⟩ = some p ∧ wq.cell? ⟨mb, 1, none⟩ = some (.slice (some ⟨gb, 0, none⟩) n n) ∧ (wq.cell? ⟨gb, i * 4, none⟩ = some (.int .i64 k) ∧ wq.cell? ⟨gb, i * 4 + 1, none⟩ = some (.int .i64 m) ∧ wq.cell? ⟨gb, i * 4 + 2, none⟩ = some (.string s) ∧ wq.cell? ⟨gb, i * 4 + 3, none⟩ = some (.slice a l c)) ∧ (wq.cell? ⟨w.heap.size, 0, none⟩ = some (.int .i64 kT) ∧ wq.cell? ⟨w.heap.size, 1, none⟩ = some (.int .i64 nT) ∧ wq.cell? ⟨w.heap.size, 2, none⟩ = some (.string sT) ∧ wq.cell? ⟨w.heap.size, 3, none⟩ = some (.slice aT mT cT))) (by kernel_rfl) (⟨c0, c1, ⟨d0, d1, d2, d3⟩, x0, x1, x2, x3⟩) (fun hHeld => ?_)
 first | (refine held_t (i := 0) hHeld ?_; constructor; constructor; intro wq hq; focus ((try dsimp only at hq); go_simp; first | done | with_reducible rfl | fail)) | refine held_s (i := 0) hHeld ?_ | fail
 first | (refine held_t (i := 1) hHeld ?_; constructor; constructor; intro wq hq; focus ((try dsimp only at hq); go_simp; first | done | with_reducible rfl | fail)) | refine held_s (i := 1) hHeld ?_ | fail
 first | (refine held_t (i := 2) hHeld ?_; constructor; constructor; intro wq hq; focus ((try dsimp only at hq); go_simp; first | done | with_reducible rfl | fail)) | refine held_s (i := 2) hHeld ?_ | fail
 first | (refine held_t (i := 3) hHeld ?_; constructor; constructor; intro wq hq; focus ((try dsimp only at hq); go_simp; first | done | with_reducible rfl | fail)) | refine held_s (i := 3) hHeld ?_ | fail
 first | (refine held_t (i := 4) hHeld ?_; constructor; constructor; intro wq hq; focus ((try dsimp only at hq); go_simp; first | done | with_reducible rfl | fail)) | refine held_s (i := 4) hHeld ?_ | fail
 first | (refine held_t (i := 5) hHeld ?_; constructor; constructor; intro wq hq; focus ((try dsimp only at hq); go_simp; first | done | with_reducible rfl | fail)) | refine held_s (i := 5) hHeld ?_ | fail
 first | (refine held_t (i := 6) hHeld ?_; constructor; constructor; intro wq hq; focus ((try dsimp only at hq); go_simp; first | done | with_reducible rfl | fail)) | refine held_s (i := 6) hHeld ?_ | fail
 first | (refine held_t (i := 7) hHeld ?_; constructor; constructor; intro wq hq; focus ((try dsimp only at hq); go_simp; first | done | with_reducible rfl | fail)) | refine held_s (i := 7) hHeld ?_ | fail
 first | (refine held_t (i := 8) hHeld ?_; constructor; constructor; intro wq hq; focus ((try dsimp only at hq); go_simp; first | done | with_reducible rfl | fail)) | refine held_s (i := 8) hHeld ?_ | fail
 first | (refine held_t (i := 9) hHeld ?_; constructor; constructor; intro wq hq; focus ((try dsimp only at hq); go_simp; first | done | with_reducible rfl | fail)) | refine held_s (i := 9) hHeld ?_ | fail
 first | (refine held_t (i := 10) hHeld ?_; constructor; constructor; intro wq hq; focus ((try dsimp only at hq); go_simp; first | done | with_reducible rfl | fail)) | refine held_s (i := 10) hHeld ?_ | fail
 first | (refine held_t (i := 11) hHeld ?_; constructor; constructor; intro wq hq; focus ((try dsimp only at hq); go_simp; first | done | with_reducible rfl | fail)) | refine held_s (i := 11) hHeld ?_ | fail
 try simp only [Act.put, lay4]
 refine held_c 12 fun K hK => ?_
 go_simp
 (go_at_call 86; refine (HC.out _ (Below.refl _ _).drew).mono ?_; rintro e w6 ⟨F', R', rfl, i6, s6, t6, n6⟩; have H6 := Lib.hid (And.intro i6 (And.intro s6 (And.intro t6 n6))); clear i6 s6 n6)
 refine hK.out _ _ (⟨t6.cell HO.out.1 hHeld.1, t6.cell HO.out.1 hHeld.2.1, ⟨t6.cell HO.out.2.1 hHeld.2.2.1.1, t6.cell HO.out.2.1 hHeld.2.2.1.2.1, t6.cell HO.out.2.1 hHeld.2.2.1.2.2.1, t6.cell HO.out.2.1 hHeld.2.2.1.2.2.2⟩, t6.cell hFl hHeld.2.2.2.1, t6.cell hFl hHeld.2.2.2.2.1, t6.cell hFl hHeld.2.2.2.2.2.1, t6.cell hFl hHeld.2.2.2.2.2.2⟩) (fun hHeld => ?_)
 clear hK K
 try simp only [Act.put, lay4]
 first | (refine held_t (i := 13) hHeld ?_; constructor; constructor; intro wq hq; focus ((try dsimp only at hq); go_simp; first | done | with_reducible rfl | fail)) | refine held_s (i := 13) hHeld ?_ | fail
 first | (refine held_t (i := 14) hHeld ?_; constructor; constructor; intro wq hq; focus ((try dsimp only at hq); go_simp; first | done | with_reducible rfl | fail)) | refine held_s (i := 14) hHeld ?_ | fail
 first | (refine held_t (i := 15) hHeld ?_; constructor; constructor; intro wq hq; focus ((try dsimp only at hq); go_simp; first | done | with_reducible rfl | fail)) | refine held_s (i := 15) hHeld ?_ | fail
 first | (refine held_t (i := 16) hHeld ?_; constructor; constructor; intro wq hq; focus ((try dsimp only at hq); go_simp; first | done | with_reducible rfl | fail)) | refine held_s (i := 16) hHeld ?_ | fail
 first | (refine held_t (i := 17) hHeld ?_; constructor; constructor; intro wq hq; focus ((try dsimp only at hq); go_simp; first | done | with_reducible rfl | fail)) | refine held_s (i := 17) hHeld ?_ | fail
 first | (refine held_t (i := 18) hHeld ?_; constructor; constructor; intro wq hq; focus ((try dsimp only at hq); go_simp; first | done | with_reducible rfl | fail)) | refine held_s (i := 18) hHeld ?_ | fail
 first | (refine held_t (i := 19) hHeld ?_; constructor; constructor; intro wq hq; focus ((try dsimp only at hq); go_simp; first | done | with_reducible rfl | fail)) | refine held_s (i := 19) hHeld ?_ | fail
 try simp only [Act.put, lay4]
 refine wpAnyH_done (by kernel_rfl) ?_ _
 clear hHeld t6
 go_wp2
 go_ret2
 have hsz : w.heap.size ≤ w1.heap.size := HB.out.1.size
 refine ⟨F', R', rfl, H6.out.1, H6.out.2.1, ?_, fun k hk => (H6.out.2.2.2 k hk).imp id (fun e => Nat.le_trans hsz e)⟩
 exact (Touch.of_below (Ext.trans' HB.out.1 (Below.refl _ _).drew) F).trans H6.out.2.2.1 (fun k hk => Or.inl hk)
end
end Go.Proofs.Ytchbbaehdcmcfaa
/- Package code: a name of new variables. -/
namespace Go.Proofs.Ytchbbaehdcmcfaa
open Go.RowKit
set_option linter.unusedVariables false
def leafP (N : Nat) (i : Nat) : TmP := (varV ((N + i : Nat) : Int), .slice none 0 0)
def leafsP (N j : Nat) : List TmP := (List.range j).map (leafP N)
theorem leafs_len (N j : Nat) : (leafsP N j).length = j := by unfold leafsP; rw [List.length_map, List.length_range]
theorem leafs_fst (N j : Nat) : (leafsP N j).map (·.1) = freshL N j := by
 unfold leafsP freshL
 rw [List.map_map]
 rfl
theorem leafs_next (N j : Nat) : leafsP N (j + 1) = leafsP N j ++ [leafP N j] := by
 unfold leafsP
 rw [List.range_succ, List.map_append]
 rfl
theorem leafs_tm (N j : Nat) (hN : N + j ≤ 65536) (w : World) : ∀ q ∈ leafsP N j, TmV w q.1 (pVal q) := by
 intro q hq
 unfold leafsP at hq
 obtain ⟨i, hi, rfl⟩ := List.mem_map.1 hq
 have := List.mem_range.1 hi
 exact leaf_tm w i64_0 (by unfold I64; omega) (by unfold BIG; decide)
theorem touchM4 (w : World) (b : Nat) (u0 u1 u2 u3 : Value) : Touch [b] w (set4 w b u0 u1 u2 u3) :=
 (((touch_one w b 0 u0).trans (touch_one _ b 1 u1) (fun k hk => Or.inl hk)).trans (touch_one _ b 2 u2) (fun k hk => Or.inl hk)).trans (touch_one _ b 3 u3) (fun k hk => Or.inl hk)
theorem grown_touchM {w w' : World} {v : Value} (hg : w.grownBy w' v.ownBlock) : Touch v.ownBlock.toList w w' := ⟨hg.os, hg.tape, hg.output, hg.size, fun k hk hn => hg.block k hk (fun e => hn (by simp [← e]))⟩
theorem row_src {w : World} {b : Nat} {ty : TypeId} {a : Option Addr} {m c : Nat} {ps : List TmP} (h : RowP w b ty (.slice a m c) ps) (hm : ps.length = m) : m = 0 ∨ ∃ ad, a = some ad ∧ ∀ j u, (ps.flatMap pCells)[j]? = some u → w.cell? (ad.add j) = some u := by
 rcases h.2 with ⟨e, h1⟩ | ⟨g, cap, cur, e, hg, hh, q1, q2, q3, q4⟩
 ·left; omega
 ·right
  injection e with e1 e2 e3
  refine ⟨_, e1, fun j u hj => ?_⟩
  rw [add_plain, Nat.zero_add, blk_cell hh]
  rw [← q4, List.getElem?_take] at hj
  split at hj
  ·simpa using hj
  ·cases hj
section
variable {V w w' : World} {F F' : List Nat} {mb gb tb n S N : Nat} {p : Value} {regs : List Tm} {sl : Int → Option Tm} {R S0 : List (Int × Tm)}
structure FrI (V w : World) (F : List Nat) (p : Value) (N : Nat) (R : List (Int × Tm)) (j : Nat) (wr : World) (vl : Value) (Fj : List Nat) : Prop where
 isb : IsB V Fj wr p (N + j) R
 tch : Touch F w wr
 new : ∀ k ∈ Fj, k ∈ F ∨ w.heap.size ≤ k
 row : RowP wr w.heap.size 31 vl (leafsP N j)
 far : ∀ k, vl.ownBlock = some k → ¬ k ∈ Fj
def FrsP (V : World) (X F : List Nat) (w : World) (p : Value) (N k : Nat) (R : List (Int × Tm)) (s : ByteArray) (e : Ending) (w' : World) : Prop :=
 ∃ F' v, e = .returned (.tuple #[v, .bool true]) ∧ IsB V F' w' p (N + k) R ∧ Touch F w w' ∧ (∀ q ∈ F', q ∈ F ∨ w.heap.size ≤ q) ∧ TmV (hide (awayB (X ++ F')) w') (nameT s (freshL N k)) v
set_option maxHeartbeats 8000000 in
set_option maxRecDepth 100000 in
theorem freshM_at (hI : IsB V F w p N R) (h : RunS V w F mb gb tb n S p regs sl) (x : InsM) (hx : InsIn x) {k : Nat} (hk : x.b = (k : Int)) (hk8 : k ≤ 8) (hN : N + k ≤ 65536) {X : List Nat} (hX : ∀ q ∈ X, q < w.heap.size) :
  Calls Try.prog 117 #[.pointer (some ⟨mb, 0, none⟩), insVal x] w (FrsP V X F w p N k R x.s) := by
 obtain ⟨op, a, b, c, m, s⟩ := x
 obtain rfl : b = (k : Int) := hk
 obtain ⟨w1, e1, B1, z1, X1⟩ := box_new w #[.string op, .int .i64 a, .int .i64 k, .int .i64 c, .int .i64 m, .string s] 36
 obtain ⟨w2, e2, B2, z2, X2⟩ := box_new w1 #[.int .i64 0, .int .i64 0, .string ⟨#[]⟩, .slice none 0 0] 31
 have X1 := X1.ext B2
 have B12 := Ext.trans' B1 B2
 rw [z1] at X2
 have hI2 := hI.ext B12
 have x2 := X1.cells 2 _ rfl
 have HE := Lib.hid (And.intro e1 e2)
 have HB2 := Lib.hid (And.intro B12 (And.intro X1 X2))
 have HZ2 := Lib.hid (show w2.heap.size = w.heap.size + 2 by omega)
 have HLT := Lib.hid hI.lt
 have HS := Lib.hid hx.s
 have HR := Lib.hid h
 have HXX := Lib.hid hX
 have HVW := Lib.hid hI.see.1.1
 have HI0 := Lib.hid (show FrI V w2 F p N R 0 w2 (.slice none 0 0) F from ⟨hI2, Touch.refl' _ _, fun k hk => Or.inl hk, World.ownsRow_nil _ _ _ _, fun k hk => by simp [Value.ownBlock] at hk⟩)
 obtain ⟨i0, hi0, hz0, hs0, hb0⟩ := info_parts infoTermB
 unfold insVal
 clear hI h hx B1 B2 B12 X1 X2 z1 z2 e1 e2 hI2 hX
 go_enter Try.func117, Try.ntmps117
 go_upto_region 1 with fail
 (try rw [HE.out.1, HE.out.2])
 go_wp2_with fail
 go_loopw [11, 6] (fun v vl wr => ∃ j Fj, j ≤ k ∧ v = .int .i64 (j : Nat) ∧ Hid (FrI V w2 F p N R j wr vl Fj)) (fun v _ _ => k - (RowKit.intOf v).toNat)
 case atStart => exact ⟨0, F, Nat.zero_le _, rfl, HI0⟩
 case round =>
  obtain ⟨j, Fj, hj, rfl, HI⟩ := hrel
  have hi := HI.out
  obtain ⟨la, lc, hvl, hll⟩ := row_formk hi.row
  rw [leafs_len] at hvl hll
  subst hvl
  have o := HR.out.own
  have l := HR.out.lts
  have hnb : ¬ w.heap.size ∈ F := fun hm => by have := HLT.out _ hm; omega
  have hnc : ¬ w.heap.size + 1 ∈ F := fun hm => by have := HLT.out _ hm; omega
  have hbx := hi.tch.box hnb HB2.out.2.1
  have hbz := hi.tch.box hnc HB2.out.2.2
  have hmbx := hi.tch.box o.1 (HR.out.box.ext HB2.out.1)
  obtain ⟨c0, c1, c2, cf⟩ := hmbx.three
  have y2 := hbx.cells 2 _ rfl
  have y5 := hbx.cells 5 _ rfl
  obtain ⟨r0, r1, r2, r3, rf⟩ := hbz.four
  by_cases hjk : j < k
  ·have C := Fresh_at hi.isb (by omega)
   have HLT2 := Lib.hid hi.isb.lt
   have HRL := Lib.hid (hi.row.lt)
   clear r0 r1 r2 r3 rf hi y2 y5
   (go_wp2_with fail; go_fit (C); rintro e w5 ⟨F5, rfl, i5, t5, n5⟩)
   have hmbx5 := t5.box (fun hm => by
    rcases HI.out.new _ hm with e | e
    ·exact o.1 e
    ·have := HZ2.out; omega) hmbx
   have H5 := Lib.hid (And.intro i5 (And.intro t5 n5))
   have HROW5 := Lib.hid (owns_row_block (w' := w5) HI.out.row (fun q hq => t5.block q (HRL.out q hq).2 (HI.out.far q hq)))
   clear i5 t5 n5 C c0 c1 c2 cf hmbx hmbx5 hbx hbz
   have hw2s : w2.heap.size ≤ w5.heap.size := Nat.le_trans HI.out.tch.size H5.out.2.1.size
   obtain ⟨Nj, hNj⟩ : ∃ Nj, N + j = Nj := ⟨_, rfl⟩
   have HNJ := Lib.hid hNj
   rw [leafs_len] at HROW5
   rw [hNj]
   clear hNj
   go_upto_region 5 with fail
   obtain ⟨w6, e6, b6, z6, X6⟩ := box_new w5 #[.int .i64 0, .int .i64 (Nj : Nat), .string ⟨#[]⟩, .slice none 0 0] 31
   have HX6 := Lib.hid (And.intro b6 (And.intro X6 z6))
   rw [e6]
   clear X6 b6 z6
   obtain ⟨q0, q1, q2, q3, _⟩ := HX6.out.2.1.four
   clear e6
   have hz6 : w5.heap.size ≤ w6.heap.size := HX6.out.1.size
   have HROW6 := Lib.hid (show w6.ownsRow w2.heap.size 31 4 (.slice la j lc) j ((leafsP N j).flatMap pCells) from owns_row_block (w' := w6) HROW5.out (fun q hq => HX6.out.1.block q (HROW5.out.lt q hq).2))
   have hNb : Nj ≤ 65536 := by have := HNJ.out; omega
   go_wp2_with (at_builtin; refine wpList_append_k rfl _ _ 29 rfl w2.heap.size 31 i0 (.agg #[.int .i64 0, .int .i64 0, .string ⟨#[]⟩, .slice none 0 0]) 4 56 Try.underlying29 hi0 hz0 hs0 (by decide) hb0 rfl (.slice la j lc) j ((leafsP N j).flatMap pCells) rfl (HROW6.out.alloc _) (some ⟨w6.heap.size, 0, none⟩) 1 1 [.int .i64 0, .int .i64 (Nj : Nat), .string ⟨#[]⟩, .slice none 0 0] rfl rfl (Or.inr ⟨_, rfl, fun q u' hu' => cell_new w6 #[.int .i64 0, .int .i64 (Nj : Nat), .string ⟨#[]⟩, .slice none 0 0] _ q u' hu'⟩) (by simp [Value.oneCell']) (by unfold maxLen; omega) (by omega) (by simp; omega) (j + 1) ((leafsP N j).flatMap pCells ++ [.int .i64 0, .int .i64 (Nj : Nat), .string ⟨#[]⟩, .slice none 0 0]) rfl rfl ?_; intro a7 c7 w7 hown7 hgrow7 hat7; have HG7 := Lib.hid (And.intro hown7 (And.intro hgrow7 hat7)); clear hown7 hgrow7 hat7)
   go_roundw
   case rel =>
    have t67 := grown_touchM HG7.out.2.1
    have b56 : Below w5.heap.size w5 (w6.alloc (.cells #[.int .i64 0, .int .i64 (Nj : Nat), .string ⟨#[]⟩, .slice none 0 0] 31)) := Ext.trans' HX6.out.1 (bel1' _ _)
    have t57 : Touch (Value.slice la j lc).ownBlock.toList w5 w7 := (Touch.of_below b56 _).trans t67 (fun q hq => Or.inl hq)
    have hrl : ∀ q, (Value.slice la j lc).ownBlock = some q → w2.heap.size ≤ q ∧ ¬ q ∈ F5 := fun q hq => ⟨(HRL.out q hq).1, fun hm => by
     rcases H5.out.2.2 _ hm with e | e
     ·exact HI.out.far q hq e
     ·have := (HRL.out q hq).2; omega⟩
    refine ⟨j + 1, F5, by omega, by go_num, Lib.hid ⟨?_, ?_, fun q hq => ?_, ?_, fun q hq => ?_⟩⟩
    ·rw [show N + (j + 1) = N + j + 1 by omega]
     refine H5.out.1.keep (fun q hq => t57.block q (H5.out.1.lt q hq) (fun hm => by simp only [Option.mem_toList] at hm; exact (hrl q hm).2 hq)) ?_
     exact H5.out.1.see.1.touch (F := (Value.slice la j lc).ownBlock.toList) (fun a ha => by
      simp only [Option.mem_toList] at ha
      cases hc : V.cell? a with
      | none => rfl
      | some u =>
       have h1 := World.block_lt_of_cell? _ _ hc
       have h2 := HI0.out.isb.see.1.1
       have h3 := (hrl _ ha).1
       omega) t57
    ·exact (HI.out.tch.trans H5.out.2.1 (fun q hq => HI.out.new q hq)).trans t57 (fun q hq => by simp only [Option.mem_toList] at hq; exact Or.inr (hrl q hq).1)
    ·rcases H5.out.2.2 q hq with e | e
     ·exact HI.out.new q e
     ·exact Or.inr (Nat.le_trans HI.out.tch.size e)
    ·have h7 := HG7.out.1
     unfold RowP
     rw [leafs_next, List.flatMap_append, List.length_append, leafs_len]
     have e : [leafP N j].flatMap pCells = [.int .i64 0, .int .i64 (Nj : Nat), .string ⟨#[]⟩, .slice none 0 0] := by
      rw [← HNJ.out]; rfl
     rw [e]
     exact h7
    ·rcases HG7.out.2.2 with e | e
     ·rw [e] at hq; exact (hrl q hq).2
     ·rw [e] at hq
      have h1 := Option.some.inj hq
      intro hm
      have h2 := H5.out.1.lt q hm
      have h3 : w6.heap.size ≤ q := by rw [← h1]; simp
      omega
   case measure => simp [RowKit.intOf]; omega
  ·have hjk2 : j = k := by omega
   subst hjk2
   have hsrc := row_src hi.row (leafs_len N j)
   obtain ⟨D, hD⟩ : ∃ D : Nat → Bool, D = fun q => awayB (X ++ Fj) q || decide (q = w.heap.size + 1) := ⟨_, rfl⟩
   have hDs : D (w.heap.size + 1) = true := by rw [hD]; simp
   have hDl : ∀ q, D q = false → awayB (X ++ Fj) q = false := fun q hq => by
    rw [hD] at hq
    exact (Bool.or_eq_false_iff.1 hq).1
   have hsz2 := hi.tch.size
   have hDo : Old D wr := fun q hq => by
    rw [hD]
    have h1 := HZ2.out
    have h2 : awayB (X ++ Fj) q = false := by
     unfold awayB
     rw [decide_eq_false_iff_not]
     intro hm
     rcases List.mem_append.1 hm with hm | hm
     ·have := HXX.out q hm; omega
     ·have := hi.isb.lt q hm; omega
    show (awayB (X ++ Fj) q || decide (q = w.heap.size + 1)) = false
    rw [h2, Bool.false_or, decide_eq_false_iff_not]
    omega
   have C := comp_src (c := lc) (leafsP N j) s HS.out hDo (leafs_len N j) (by unfold BIG; omega) (leafs_tm N j (by omega) _) hsrc
   rw [leafs_fst] at C
   have HII := Lib.hid hi
   have HBZ := Lib.hid hbz
   clear hi hsrc c0 c1 c2 cf hD hbx hbz hmbx r0 r1 r2 r3 rf y2
   (go_wp2_with fail; go_fit (C); rintro e w6 ⟨v6, rfl, ht6, b6⟩)
   obtain ⟨k6, n6, s6, a6, m6, c6, rfl, f1, f2, f3, f4⟩ := four_of ht6
   obtain ⟨r0, r1, r2, r3, rf⟩ := (HBZ.out.ext b6).four
   have HT6 := Lib.hid (And.intro ht6 b6)
   clear f1 f2 f3 f4 ht6 b6 C y5
   go_wp2
   refine bodyPost_ret (v := .tuple #[.agg #[.int .i64 k6, .int .i64 n6, .string s6, .slice a6 m6 c6], .bool true]) (by rw [results_cell_tmp rfl]; go_simp) rfl ?_
   have t4 := touchM4 w6 (w.heap.size + 1) (.int .i64 k6) (.int .i64 n6) (.string s6) (.slice a6 m6 c6)
   have hfar : ∀ q ∈ Fj, q ≠ w.heap.size + 1 := fun q hq => by
    have h1 := HZ2.out
    rcases HII.out.new q hq with e | e
    ·have := HLT.out q e; omega
    ·omega
   have i6 := HII.out.isb.ext HT6.out.2
   refine ⟨Fj, _, rfl, i6.keep (fun q hq => t4.block q (i6.lt q hq) (fun hm => hfar q hq (List.mem_singleton.1 hm))) (i6.see.1.touch (F := [w.heap.size + 1]) (fun a ha => ?_) t4), ?_, fun q hq => ?_, ?_⟩
   ·cases hc : V.cell? a with
    | none => rfl
    | some u =>
     have h1 := World.block_lt_of_cell? _ _ hc
     have h3 := HR.out.rrow.lt
     have h4 := List.mem_singleton.1 ha
     have h5 := HVW.out
     omega
   ·exact (((Touch.of_below HB2.out.1 F).trans HII.out.tch (fun q hq => Or.inl hq)).trans (Touch.of_below HT6.out.2 []) (fun q hq => by cases hq)).trans t4 (fun q hq => by have := List.mem_singleton.1 hq; exact Or.inr (by omega))
   ·rcases HII.out.new q hq with e | e
    ·exact Or.inl e
    ·have := HZ2.out; exact Or.inr (by omega)
   ·exact TmV.stay (((((Stays.set _ _ hDs).trans (Stays.set _ _ hDs)).trans (Stays.set _ _ hDs)).trans (Stays.set _ _ hDs)).trans (Stays.less hDl)) _ _ HT6.out.1
end
end Go.Proofs.Ytchbbaehdcmcfaa
