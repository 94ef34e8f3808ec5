import Derived.Test.YtjhoekhfikcanaaHoqan
import Derived.Test.YtjhoekhfikcanaaHoqak
import Derived.Test.YtjhoekhfikcanaaHoqaf
set_option linter.unusedVariables false
set_option linter.unusedSimpArgs false
/- The document's side of chapter 11: one is let stand for something, in memory. -/
namespace Go.Proofs.Ytjhoekhfikcanaa
open Go.RowKit
set_option linter.unusedVariables false

theorem terms_set (ts : List TmP) (i : Nat) (hi : i < ts.length) (p : TmP) (a0 a1 a2 a3 : Value) (hp : pCells p = [a0, a1, a2, a3]) (q : Nat) :
    ((ts.set i p).flatMap pCells)[q]? = if i * 4 ≤ q ∧ q < i * 4 + 4 then [a0, a1, a2, a3][q - i * 4]? else (ts.flatMap pCells)[q]? := by
  rw [flat_cell (S := 4) (cells := pCells) (fun _ => rfl) (by omega), flat_cell (S := 4) (cells := pCells) (fun _ => rfl) (by omega)]
  by_cases h : i * 4 ≤ q ∧ q < i * 4 + 4
  · rw [if_pos h]
    have e : q / 4 = i := by omega
    rw [e, List.getElem?_set_self hi]
    show (pCells p)[q % 4]? = _
    rw [hp]
    congr 1
    omega
  · rw [if_neg h]
    have e : q / 4 ≠ i := by omega
    rw [List.getElem?_set_ne (Ne.symm e)]
theorem put4_row {w : World} {g c N i : Nat} {e : TypeId} {ts : List TmP} {p : TmP} {a0 a1 a2 a3 : Value} (h : w.ownsRow 0 e 4 (.slice (some ⟨g, 0, none⟩) N c) N (ts.flatMap pCells)) (hN : ts.length = N) (hi : i < N) (hp : pCells p = [a0, a1, a2, a3]) :
    (setAt w g (i * 4) a0 a1 a2 a3).ownsRow 0 e 4 (.slice (some ⟨g, 0, none⟩) N c) N ((ts.set i p).flatMap pCells) := by
  obtain ⟨h0, h1⟩ := h
  have hfl : ((ts.set i p).flatMap pCells).length = N * 4 := by rw [flat_len (cells := pCells) (S := 4) (fun _ => rfl), List.length_set, hN]
  have hfl0 : (ts.flatMap pCells).length = N * 4 := by rw [flat_len (cells := pCells) (S := 4) (fun _ => rfl), hN]
  refine ⟨hfl, ?_⟩
  rcases h1 with ⟨e, _⟩ | ⟨g', cap, cur, e, hg, hh, q1, q2, q3, q4⟩
  · cases e
  · cases e
    refine Or.inr ⟨g, c, _, rfl, Nat.zero_le _, blk_setc (blk_setc (blk_setc (blk_setc hh _ _) _ _) _ _) _ _, q1, q2, by simpa using q3, ?_⟩
    apply List.ext_getElem?
    intro q
    rw [terms_set ts i (by omega) p a0 a1 a2 a3 hp q, ← q4]
    rw [List.getElem?_take, List.getElem?_take]
    by_cases hq : q < N * 4
    · rw [if_pos hq, if_pos hq]
      simp only [Array.getElem?_toList, Array.getElem?_setIfInBounds, Array.size_setIfInBounds]
      have hsz : cur.size = c * 4 := by rw [q3]
      by_cases hb : i * 4 ≤ q ∧ q < i * 4 + 4
      · rw [if_pos hb]
        obtain ⟨j, hj⟩ : ∃ j, q = i * 4 + j := ⟨q - i * 4, by omega⟩
        have hj5 : j < 4 := by omega
        subst hj
        have hin : i * 4 + j < cur.size := by rw [hsz]; omega
        rw [Nat.add_sub_cancel_left]
        match j, hj5 with
        | 0, _ => simp; omega
        | 1, _ => simp; omega
        | 2, _ => simp; omega
        | 3, _ => simp; omega
      · rw [if_neg hb, if_neg (by omega), if_neg (by omega), if_neg (by omega), if_neg (by omega)]
    · rw [if_neg hq, if_neg hq]
      have hb : ¬ (i * 4 ≤ q ∧ q < i * 4 + 4) := by omega
      rw [if_neg hb]
theorem RefOK.set {V : World} {N : Nat} {R : List (Int × Tm)} {ts : List TmP} {bs : List Bool} (h : RefOK V N R ts bs) {i : Nat} (hi : i < N) (hts : ts.length = N) (hbs : bs.length = N) {y : Tm} {u : Value} (hy : TmV V y (pVal (y, u))) : RefOK V N (((i : Int), y) :: R) (ts.set i (y, u)) (bs.set i true) := by
  refine ⟨fun j hj => ?_, fun j t ht => ?_⟩
  · rw [get_cons]
    by_cases e : (i : Int) = j
    · rw [if_pos e]
      have : i = j := by omega
      subst this
      rw [List.getElem?_set_self (by omega)]; rfl
    · rw [if_neg e, List.getElem?_set_ne (by omega)]
      exact h.is j hj
  · rw [get_cons] at ht
    by_cases e : (i : Int) = j
    · rw [if_pos e] at ht
      cases ht
      have : i = j := by omega
      subst this
      exact ⟨u, by rw [List.getElem?_set_self (by omega)], hy⟩
    · rw [if_neg e] at ht
      obtain ⟨u', e1, e2⟩ := h.held j t ht
      exact ⟨u', by rw [List.getElem?_set_ne (by omega)]; exact e1, e2⟩
/-- One term and one mark, stored. -/
abbrev putR (w : World) (g1 g2 n : Nat) (u0 u1 u2 u3 : Value) : World := (setAt w g1 (n * 4) u0 u1 u2 u3).setCell ⟨g2, n, none⟩ (.bool true)
section
variable {V w : World} {F : List Nat} {p : Value} {N : Nat} {R : List (Int × Tm)}
set_option maxHeartbeats 4000000 in
theorem IsR.store (h : IsR V F w p N R) {n : Nat} (hn : n < N) {x : Tm} {k m : Int} {s : ByteArray} {a : Option Addr} {l c : Nat} (hx : TmV V x (.agg #[.int .i64 k, .int .i64 m, .string s, .slice a l c])) (hT : Tri N (((n : Int), x) :: R)) :
    ∃ bt g1 c1 g2 c2 a3 c3, p = .pointer (some ⟨bt, 0, none⟩) ∧ (bt < w.heap.size ∧ g1 < w.heap.size ∧ g2 < w.heap.size) ∧ (bt ≠ g1 ∧ bt ≠ g2 ∧ g1 ≠ g2) ∧ (bt ∈ F ∧ g1 ∈ F ∧ g2 ∈ F) ∧
      (w.cell? ⟨bt, 0, none⟩ = some (.slice (some ⟨g1, 0, none⟩) N c1) ∧ w.cell? ⟨bt, 1, none⟩ = some (.slice (some ⟨g2, 0, none⟩) N c2) ∧ w.cell? ⟨bt, 2, none⟩ = some (.slice a3 R.length c3)) ∧
      (∀ j, j < 4 → ∃ u, w.cell? ⟨g1, n * 4 + j, none⟩ = some u) ∧ (∃ u, w.cell? ⟨g2, n, none⟩ = some u) ∧ (∀ q, w.frozen? ⟨g1, q, none⟩ = false) ∧ (∀ q, w.frozen? ⟨g2, q, none⟩ = false) ∧ (R.length ≤ c3 ∧ c3 ≤ maxLen) ∧
      ∀ wS, wS = putR w g1 g2 n (.int .i64 k) (.int .i64 m) (.string s) (.slice a l c) →
        Touch F w wS ∧ wS.ownsRow 0 2 1 (.slice a3 R.length c3) R.length (trailV R) ∧ (∀ j, wS.cell? ⟨bt, j, none⟩ = w.cell? ⟨bt, j, none⟩) ∧ (∀ j, wS.frozen? ⟨bt, j, none⟩ = false) ∧
        ∀ (x1 wA : World) (v : Value), Below wS.heap.size wS x1 → x1.grownBy wA (Value.slice a3 R.length c3).ownBlock → (v.ownBlock = (Value.slice a3 R.length c3).ownBlock ∨ v.ownBlock = some x1.heap.size) → wA.ownsRow 0 2 1 v (R.length + 1) (trailV R ++ [.int .i64 n]) →
          (∀ j, wA.cell? ⟨bt, j, none⟩ = w.cell? ⟨bt, j, none⟩) ∧ (∀ j, wA.frozen? ⟨bt, j, none⟩ = false) ∧
          ∃ F', IsR V F' (wA.setCell ⟨bt, 2, none⟩ v) p N (((n : Int), x) :: R) ∧ Touch F w (wA.setCell ⟨bt, 2, none⟩ v) ∧ ∀ k ∈ F', k ∈ F ∨ w.heap.size ≤ k := by
  have hF := h.lt
  obtain ⟨bt, v1, v2, v3, ts, bs, rfl, rfl, hnd, h1, hl1, hl2, h4, h5, h6, h7, h8, h9, h10, h11⟩ := h
  rcases h4.2 with ⟨e, hz⟩ | ⟨g1, c1, cur1, rfl, _, hh1, p1, p2, p3, p4⟩
  · omega
  rcases h5.2 with ⟨e, hz⟩ | ⟨g2, c2, cur2, rfl, _, hh2, r1, r2, r3, r4⟩
  · omega
  obtain ⟨a3, c3, hv3, hc3a, hc3b⟩ : ∃ a3 c3, v3 = .slice a3 R.length c3 ∧ R.length ≤ c3 ∧ c3 ≤ maxLen := by
    rcases h6.2 with ⟨e, hz⟩ | ⟨g, cap, cur, e, _, _, s1, s2, _⟩
    · exact ⟨none, 0, by rw [e, hz], by omega, Nat.zero_le _⟩
    · exact ⟨_, _, e, s1, s2⟩
  subst hv3
  obtain ⟨e1, e2⟩ := List.nodup_cons.1 hnd
  have nb1 : bt ≠ g1 := fun e => e1 (by simp [Value.ownBlock, e])
  have nb2 : bt ≠ g2 := fun e => e1 (by simp [Value.ownBlock, e])
  have nb3 : (Value.slice a3 R.length c3).ownBlock ≠ some bt := fun e => e1 (by simp [e])
  have n12 : g1 ≠ g2 := fun e => (List.nodup_append.1 e2).2.2 g1 (by simp [Value.ownBlock]) g2 (by simp [Value.ownBlock]) e
  have n13 : (Value.slice a3 R.length c3).ownBlock ≠ some g1 := fun e => (List.nodup_append.1 e2).2.2 g1 (by simp [Value.ownBlock]) g1 (by simp [e]) rfl
  have n23 : (Value.slice a3 R.length c3).ownBlock ≠ some g2 := fun e => (List.nodup_append.1 (List.nodup_append.1 e2).2.1).2.2 g2 (by simp [Value.ownBlock]) g2 (by simp [e]) rfl
  have ho3 : ∀ k, (Value.slice a3 R.length c3).ownBlock = some k → k < w.heap.size := fun k e => hF k (by simp [e])
  have hb0 : bt < w.heap.size := hF bt (by simp)
  have hg1 : g1 < w.heap.size := hF g1 (by simp [Value.ownBlock])
  have hg2 : g2 < w.heap.size := hF g2 (by simp [Value.ownBlock])
  obtain ⟨u, hu⟩ := hx.pair
  have hu' := hu
  simp only [pVal, Value.agg.injEq] at hu'
  have hu2 := congrArg Array.toList hu'
  simp only [List.cons.injEq, and_true] at hu2
  obtain ⟨q0, q1, q2, rfl⟩ := hu2
  have hpc : pCells (x, .slice a l c) = [.int .i64 k, .int .i64 m, .string s, .slice a l c] := by simp only [pCells, q0, q1, q2]
  refine ⟨bt, g1, c1, g2, c2, a3, c3, rfl, ⟨hb0, hg1, hg2⟩, ⟨nb1, nb2, n12⟩, ⟨by simp, by simp [Value.ownBlock], by simp [Value.ownBlock]⟩, ⟨by simp [blk_cell h1], by simp [blk_cell h1], by simp [blk_cell h1]⟩, fun j hj => ?_, ?_, fun q => by simp [World.frozen?, hh1], fun q => by simp [World.frozen?, hh2], ⟨hc3a, hc3b⟩, fun wS hS => ?_⟩
  · rw [blk_cell hh1]
    have hlt : n * 4 + j < cur1.size := by rw [p3]; omega
    exact ⟨_, Array.getElem?_eq_getElem hlt⟩
  · rw [blk_cell hh2]
    have hlt : n < cur2.size := by rw [r3]; omega
    exact ⟨_, Array.getElem?_eq_getElem hlt⟩
  · have hother : ∀ j, j ≠ g1 → j ≠ g2 → wS.heap[j]? = w.heap[j]? := fun j j1 j2 => by
      rw [hS]
      unfold putR setAt
      rw [Below.heap_setCell _ _ _ j j2, Below.heap_setCell _ _ _ j j1, Below.heap_setCell _ _ _ j j1, Below.heap_setCell _ _ _ j j1, Below.heap_setCell _ _ _ j j1]
    have hsz : wS.heap.size = w.heap.size := by rw [hS]; simp [World.setCell]
    have tS : Touch (bt :: ((Value.slice (some ⟨g1, 0, none⟩) N c1).ownBlock.toList ++ ((Value.slice (some ⟨g2, 0, none⟩) N c2).ownBlock.toList ++ (Value.slice a3 R.length c3).ownBlock.toList))) w wS := by
      refine ⟨by rw [hS]; rfl, by rw [hS]; rfl, by rw [hS]; rfl, Nat.le_of_eq hsz.symm, fun j hj hm => hother j (fun e => hm (by simp [e, Value.ownBlock])) (fun e => hm (by simp [e, Value.ownBlock]))⟩
    have hbS : wS.heap[bt]? = w.heap[bt]? := hother bt nb1 nb2
    have h6S : wS.ownsRow 0 2 1 (.slice a3 R.length c3) R.length (trailV R) := row_at h6 (fun g hg => hother g (fun e => n13 (by rw [← e]; exact hg)) (fun e => n23 (by rw [← e]; exact hg)))
    have r1S : wS.ownsRow 0 48 4 (.slice (some ⟨g1, 0, none⟩) N c1) N ((ts.set n (x, .slice a l c)).flatMap pCells) := by
      rw [hS]
      exact row_at (put4_row h4 hl1 hn hpc) (fun g hg => Below.heap_setCell _ _ _ g (fun e => n12 (by simp [Value.ownBlock] at hg; rw [hg, e])))
    have r2S : wS.ownsRow 0 4 1 (.slice (some ⟨g2, 0, none⟩) N c2) N ((bs.set n true).map Value.bool) := by
      rw [hS, List.map_set]
      exact put1_row (row_at h5 (fun g hg => by
        have hne : g ≠ g1 := fun e => n12 (by simp [Value.ownBlock] at hg; rw [hg, ← e])
        unfold setAt
        rw [Below.heap_setCell _ _ _ g hne, Below.heap_setCell _ _ _ g hne, Below.heap_setCell _ _ _ g hne, Below.heap_setCell _ _ _ g hne])) hn
    refine ⟨tS, h6S, fun j => World.cell?_of_block hbS, fun j => by simp [World.frozen?, hbS, h1], fun x1 wA v b1 gA hat rA => ?_⟩
    have s1 := b1.size
    have s2 := gA.size
    have key : ∀ j, j < wS.heap.size → (Value.slice a3 R.length c3).ownBlock ≠ some j → wA.heap[j]? = wS.heap[j]? := fun j hj hne => by
      rw [gA.block j (by omega) (fun e => hne e.symm), b1.block j hj]
    have hbA : wA.heap[bt]? = w.heap[bt]? := (key bt (by omega) nb3).trans hbS
    have bA := hbA.trans h1
    have hv : ∀ k, v.ownBlock = some k → (Value.slice a3 R.length c3).ownBlock = some k ∨ k = x1.heap.size := fun k hk => by
      rcases hat with e | e <;> rw [hk] at e
      · exact Or.inl e.symm
      · injection e with e; exact Or.inr e
    have nbv : v.ownBlock ≠ some bt := fun e => by rcases hv _ e with h | h; exact nb3 h; omega
    have n1v : v.ownBlock ≠ some g1 := fun e => by rcases hv _ e with h | h; exact n13 h; omega
    have n2v : v.ownBlock ≠ some g2 := fun e => by rcases hv _ e with h | h; exact n23 h; omega
    have hset : ∀ j, j ≠ bt → (wA.setCell ⟨bt, 2, none⟩ v).heap[j]? = wA.heap[j]? := fun j hj => Below.heap_setCell _ _ _ j hj
    have tw : Touch (bt :: ((Value.slice (some ⟨g1, 0, none⟩) N c1).ownBlock.toList ++ ((Value.slice (some ⟨g2, 0, none⟩) N c2).ownBlock.toList ++ (Value.slice a3 R.length c3).ownBlock.toList))) w (wA.setCell ⟨bt, 2, none⟩ v) := by
      refine ⟨gA.os.trans (b1.os.trans tS.os), gA.tape.trans (b1.tape.trans tS.tape), gA.output.trans (b1.output.trans tS.output), by simp [World.setCell]; omega, fun j hj hm => ?_⟩
      have hm' := hm
      simp only [List.mem_cons, List.mem_append, Option.mem_toList, not_or] at hm'
      rw [hset j hm'.1, key j (by omega) hm'.2.2.2]
      exact tS.block j hj hm
    have hin : ∀ k ∈ bt :: ((Value.slice (some ⟨g1, 0, none⟩) N c1).ownBlock.toList ++ ((Value.slice (some ⟨g2, 0, none⟩) N c2).ownBlock.toList ++ v.ownBlock.toList)), k ∈ bt :: ((Value.slice (some ⟨g1, 0, none⟩) N c1).ownBlock.toList ++ ((Value.slice (some ⟨g2, 0, none⟩) N c2).ownBlock.toList ++ (Value.slice a3 R.length c3).ownBlock.toList)) ∨ w.heap.size ≤ k := fun k hk => by
      simp only [List.mem_cons, List.mem_append, Option.mem_toList] at hk ⊢
      rcases hk with hk | hk | hk | hk
      · exact Or.inl (Or.inl hk)
      · exact Or.inl (Or.inr (Or.inl hk))
      · exact Or.inl (Or.inr (Or.inr (Or.inl hk)))
      · rcases hv k hk with h | h
        · exact Or.inl (Or.inr (Or.inr (Or.inr h)))
        · exact Or.inr (by omega)
    have hok : RefOK V N (((n : Int), x) :: R) (ts.set n (x, .slice a l c)) (bs.set n true) := h7.set hn hl1 hl2 (by rw [← hu]; exact hx)
    refine ⟨fun j => World.cell?_of_block hbA, fun j => by simp [World.frozen?, bA], _, ⟨bt, _, _, v, ts.set n (x, .slice a l c), bs.set n true, rfl, rfl, ?_, ?_, by simpa using hl1, by simpa using hl2, ?_, ?_, ?_, hok, hT, h9, h10.touch h11 tw, Blind.some h11 h10 hin⟩, tw, hin⟩
    · obtain ⟨ob, hob⟩ : ∃ ob, v.ownBlock = ob := ⟨_, rfl⟩
      rw [hob] at nbv n1v n2v ⊢
      simp only [Value.ownBlock, Option.toList_some]
      refine List.nodup_cons.2 ⟨fun hm => ?_, ?_⟩
      · simp only [List.cons_append, List.nil_append, List.mem_cons, Option.mem_toList] at hm
        rcases hm with hm | hm | hm
        · exact nb1 hm
        · exact nb2 hm
        · exact nbv hm
      · simp only [List.cons_append, List.nil_append]
        refine List.nodup_cons.2 ⟨fun hm => ?_, List.nodup_cons.2 ⟨fun hm => ?_, ?_⟩⟩
        · simp only [List.mem_cons, Option.mem_toList] at hm
          rcases hm with hm | hm
          · exact n12 hm
          · exact n1v hm
        · exact n2v (by simpa using hm)
        · cases ob <;> simp
    · rw [blk_setc bA]; rfl
    · exact row_at r1S (fun g hg => by
        simp [Value.ownBlock] at hg
        subst hg
        rw [hset _ nb1.symm]
        exact key _ (by omega) n13)
    · exact row_at r2S (fun g hg => by
        simp [Value.ownBlock] at hg
        subst hg
        rw [hset _ nb2.symm]
        exact key _ (by omega) n23)
    · rw [trail_cons]
      exact row_at rA (fun g hg => hset g (fun e => nbv (by rw [← e]; exact hg)))
end
end Go.Proofs.Ytjhoekhfikcanaa
/- Both sides of chapter 11 in one memory. -/
namespace Go.Proofs.Ytjhoekhfikcanaa
open Go.RowKit
set_option linter.unusedVariables false

/-- Both sides in one memory, made since W, each blind to the other's blocks. -/
def PairB (W V w : World) (F F2 : List Nat) (p q : Value) (N : Nat) (R : List (Int × Tm)) (N2 : Nat) (S : List (Int × Tm)) : Prop :=
  IsB V F w p N R ∧ IsR V F2 w q N2 S ∧ (∀ k ∈ F, W.heap.size ≤ k) ∧ (∀ k ∈ F2, W.heap.size ≤ k) ∧ (∀ k ∈ F, ¬ k ∈ F2) ∧ Below W.heap.size W w
section
variable {W V w : World} {F F2 : List Nat} {p q : Value} {N N2 : Nat} {R S : List (Int × Tm)}
theorem PairB.bel (h : PairB W V w F F2 p q N R N2 S) : Below W.heap.size W w := h.2.2.2.2.2
theorem PairB.ext {w' : World} (h : PairB W V w F F2 p q N R N2 S) (hb : Below w.heap.size w w') : PairB W V w' F F2 p q N R N2 S :=
  ⟨h.1.ext hb, h.2.1.ext hb, h.2.2.1, h.2.2.2.1, h.2.2.2.2.1, h.bel.trans (hb.mono h.bel.size)⟩
theorem PairB.left {w' : World} {F' : List Nat} {N' : Nat} {R' : List (Int × Tm)} (h : PairB W V w F F2 p q N R N2 S) (h1 : IsB V F' w' p N' R') (t : Touch F w w') (hin : ∀ k ∈ F', k ∈ F ∨ w.heap.size ≤ k) : PairB W V w' F' F2 p q N' R' N2 S := by
  obtain ⟨g1, g2, g3, g4, g5, g6⟩ := h
  exact ⟨h1, g2.touch t g5 g1.see.2, fun k hk => (hin k hk).elim (g3 k) (fun e => Nat.le_trans g6.size e), g4, fun k hk hm => (hin k hk).elim (fun e => g5 k e hm) (fun e => by have := g2.lt k hm; omega), g6.trans (t.below g6.size g3)⟩
theorem PairB.right {w' : World} {F' : List Nat} {N' : Nat} {S' : List (Int × Tm)} (h : PairB W V w F F2 p q N R N2 S) (h1 : IsR V F' w' q N' S') (t : Touch F2 w w') (hin : ∀ k ∈ F', k ∈ F2 ∨ w.heap.size ≤ k) : PairB W V w' F F' p q N R N' S' := by
  obtain ⟨g1, g2, g3, g4, g5, g6⟩ := h
  exact ⟨g1.touch t (fun k hk hm => g5 k hm hk) g2.see.2, h1, g3, fun k hk => (hin k hk).elim (g4 k) (fun e => Nat.le_trans g6.size e), fun k hk hm => (hin k hm).elim (g5 k hk) (fun e => by have := g1.lt k hk; omega), g6.trans (t.below g6.size g4)⟩
/-- Where all is seen but their own blocks. -/
abbrev seenB (F F2 : List Nat) (w : World) : World := hide (awayB (F ++ F2)) w
theorem PairB.stays (h : PairB W V w F F2 p q N R N2 S) : Stays V (seenB F F2 w) := by
  obtain ⟨g1, g2, _⟩ := h
  refine ⟨by rw [hide_size]; exact g1.see.1.1, fun a v hv => ?_⟩
  have n1 : ¬ a.block ∈ F := fun hm => by rw [g1.see.2 a hm] at hv; cases hv
  have n2 : ¬ a.block ∈ F2 := fun hm => by rw [g2.see.2 a hm] at hv; cases hv
  rw [hide_cell _ _ _ (by simp [awayB, n1, n2])]
  exact g1.see.1.2 a v hv
theorem PairB.rebase (h : PairB W V w F F2 p q N R N2 S) : PairB W (seenB F F2 w) w F F2 p q N R N2 S :=
  ⟨h.1.from h.stays (Stays.unhide _ _) (fun a ha => hide_gone _ _ _ (by simp [awayB, ha])), h.2.1.from h.stays (Stays.unhide _ _) (fun a ha => hide_gone _ _ _ (by simp [awayB, ha])), h.2.2⟩
theorem PairB.old (h : PairB W V w F F2 p q N R N2 S) : Stays W (seenB F F2 w) := by
  obtain ⟨g1, g2, g3, g4, g5, g6⟩ := h
  refine ⟨by rw [hide_size]; exact g6.size, fun a v hv => ?_⟩
  have hl := World.block_lt_of_cell? _ _ hv
  have n1 : ¬ a.block ∈ F := fun hm => by have := g3 _ hm; omega
  have n2 : ¬ a.block ∈ F2 := fun hm => by have := g4 _ hm; omega
  rw [hide_cell _ _ _ (by simp [awayB, n1, n2])]
  exact cell_later g6 hv
theorem PairB.newer {w' : World} (h : PairB W V w F F2 p q N R N2 S) {b j : Nat} (hb : w.heap.size ≤ b) {v : Value} (hv : w'.cell? ⟨b, j, none⟩ = some v) : (seenB F F2 w').cell? ⟨b, j, none⟩ = some v := by
  have n1 : ¬ b ∈ F := fun hm => by have := h.1.lt _ hm; omega
  have n2 : ¬ b ∈ F2 := fun hm => by have := h.2.1.lt _ hm; omega
  rw [hide_cell _ _ _ (by simp [awayB, n1, n2])]
  exact hv
theorem PairB.cell (h : PairB W V w F F2 p q N R N2 S) {a : Addr} {v : Value} (hv : V.cell? a = some v) : w.cell? a = some v := h.1.see.1.2 a v hv
theorem PairB.oldD (h : PairB W V w F F2 p q N R N2 S) : Old (awayB (F ++ F2)) w := fun k hk => by
  have n1 : ¬ k ∈ F := fun hm => by have := h.1.lt _ hm; omega
  have n2 : ¬ k ∈ F2 := fun hm => by have := h.2.1.lt _ hm; omega
  simp [awayB, n1, n2]
end
/-- What the laws carry from call to call. -/
def TwoI (W w : World) (p q : Value) (N : Nat) : Prop := ∃ V F F2 R S, PairB W V w F F2 p q N R N S ∧ Sync R S
theorem TwoI.bel {W w : World} {p q : Value} {N : Nat} (h : TwoI W w p q N) : Below W.heap.size W w := by
  obtain ⟨V, F, F2, R, S, h1, h2⟩ := h
  exact h1.bel
/-- Seen from where all is seen but their own blocks. -/
theorem TwoI.open {W w : World} {p q : Value} {N : Nat} (h : TwoI W w p q N) : ∃ F F2 R S, PairB W (seenB F F2 w) w F F2 p q N R N S ∧ Sync R S ∧ Stays W (seenB F F2 w) := by
  obtain ⟨V, F, F2, R, S, h1, h2⟩ := h
  exact ⟨F, F2, R, S, h1.rebase, h2, h1.old⟩
theorem BothI.two {V W w wr : World} {p q : Value} {N : Nat} (h : BothI V w p q N wr) (hb : Below W.heap.size W w) : TwoI W wr p q N := by
  obtain ⟨F, F2, h1, h2, h3, h4, h5, h6⟩ := h
  exact ⟨V, F, F2, [], [], ⟨h1, h2, fun k hk => Nat.le_trans hb.size (h3 k hk), fun k hk => Nat.le_trans hb.size (h4 k hk), h5, hb.trans (h6.mono hb.size)⟩, trivial⟩
end Go.Proofs.Ytjhoekhfikcanaa
