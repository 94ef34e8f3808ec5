import Derived.Test.YtannchfoldnhcaaHkpao
set_option linter.unusedVariables false
set_option linter.unusedSimpArgs false
/- Package code: a name of new variables. -/
namespace Go.Proofs.Ytannchfoldnhcaa
open Go.RowKit
set_option linter.unusedVariables false

def leafP (N : Nat) (i : Nat) : TmP := (varV ((N + i : Nat) : Int), .slice none 0 0)
def leafsP (N j : Nat) : List TmP := (List.range j).map (leafP N)
theorem leafs_len (N j : Nat) : (leafsP N j).length = j := by unfold leafsP; rw [List.length_map, List.length_range]
theorem leafs_fst (N j : Nat) : (leafsP N j).map (·.1) = freshL N j := by
  unfold leafsP freshL
  rw [List.map_map]
  rfl
theorem leafs_next (N j : Nat) : leafsP N (j + 1) = leafsP N j ++ [leafP N j] := by
  unfold leafsP
  rw [List.range_succ, List.map_append]
  rfl
theorem leafs_tm (N j : Nat) (hN : N + j ≤ 65536) (w : World) : ∀ q ∈ leafsP N j, TmV w q.1 (pVal q) := by
  intro q hq
  unfold leafsP at hq
  obtain ⟨i, hi, rfl⟩ := List.mem_map.1 hq
  have := List.mem_range.1 hi
  exact leaf_tm w i64_0 (by unfold I64; omega) (by unfold BIG; decide)
theorem touchM4 (w : World) (b : Nat) (u0 u1 u2 u3 : Value) : Touch [b] w (set4 w b u0 u1 u2 u3) :=
  (((touch_one w b 0 u0).trans (touch_one _ b 1 u1) (fun k hk => Or.inl hk)).trans (touch_one _ b 2 u2) (fun k hk => Or.inl hk)).trans (touch_one _ b 3 u3) (fun k hk => Or.inl hk)
theorem grown_touchM {w w' : World} {v : Value} (hg : w.grownBy w' v.ownBlock) : Touch v.ownBlock.toList w w' := ⟨hg.os, hg.tape, hg.output, hg.size, fun k hk hn => hg.block k hk (fun e => hn (by simp [← e]))⟩
theorem row_src {w : World} {b : Nat} {ty : TypeId} {a : Option Addr} {m c : Nat} {ps : List TmP} (h : RowP w b ty (.slice a m c) ps) (hm : ps.length = m) : m = 0 ∨ ∃ ad, a = some ad ∧ ∀ j u, (ps.flatMap pCells)[j]? = some u → w.cell? (ad.add j) = some u := by
  rcases h.2 with ⟨e, h1⟩ | ⟨g, cap, cur, e, hg, hh, q1, q2, q3, q4⟩
  · left; omega
  · right
    injection e with e1 e2 e3
    refine ⟨_, e1, fun j u hj => ?_⟩
    rw [add_plain, Nat.zero_add, blk_cell hh]
    rw [← q4, List.getElem?_take] at hj
    split at hj
    · simpa using hj
    · cases hj
section
variable {V w w' : World} {F F' : List Nat} {mb gb tb n S N : Nat} {p : Value} {regs : List Tm} {sl : Int → Option Tm} {R S0 : List (Int × Tm)}
/-- What holds as they are made. -/
structure FrI (V w : World) (F : List Nat) (p : Value) (N : Nat) (R : List (Int × Tm)) (j : Nat) (wr : World) (vl : Value) (Fj : List Nat) : Prop where
  isb : IsB V Fj wr p (N + j) R
  tch : Touch F w wr
  new : ∀ k ∈ Fj, k ∈ F ∨ w.heap.size ≤ k
  row : RowP wr w.heap.size 31 vl (leafsP N j)
  far : ∀ k, vl.ownBlock = some k → ¬ k ∈ Fj
/-- What fresh leaves. -/
def FrsP (V : World) (X F : List Nat) (w : World) (p : Value) (N k : Nat) (R : List (Int × Tm)) (s : ByteArray) (e : Ending) (w' : World) : Prop :=
  ∃ F' v, e = .returned (.tuple #[v, .bool true]) ∧ IsB V F' w' p (N + k) R ∧ Touch F w w' ∧ (∀ q ∈ F', q ∈ F ∨ w.heap.size ≤ q) ∧ TmV (hide (awayB (X ++ F')) w') (nameT s (freshL N k)) v
set_option maxHeartbeats 8000000 in
set_option maxRecDepth 100000 in
theorem freshM_at (hI : IsB V F w p N R) (h : RunS V w F mb gb tb n S p regs sl) (x : InsM) (hx : InsIn x) {k : Nat} (hk : x.b = (k : Int)) (hk8 : k ≤ 8) (hN : N + k ≤ 65536) {X : List Nat} (hX : ∀ q ∈ X, q < w.heap.size) :
    Calls Try.prog 80 #[.pointer (some ⟨mb, 0, none⟩), insVal x] w (FrsP V X F w p N k R x.s) := by
  obtain ⟨op, a, b, c, m, s⟩ := x
  obtain rfl : b = (k : Int) := hk
  obtain ⟨w1, e1, B1, z1, X1⟩ := box_new w #[.string op, .int .i64 a, .int .i64 k, .int .i64 c, .int .i64 m, .string s] 36
  obtain ⟨w2, e2, B2, z2, X2⟩ := box_new w1 #[.int .i64 0, .int .i64 0, .string ⟨#[]⟩, .slice none 0 0] 31
  have X1 := X1.ext B2
  have B12 := Ext.trans' B1 B2
  rw [z1] at X2
  have hI2 := hI.ext B12
  have x2 := X1.cells 2 _ rfl
  have HE := Lib.hid (And.intro e1 e2)
  have HB2 := Lib.hid (And.intro B12 (And.intro X1 X2))
  have HZ2 := Lib.hid (show w2.heap.size = w.heap.size + 2 by omega)
  have HLT := Lib.hid hI.lt
  have HS := Lib.hid hx.s
  have HR := Lib.hid h
  have HXX := Lib.hid hX
  have HVW := Lib.hid hI.see.1.1
  have HI0 := Lib.hid (show FrI V w2 F p N R 0 w2 (.slice none 0 0) F from ⟨hI2, Touch.refl' _ _, fun k hk => Or.inl hk, World.ownsRow_nil _ _ _ _, fun k hk => by simp [Value.ownBlock] at hk⟩)
  obtain ⟨i0, hi0, hz0, hs0, hb0⟩ := info_parts infoTermB
  unfold insVal
  clear hI h hx B1 B2 B12 X1 X2 z1 z2 e1 e2 hI2 hX
  go_enter Try.func80, Try.ntmps80
  go_upto_region 1 with fail
  (try rw [HE.out.1, HE.out.2])
  go_wp2_with fail
  go_loopw [11, 6] (fun v vl wr => ∃ j Fj, j ≤ k ∧ v = .int .i64 (j : Nat) ∧ Hid (FrI V w2 F p N R j wr vl Fj)) (fun v _ _ => k - (intOf v).toNat)
  case atStart => exact ⟨0, F, Nat.zero_le _, rfl, HI0⟩
  case round =>
    obtain ⟨j, Fj, hj, rfl, HI⟩ := hrel
    have hi := HI.out
    obtain ⟨la, lc, hvl, hll⟩ := row_formk hi.row
    rw [leafs_len] at hvl hll
    subst hvl
    have o := HR.out.own
    have l := HR.out.lts
    have hnb : ¬ w.heap.size ∈ F := fun hm => by have := HLT.out _ hm; omega
    have hnc : ¬ w.heap.size + 1 ∈ F := fun hm => by have := HLT.out _ hm; omega
    have hbx := hi.tch.box hnb HB2.out.2.1
    have hbz := hi.tch.box hnc HB2.out.2.2
    have hmbx := hi.tch.box o.1 (HR.out.box.ext HB2.out.1)
    obtain ⟨c0, c1, c2, cf⟩ := hmbx.three
    have y2 := hbx.cells 2 _ rfl
    have y5 := hbx.cells 5 _ rfl
    obtain ⟨r0, r1, r2, r3, rf⟩ := hbz.four
    by_cases hjk : j < k
    · have C := Fresh_at hi.isb (by omega)
      have HLT2 := Lib.hid hi.isb.lt
      have HRL := Lib.hid (hi.row.lt)
      clear r0 r1 r2 r3 rf hi y2 y5
      (go_wp2_with fail; go_fit (C); rintro e w5 ⟨F5, rfl, i5, t5, n5⟩)
      have hmbx5 := t5.box (fun hm => by
        rcases HI.out.new _ hm with e | e
        · exact o.1 e
        · have := HZ2.out; omega) hmbx
      have H5 := Lib.hid (And.intro i5 (And.intro t5 n5))
      have HROW5 := Lib.hid (owns_row_block (w' := w5) HI.out.row (fun q hq => t5.block q (HRL.out q hq).2 (HI.out.far q hq)))
      clear i5 t5 n5 C c0 c1 c2 cf hmbx hmbx5 hbx hbz
      have hw2s : w2.heap.size ≤ w5.heap.size := Nat.le_trans HI.out.tch.size H5.out.2.1.size
      obtain ⟨Nj, hNj⟩ : ∃ Nj, N + j = Nj := ⟨_, rfl⟩
      have HNJ := Lib.hid hNj
      rw [leafs_len] at HROW5
      rw [hNj]
      clear hNj
      go_upto_region 5 with fail
      obtain ⟨w6, e6, b6, z6, X6⟩ := box_new w5 #[.int .i64 0, .int .i64 (Nj : Nat), .string ⟨#[]⟩, .slice none 0 0] 31
      have HX6 := Lib.hid (And.intro b6 (And.intro X6 z6))
      rw [e6]
      clear X6 b6 z6
      obtain ⟨q0, q1, q2, q3, _⟩ := HX6.out.2.1.four
      clear e6
      have hz6 : w5.heap.size ≤ w6.heap.size := HX6.out.1.size
      have HROW6 := Lib.hid (show w6.ownsRow w2.heap.size 31 4 (.slice la j lc) j ((leafsP N j).flatMap pCells) from owns_row_block (w' := w6) HROW5.out (fun q hq => HX6.out.1.block q (HROW5.out.lt q hq).2))
      have hNb : Nj ≤ 65536 := by have := HNJ.out; omega
      go_wp2_with (at_builtin; refine wpList_append_k rfl _ _ 29 rfl w2.heap.size 31 i0 (.agg #[.int .i64 0, .int .i64 0, .string ⟨#[]⟩, .slice none 0 0]) 4 56 Try.underlying29 hi0 hz0 hs0 (by decide) hb0 rfl (.slice la j lc) j ((leafsP N j).flatMap pCells) rfl (HROW6.out.alloc _) (some ⟨w6.heap.size, 0, none⟩) 1 1 [.int .i64 0, .int .i64 (Nj : Nat), .string ⟨#[]⟩, .slice none 0 0] rfl rfl (Or.inr ⟨_, rfl, fun q u' hu' => cell_new w6 #[.int .i64 0, .int .i64 (Nj : Nat), .string ⟨#[]⟩, .slice none 0 0] _ q u' hu'⟩) (by simp [Value.oneCell']) (by unfold maxLen; omega) (by omega) (by simp; omega) (j + 1) ((leafsP N j).flatMap pCells ++ [.int .i64 0, .int .i64 (Nj : Nat), .string ⟨#[]⟩, .slice none 0 0]) rfl rfl ?_; intro a7 c7 w7 hown7 hgrow7 hat7; have HG7 := Lib.hid (And.intro hown7 (And.intro hgrow7 hat7)); clear hown7 hgrow7 hat7)
      go_roundw
      case rel =>
        have t67 := grown_touchM HG7.out.2.1
        have b56 : Below w5.heap.size w5 (w6.alloc (.cells #[.int .i64 0, .int .i64 (Nj : Nat), .string ⟨#[]⟩, .slice none 0 0] 31)) := Ext.trans' HX6.out.1 (bel1' _ _)
        have t57 : Touch (Value.slice la j lc).ownBlock.toList w5 w7 := (Touch.of_below b56 _).trans t67 (fun q hq => Or.inl hq)
        have hrl : ∀ q, (Value.slice la j lc).ownBlock = some q → w2.heap.size ≤ q ∧ ¬ q ∈ F5 := fun q hq => ⟨(HRL.out q hq).1, fun hm => by
          rcases H5.out.2.2 _ hm with e | e
          · exact HI.out.far q hq e
          · have := (HRL.out q hq).2; omega⟩
        refine ⟨j + 1, F5, by omega, by go_num, Lib.hid ⟨?_, ?_, fun q hq => ?_, ?_, fun q hq => ?_⟩⟩
        · rw [show N + (j + 1) = N + j + 1 by omega]
          refine H5.out.1.keep (fun q hq => t57.block q (H5.out.1.lt q hq) (fun hm => by simp only [Option.mem_toList] at hm; exact (hrl q hm).2 hq)) ?_
          exact H5.out.1.see.1.touch (F := (Value.slice la j lc).ownBlock.toList) (fun a ha => by
            simp only [Option.mem_toList] at ha
            cases hc : V.cell? a with
            | none => rfl
            | some u =>
              have h1 := World.block_lt_of_cell? _ _ hc
              have h2 := HI0.out.isb.see.1.1
              have h3 := (hrl _ ha).1
              omega) t57
        · exact (HI.out.tch.trans H5.out.2.1 (fun q hq => HI.out.new q hq)).trans t57 (fun q hq => by simp only [Option.mem_toList] at hq; exact Or.inr (hrl q hq).1)
        · rcases H5.out.2.2 q hq with e | e
          · exact HI.out.new q e
          · exact Or.inr (Nat.le_trans HI.out.tch.size e)
        · have h7 := HG7.out.1
          unfold RowP
          rw [leafs_next, List.flatMap_append, List.length_append, leafs_len]
          have e : [leafP N j].flatMap pCells = [.int .i64 0, .int .i64 (Nj : Nat), .string ⟨#[]⟩, .slice none 0 0] := by
            rw [← HNJ.out]; rfl
          rw [e]
          exact h7
        · rcases HG7.out.2.2 with e | e
          · rw [e] at hq; exact (hrl q hq).2
          · rw [e] at hq
            have h1 := Option.some.inj hq
            intro hm
            have h2 := H5.out.1.lt q hm
            have h3 : w6.heap.size ≤ q := by rw [← h1]; simp
            omega
      case measure => simp [intOf]; omega
    · have hjk2 : j = k := by omega
      subst hjk2
      have hsrc := row_src hi.row (leafs_len N j)
      obtain ⟨D, hD⟩ : ∃ D : Nat → Bool, D = fun q => awayB (X ++ Fj) q || decide (q = w.heap.size + 1) := ⟨_, rfl⟩
      have hDs : D (w.heap.size + 1) = true := by rw [hD]; simp
      have hDl : ∀ q, D q = false → awayB (X ++ Fj) q = false := fun q hq => by
        rw [hD] at hq
        exact (Bool.or_eq_false_iff.1 hq).1
      have hsz2 := hi.tch.size
      have hDo : Old D wr := fun q hq => by
        rw [hD]
        have h1 := HZ2.out
        have h2 : awayB (X ++ Fj) q = false := by
          unfold awayB
          rw [decide_eq_false_iff_not]
          intro hm
          rcases List.mem_append.1 hm with hm | hm
          · have := HXX.out q hm; omega
          · have := hi.isb.lt q hm; omega
        show (awayB (X ++ Fj) q || decide (q = w.heap.size + 1)) = false
        rw [h2, Bool.false_or, decide_eq_false_iff_not]
        omega
      have C := comp_src (c := lc) (leafsP N j) s HS.out hDo (leafs_len N j) (by unfold BIG; omega) (leafs_tm N j (by omega) _) hsrc
      rw [leafs_fst] at C
      have HII := Lib.hid hi
      have HBZ := Lib.hid hbz
      clear hi hsrc c0 c1 c2 cf hD hbx hbz hmbx r0 r1 r2 r3 rf y2
      (go_wp2_with fail; go_fit (C); rintro e w6 ⟨v6, rfl, ht6, b6⟩)
      obtain ⟨k6, n6, s6, a6, m6, c6, rfl, f1, f2, f3, f4⟩ := four_of ht6
      obtain ⟨r0, r1, r2, r3, rf⟩ := (HBZ.out.ext b6).four
      have HT6 := Lib.hid (And.intro ht6 b6)
      clear f1 f2 f3 f4 ht6 b6 C y5
      go_wp2
      refine bodyPost_ret (v := .tuple #[.agg #[.int .i64 k6, .int .i64 n6, .string s6, .slice a6 m6 c6], .bool true]) (by rw [results_cell_tmp rfl]; go_simp) rfl ?_
      have t4 := touchM4 w6 (w.heap.size + 1) (.int .i64 k6) (.int .i64 n6) (.string s6) (.slice a6 m6 c6)
      have hfar : ∀ q ∈ Fj, q ≠ w.heap.size + 1 := fun q hq => by
        have h1 := HZ2.out
        rcases HII.out.new q hq with e | e
        · have := HLT.out q e; omega
        · omega
      have i6 := HII.out.isb.ext HT6.out.2
      refine ⟨Fj, _, rfl, i6.keep (fun q hq => t4.block q (i6.lt q hq) (fun hm => hfar q hq (List.mem_singleton.1 hm))) (i6.see.1.touch (F := [w.heap.size + 1]) (fun a ha => ?_) t4), ?_, fun q hq => ?_, ?_⟩
      · cases hc : V.cell? a with
        | none => rfl
        | some u =>
          have h1 := World.block_lt_of_cell? _ _ hc
          have h3 := HR.out.rrow.lt
          have h4 := List.mem_singleton.1 ha
          have h5 := HVW.out
          omega
      · exact (((Touch.of_below HB2.out.1 F).trans HII.out.tch (fun q hq => Or.inl hq)).trans (Touch.of_below HT6.out.2 []) (fun q hq => by cases hq)).trans t4 (fun q hq => by have := List.mem_singleton.1 hq; exact Or.inr (by omega))
      · rcases HII.out.new q hq with e | e
        · exact Or.inl e
        · have := HZ2.out; exact Or.inr (by omega)
      · exact TmV.stay (((((Stays.set _ _ hDs).trans (Stays.set _ _ hDs)).trans (Stays.set _ _ hDs)).trans (Stays.set _ _ hDs)).trans (Stays.less hDl)) _ _ HT6.out.1
end
end Go.Proofs.Ytannchfoldnhcaa
