import Derived.Test.YtchbbaehdcmcfaaHdtak
import Derived.Test.YtchbbaehdcmcfaaHdtam
import Derived.Test.YtchbbaehdcmcfaaHdtag
import Derived.Test.YtchbbaehdcmcfaaHdtaf
import Derived.Test.YtchbbaehdcmcfaaHdtah
import Derived.Test.YtchbbaehdcmcfaaHdtac
import Derived.Test.YtchbbaehdcmcfaaHdtad
import Derived.Deep.QuietTactic
import Derived.Test.YtchbbaehdcmcfaaHdtab
import Derived.Test.YtchbbaehdcmcfaaHdtal
import Derived.Test.YtchbbaehdcmcfaaHdtae
set_option linter.unusedVariables false
set_option linter.unusedSimpArgs false
/- Package unify: apart's map of names. -/
namespace Go.Proofs.Ytchbbaehdcmcfaa
open Go.RowKit Go.Maps
set_option linter.unusedVariables false
def leafVal (v : Int) : Value := .agg #[.int .i64 0, .int .i64 v, .string ⟨#[]⟩, .slice none 0 0]
theorem leafVal_inj {u v : Int} (h : leafVal u = leafVal v) : u = v := by
 unfold leafVal at h
 simp only [Value.agg.injEq] at h
 have h2 := congrArg Array.toList h
 simpa using h2
open Classical in
noncomputable def leafE (u : Value) : Option (DataW Unit × List MemPlace) := if h : ∃ v, u = leafVal v then some (.lit (.int .i64 (Classical.choose h)), []) else none
theorem leafE_mk (v : Int) : leafE (leafVal v) = some (.lit (.int .i64 v), []) := by
 have h : ∃ v', leafVal v = leafVal v' := ⟨v, rfl⟩
 unfold leafE
 rw [dif_pos h, ← leafVal_inj (Classical.choose_spec h)]
theorem leafE_inv {u : Value} {z : DataW Unit × List MemPlace} (h : leafE u = some z) : ∃ v, u = leafVal v ∧ z = (.lit (.int .i64 v), []) := by
 unfold leafE at h
 split at h
 ·rename_i he
  exact ⟨_, Classical.choose_spec he, (Option.some.inj h).symm⟩
 ·cases h
theorem pos_app {n : Int} (m : List Int) : ∀ {l : List Int}, n ∈ l → posI (l ++ m) n = posI l n
  | x :: r, h => by
    rw [List.cons_append, posI, posI]
    by_cases e : x = n
    · rw [if_pos e, if_pos e]
    · rw [if_neg e, if_neg e, pos_app m (by
        rcases List.mem_cons.1 h with h | h
        · exact absurd h.symm e
        · exact h)]
theorem pos_new {n : Int} : ∀ {l : List Int}, ¬ n ∈ l → posI (l ++ [n]) n = l.length
  | [], _ => by simp [posI]
  | x :: r, h => by
    rw [List.cons_append, posI, if_neg (fun e => h (by simp [e])), pos_new (fun q => h (by simp [q]))]
    rfl
theorem pos_pre {n : Int} {l L : List Int} (h : l <+: L) (hn : n ∈ l) : posI L n = posI l n := by
 obtain ⟨m, rfl⟩ := h
 exact pos_app m hn
mutual
theorem avars_pre : ∀ (t : Tm) (l : List Int), l <+: varsT t l
  | .mk k n s ts, l => by
    rw [varsT]
    split
    · split
      · exact List.prefix_refl _
      · exact List.prefix_append _ _
    · exact avarss_pre ts l
theorem avarss_pre : ∀ (ts : List Tm) (l : List Int), l <+: varsL ts l
  | [], l => by rw [varsL]; exact List.prefix_refl _
  | x :: r, l => by
    rw [varsL]
    exact (avars_pre x l).trans (avarss_pre r _)
end
theorem avarss_app : ∀ (a b : List Tm) (l : List Int), varsL (a ++ b) l = varsL b (varsL a l)
 | [], b, l => by rw [List.nil_append, varsL]
 | x :: r, b, l => by rw [List.cons_append, varsL, varsL, avarss_app r b]
def NamedM (w : World) (mb N0 : Nat) (l : List Int) : Prop := ∃ D : DataW Unit, w.ownsMap Try.prog 2 leafE mb l.length D ∧ Tidy D ∧ (∀ v, Maps.has D (.int .i64 v) = true ↔ v ∈ l) ∧ ∀ v, v ∈ l → ∀ z, D.atKey (.int .i64 v) z = .lit (.int .i64 ((N0 : Int) + (posI l v : Int)))
theorem NamedM.nil (w : World) (N0 : Nat) : NamedM (w.alloc (.map #[] 0)) w.heap.size N0 [] := ⟨.map [], World.ownsMap_made w _ _ _, tidy_empty, fun v => by simp [Maps.has], fun v h => by cases h⟩
theorem NamedM.put {w' : World} {mb N0 : Nat} {l : List Int} {n : Int} {D : DataW Unit} (h1 : Tidy D) (h2 : ∀ v, Maps.has D (.int .i64 v) = true ↔ v ∈ l) (h3 : ∀ v, v ∈ l → ∀ z, D.atKey (.int .i64 v) z = .lit (.int .i64 ((N0 : Int) + (posI l v : Int)))) (hn : ¬ n ∈ l)
  (h : w'.ownsMap Try.prog 2 leafE mb (l.length + 1) (D.put (.int .i64 n) (.lit (.int .i64 ((N0 : Int) + (l.length : Int)))))) : NamedM w' mb N0 (l ++ [n]) := by
 refine ⟨_, by rw [List.length_append]; exact h, h1.put (by trivial) _, fun u => ?_, fun u hu z => ?_⟩
 ·by_cases e : u = n
  ·subst e
   rw [has_put_same h1.isMap (by trivial)]
   simp
  ·rw [has_put_other (fun e' => e (by injection e')), h2 u]
   simp [e]
 ·by_cases e : u = n
  ·subst e
   rw [atKey_put_same h1.isMap (by trivial), pos_new hn]
  ·have hul : u ∈ l := by simpa [e] using hu
   rw [atKey_put_other (fun e' => e (by injection e')), h3 u hul z, pos_app _ hul]
theorem NamedM.block {w w' : World} {mb N0 : Nat} {l : List Int} (h : NamedM w mb N0 l) (e : w'.heap[mb]? = w.heap[mb]?) : NamedM w' mb N0 l := by
 obtain ⟨D, ⟨es, clock, h1, h2⟩, q⟩ := h
 exact ⟨D, ⟨es, clock, e.trans h1, h2⟩, q⟩
theorem NamedM.lt {w : World} {mb N0 : Nat} {l : List Int} (h : NamedM w mb N0 l) : mb < w.heap.size := by
 obtain ⟨D, q1, _⟩ := h
 exact q1.lt
theorem NamedM.ext {w w' : World} {mb N0 : Nat} {l : List Int} (h : NamedM w mb N0 l) (b : Below w.heap.size w w') : NamedM w' mb N0 l := h.block (b.block mb h.lt)
theorem NamedM.touch {w w' : World} {F : List Nat} {mb N0 : Nat} {l : List Int} (h : NamedM w mb N0 l) (t : Touch F w w') (hn : ¬ mb ∈ F) : NamedM w' mb N0 l := h.block (t.block mb h.lt hn)
theorem zeroLeaf (w : World) : (zeroValue 31).run Try.prog w = .ok (leafVal 0) w := by kernel_rfl
theorem NamedM.look {w : World} {mb N0 : Nat} {l : List Int} (h : NamedM w mb N0 l) {n : Int} (hn : I64 n) : (Instr.lookup 145 (.map (some mb)) (.int .i64 n) true).run Try.prog w = .ok (.tuple #[leafVal (if n ∈ l then (N0 : Int) + (posI l n : Int) else 0), .bool (decide (n ∈ l))]) w := by
 obtain ⟨D, q1, q2, q3, q4⟩ := h
 obtain ⟨v, ps, hrun, hv⟩ := q1.look_ok lKeyed Try.underlying145 (zeroLeaf w) (leafE_mk 0) (lKey hn)
 rw [hrun]
 obtain ⟨u, rfl, hu⟩ := leafE_inv hv
 have hu1 := congrArg Prod.fst hu
 dsimp only at hu1
 clear hu hv hrun
 by_cases hm : n ∈ l
 ·rw [if_pos hm, (q3 n).2 hm, decide_eq_true hm]
  rw [q4 n hm] at hu1
  cases hu1
  rfl
 ·have hf : Maps.has D (.int .i64 n) = false := by
   cases hh : Maps.has D (.int .i64 n)
   ·rfl
   ·exact absurd ((q3 n).1 hh) hm
  rw [if_neg hm, hf, decide_eq_false hm]
  rw [atKey_of_not_has hf] at hu1
  cases hu1
  rfl
theorem NamedM.store {w : World} {mb N0 : Nat} {l : List Int} (h : NamedM w mb N0 l) {n : Int} (hn : I64 n) (hl : l.length < maxLen) (hm : ¬ n ∈ l) :
  ∃ w', (Instr.mapUpdate 145 (.map (some mb)) (.int .i64 n) (leafVal ((N0 : Int) + (l.length : Int)))).run Try.prog w = .ok () w' ∧ NamedM w' mb N0 (l ++ [n]) ∧ Touch [mb] w w' := by
 obtain ⟨D, q1, q2, q3, q4⟩ := h
 obtain ⟨w', hrun, ho, ht⟩ := q1.store lKeyed Try.underlying145 hl (lKey hn) (leafE_mk _)
 refine ⟨w', hrun, NamedM.put q2 q3 q4 hm ho, ?_⟩
 obtain ⟨g1, g2, g3, g4, g5⟩ := ht.grown
 exact ⟨g1, g2, g3, g4, fun k hk hne => g5 k hk (fun e => hne (by simp at e; simp [e]))⟩
end Go.Proofs.Ytchbbaehdcmcfaa
/- Package unify: apart, a variable. -/
namespace Go.Proofs.Ytchbbaehdcmcfaa
open Go.RowKit Go.Maps
set_option linter.unusedVariables false
def newU (F : List Nat) (n : Nat) : Nat → Bool := fun k => decide (k < n) || decide (k ∈ F)
theorem newU_false {F : List Nat} {n k : Nat} : newU F n k = false ↔ n ≤ k ∧ ¬ k ∈ F := by simp [newU]
def ApartP (V : World) (F : List Nat) (w : World) (p : Value) (N0 mb : Nat) (L l' : List Int) (x : Tm) (e : Ending) (w' : World) : Prop :=
 ∃ F' v', e = .returned v' ∧ IsB V F' w' p (N0 + l'.length) [] ∧ NamedM w' mb N0 l' ∧ TmV (hide (newU F' w.heap.size) w') (subT (renV L N0) x) v' ∧ Touch (mb :: F) w w' ∧ ∀ k ∈ F', k ∈ F ∨ w.heap.size ≤ k
theorem touch_set4 (w : World) (b : Nat) (u0 u1 u2 u3 : Value) : Touch [b] w (set4 w b u0 u1 u2 u3) :=
 (((touch_one w b 0 u0).trans (touch_one _ b 1 u1) (fun k hk => Or.inl hk)).trans (touch_one _ b 2 u2) (fun k hk => Or.inl hk)).trans (touch_one _ b 3 u3) (fun k hk => Or.inl hk)
section
variable {V w : World} {F : List Nat} {p : Value} {N0 mb : Nat} {L l : List Int}
set_option maxHeartbeats 4000000 in
set_option maxRecDepth 100000 in
theorem apart_var {n : Int} {s : ByteArray} {ts : List Tm} (hpre : varsT (.mk 0 n s ts) l <+: L) (hL : N0 + L.length ≤ 65536) (h : IsB V F w p (N0 + l.length) []) (hm : NamedM w mb N0 l) (hmF : ¬ mb ∈ F) (hmV : Blind V [mb]) {v : Value} (hv : TmV V (.mk 0 n s ts) v) :
  Calls Try.prog 87 #[p, v, .map (some mb)] w (ApartP V F w p N0 mb L (varsT (.mk 0 n s ts) l) (.mk 0 n s ts)) := by
 obtain ⟨u, rfl, hss, hkk, hnn, hu⟩ := tmV_iff.1 hv
 obtain ⟨a, c, rfl, hb1, hb2, hb3⟩ := hu.len
 obtain ⟨w1, e1, B1, z1, X1⟩ := box_new w #[.int .i64 0, .int .i64 n, .string s, .slice a ts.length c] 31
 obtain ⟨w2, e2, B2, z2, X2⟩ := box_new w1 #[.int .i64 0, .int .i64 0, .string ⟨#[]⟩, .slice none 0 0] 31
 have X1 := X1.ext B2
 have B12 := Ext.trans' B1 B2
 rw [z1] at X2 z2
 have HE := Lib.hid (And.intro e1 e2)
 have HB2 := Lib.hid (And.intro B12 (And.intro X1 (And.intro X2 z2)))
 have HI := Lib.hid (And.intro h (And.intro hm (And.intro hmF hmV)))
 have hres : subT (renV L N0) (.mk 0 n s ts) = varV ((N0 : Int) + (posI L n : Int)) := by rw [sub_var]; rfl
 unfold ApartP
 rw [hres]
 have HNN := Lib.hid (And.intro hnn hss)
 have hmlt := hm.lt
 obtain ⟨x0, x1, x2, x3, _⟩ := X1.four
 obtain ⟨y0, y1, y2, y3, yf⟩ := X2.four
 by_cases hn : n ∈ l
 ·have hvt : varsT (.mk 0 n s ts) l = l := by rw [varsT, if_pos rfl, if_pos (by simpa using hn)]
  rw [hvt] at hpre ⊢
  rw [pos_pre hpre hn]
  obtain ⟨hp1, _, _⟩ := pos_spec hn
  have hlL := hpre.length_le
  have hlook := (hm.ext B12).look hnn
  rw [if_pos hn, decide_eq_true hn] at hlook
  obtain ⟨z, hz⟩ : ∃ z, (N0 : Int) + (posI l n : Int) = z := ⟨_, rfl⟩
  have HZ := Lib.hid (show I64 z by unfold I64; omega)
  rw [hz] at hlook ⊢
  unfold leafVal at hlook
  obtain ⟨w3, e3, B3, z3, X3⟩ := box_new w2 #[.int .i64 0, .int .i64 z, .string ⟨#[]⟩, .slice none 0 0] 31
  have HE3 := Lib.hid e3
  have HX3 := Lib.hid (And.intro B3 (And.intro X3 (X2.ext B3)))
  clear hvt hpre hp1 hlL hz h hm hmF hmV B1 B2 z1 e1 e2 B12 X1 X2 hv hu hss hkk hnn hres e3 B3 z3 X3 hb1 hb2 hb3 hn z2
  go_enter Try.func87, Try.ntmps87
  go_upto_region 1 with fail
  (try rw [HE.out.1, HE.out.2])
  go_upto_region 11 with fail
  (try rw [HE3.out])
  obtain ⟨r0, r1, r2, r3, rf⟩ := HX3.out.2.1.four
  clear y0 y1 y2 y3 yf
  obtain ⟨y0, y1, y2, y3, yf⟩ := HX3.out.2.2.four
  clear hlook x0 x1 x2 x3
  go_wp2
  refine bodyPost_ret (v := .agg #[.int .i64 0, .int .i64 z, .string ⟨#[]⟩, .slice none 0 0]) (by rw [results_cell1 rfl]; go_simp) rfl ?_
  have hb := Below.set4 (b := w.heap.size + 1) (Ext.trans' HB2.out.1 HX3.out.1) (by omega) (.int .i64 0) (.int .i64 z) (.string ⟨#[]⟩) (.slice none 0 0)
  exact ⟨F, _, rfl, HI.out.1.ext hb, HI.out.2.1.ext hb, leaf_tm _ i64_0 HZ.out (by unfold BIG; decide), Touch.of_below hb _, fun k hk => Or.inl hk⟩
 ·have hvt : varsT (.mk 0 n s ts) l = l ++ [n] := by rw [varsT, if_pos rfl, if_neg (by simpa using hn)]
  rw [hvt] at hpre ⊢
  have hq2 : N0 + (l ++ [n]).length = N0 + l.length + 1 := by simp; omega
  rw [pos_pre hpre (by simp), pos_new hn, hq2]
  have hlL := hpre.length_le
  rw [List.length_append, List.length_singleton] at hlL
  have hlook := (hm.ext B12).look hnn
  rw [if_neg hn, decide_eq_false hn] at hlook
  have HST := Lib.hid (fun (wq : World) (hq : NamedM wq mb N0 l) => hq.store hnn (by unfold maxLen; omega) hn)
  have hcast : (N0 : Int) + (l.length : Int) = ((N0 + l.length : Nat) : Int) := by omega
  rw [hcast] at HST ⊢
  have C := Fresh_at (h.ext B12) (by omega)
  obtain ⟨q, hq⟩ : ∃ q, N0 + l.length = q := ⟨_, rfl⟩
  rw [hq] at HST HI C ⊢
  have HZ := Lib.hid (show I64 (q : Int) by unfold I64; omega)
  unfold leafVal at hlook
  obtain ⟨w3, e3, B3, z3, X3⟩ := box_new w2 #[.int .i64 0, .int .i64 0, .string ⟨#[]⟩, .slice none 0 0] 31
  have HE3 := Lib.hid e3
  have HX3 := Lib.hid (And.intro B3 (And.intro X3 (And.intro (X2.ext B3) (X1.ext B3))))
  have C := Fresh_at ((HI.out.1.ext HB2.out.1).ext B3) (by omega)
  have hlt3 := X3.lt
  clear hvt hpre hq2 hlL hcast hq h hm hmF hmV B1 B2 z1 e1 e2 B12 X1 X2 hv hu hss hkk hnn hres e3 B3 z3 X3 hb1 hb2 hb3 hn z2
  go_enter Try.func87, Try.ntmps87
  go_upto_region 1 with fail
  (try rw [HE.out.1, HE.out.2])
  go_upto_region 11 with fail
  (try rw [HE3.out])
  clear hlook x0 x1 x2 x3 y0 y1 y2 y3 yf
  (go_wp2_with fail; go_fit (C); rintro e w4 ⟨F4, rfl, i4, t4, in4⟩)
  have hF3 : ∀ k ∈ F, k < w.heap.size := HI.out.1.lt
  have hs2 := HB2.out.1.size
  have hsz : w.heap.size + 1 < w2.heap.size := by have := HB2.out.2.2.2; omega
  have hn3 : ¬ w2.heap.size ∈ F := fun hm => by have := hF3 _ hm; omega
  have hn2 : ¬ (w.heap.size + 1) ∈ F := fun hm => by have := hF3 _ hm; omega
  have hn1 : ¬ w.heap.size ∈ F := fun hm => by have := hF3 _ hm; omega
  have hx4 := t4.box hn3 HX3.out.2.1
  have hr4 := t4.box hn2 HX3.out.2.2.1
  have ht4 := t4.box hn1 HX3.out.2.2.2
  have hm4 : NamedM w4 mb N0 l := ((HI.out.2.1.ext HB2.out.1).ext HX3.out.1).touch t4 HI.out.2.2.1
  have hw3 : w.heap.size ≤ w3.heap.size := (Ext.trans' HB2.out.1 HX3.out.1).size
  obtain ⟨w5, e5⟩ : ∃ w5, set4 w4 w2.heap.size (.int .i64 0) (.int .i64 q) (.string ⟨#[]⟩) (.slice none 0 0) = w5 := ⟨_, rfl⟩
  have t5 : Touch [w2.heap.size] w4 w5 := by rw [← e5]; exact touch_set4 _ _ _ _ _ _
  have hm5 : NamedM w5 mb N0 l := hm4.touch t5 (by simp; omega)
  obtain ⟨w6, hrun, hm6, t6⟩ := HST.out w5 hm5
  have hx5 : Box w5 w2.heap.size [.int .i64 0, .int .i64 q, .string ⟨#[]⟩, .slice none 0 0] := by
   rw [← e5]
   exact (((hx4.set (k := 0) (u := .int .i64 0) (by simp)).set (k := 1) (u := .int .i64 q) (by simp)).set (k := 2) (u := .string ⟨#[]⟩) (by simp)).set (k := 3) (u := .slice none 0 0) (by simp)
  have ht5 := t5.box (by simp; omega) ht4
  have hx6 := t6.box (by simp; omega) hx5
  have hr6 := t6.box (by simp; omega) (t5.box (by simp; omega) hr4)
  unfold leafVal at hrun
  have H6 := Lib.hid (And.intro i4 (And.intro t4 (And.intro in4 (And.intro t5 (And.intro t6 (And.intro hm6 (And.intro hx6 hr6)))))))
  have HE5 := Lib.hid (show (((w4.setCell ⟨w2.heap.size, 0, none⟩ (.int .i64 0)).setCell ⟨w2.heap.size, 1, none⟩ (.int .i64 q)).setCell ⟨w2.heap.size, 2, none⟩ (.string ⟨#[]⟩)).setCell ⟨w2.heap.size, 3, none⟩ (.slice none 0 0) = w5 from e5)
  obtain ⟨x0, x1, x2, x3, xf⟩ := hx4.four
  obtain ⟨d0, d1, d2, d3, _⟩ := ht5.four
  obtain ⟨f0, f1, f2, f3, _⟩ := hx5.four
  clear i4 t4 in4 t5 t6 hm4 hm5 hm6 hx4 hx5 hx6 hr4 hr6 ht4 ht5 e5 C hF3 hn3 hn2 hn1
  go_upto_region 13 with fail
  (try rw [HE5.out])
  clear x0 x1 x2 x3 xf
  go_upto_region 14 with fail
  clear d0 d1 d2 d3 f0 f1 f2 f3 hrun
  obtain ⟨x0, x1, x2, x3, _⟩ := H6.out.2.2.2.2.2.2.1.four
  obtain ⟨y0, y1, y2, y3, yf⟩ := H6.out.2.2.2.2.2.2.2.four
  go_wp2
  refine bodyPost_ret (v := .agg #[.int .i64 0, .int .i64 q, .string ⟨#[]⟩, .slice none 0 0]) (by rw [results_cell1 rfl]; go_simp) rfl ?_
  obtain ⟨i4, t4, in4, t5, t6, hm6, hx6, hr6⟩ := H6.out
  have t7 := touch_set4 w6 (w.heap.size + 1) (.int .i64 0) (.int .i64 q) (.string ⟨#[]⟩) (.slice none 0 0)
  have hF3 : ∀ k ∈ F, k < w.heap.size := HI.out.1.lt
  have hs34 := t4.size
  have hnew : ∀ k, w.heap.size ≤ k → k < w3.heap.size → ¬ k ∈ F4 := fun k h1 h2 hm => (in4 k hm).elim (fun h => by have := hF3 k h; omega) (fun h => by omega)
  have hmb : ¬ mb ∈ F4 := fun hm => (in4 mb hm).elim HI.out.2.2.1 (fun h => by omega)
  have hsee := HI.out.1.see.1
  have i5 := i4.touch t5 (fun k hk => by simp at hk; subst hk; exact hnew _ (by omega) hlt3) (Blind.new hsee (fun k hk => by simp at hk; omega))
  have i6 := i5.touch t6 (fun k hk => by simp at hk; subst hk; exact hmb) HI.out.2.2.2
  have i7 := i6.touch t7 (fun k hk => by simp at hk; subst hk; exact hnew _ (by omega) (by omega)) (Blind.new hsee (fun k hk => by simp at hk; omega))
  have hm7 := hm6.touch t7 (by simp; omega)
  have tt : Touch (mb :: F) w w3 := Touch.of_below (Ext.trans' HB2.out.1 HX3.out.1) _
  have tt4 : Touch (mb :: F) w w4 := tt.trans t4 (fun k hk => Or.inl (List.mem_cons_of_mem _ hk))
  have tt5 : Touch (mb :: F) w w5 := tt4.trans t5 (fun k hk => by simp at hk; exact Or.inr (by omega))
  have tt6 : Touch (mb :: F) w w6 := tt5.trans t6 (fun k hk => by simp at hk; exact Or.inl (by simp [hk]))
  exact ⟨F4, _, rfl, i7, hm7, leaf_tm _ i64_0 HZ.out (by unfold BIG; decide), tt6.trans t7 (fun k hk => by simp at hk; exact Or.inr (by omega)), fun k hk => (in4 k hk).imp id (fun h => by omega)⟩
end
end Go.Proofs.Ytchbbaehdcmcfaa
/- Package unify: apart. -/
namespace Go.Proofs.Ytchbbaehdcmcfaa
open Go.RowKit Go.Maps
set_option linter.unusedVariables false
theorem Lay.block {w w' : World} {lb m : Nat} {ps : List TmP} (h : Lay w lb m ps) (hb : w'.heap[lb]? = w.heap[lb]?) (hlt : lb < w'.heap.size) : Lay w' lb m ps where
 done := fun i p hp j u hu => by rw [World.cell?_of_block hb]; exact h.done i p hp j u hu
 rest := fun i h1 h2 => by
  obtain ⟨a, b, c, d⟩ := h.rest i h1 h2
  exact ⟨by rw [World.cell?_of_block hb]; exact a, by rw [World.cell?_of_block hb]; exact b, by rw [World.cell?_of_block hb]; exact c, by rw [World.cell?_of_block hb]; exact d⟩
 fz := fun j => by rw [World.frozen?_of_block hb]; exact h.fz j
 lt := hlt
theorem Lay.touch {F : List Nat} {w w' : World} {lb m : Nat} {ps : List TmP} (h : Lay w lb m ps) (t : Touch F w w') (hn : ¬ lb ∈ F) : Lay w' lb m ps := h.block (t.block lb h.lt hn) (Nat.lt_of_lt_of_le h.lt t.size)
theorem infoTermP : (Try.prog.info? 31).map (fun i => (i.zero, i.size, i.bytes)) = some (some (.agg #[.int .i64 0, .int .i64 0, .string ⟨#[]⟩, .slice none 0 0]), 4, 56) := by kernel_rfl
theorem make_termsP (m : Nat) (hm : m ≤ 8) (w : World) : (Instr.makeSlice 29 (.int .i64 m) (.int .i64 m)).run Try.prog w = .ok (.slice (some ⟨w.heap.size, 0, none⟩) m m) (w.alloc (.cells (madeCells #[.int .i64 0, .int .i64 0, .string ⟨#[]⟩, .slice none 0 0] (m * 4)) 31)) := by
 obtain ⟨i0, hi0, hz0, hs0, hb0⟩ := info_parts infoTermP
 have h := run_makeSlice (P := Try.prog) w 29 31 i0 _ Try.underlying29 hi0 hz0 .i64 .i64 m m (by omega) (by omega) (by rw [hs0]; omega) (by rw [hb0]; omega) (by omega)
 rw [hs0] at h
 simp only [Int.toNat_natCast] at h
 exact h
theorem vars_take {ts : List Tm} {j : Nat} {y : Tm} (hy : ts[j]? = some y) (l : List Int) : varsL (ts.take (j + 1)) l = varsT y (varsL (ts.take j) l) := by rw [take_next hy, avarss_app, varsL, varsL]
theorem vars_takep (ts : List Tm) (j : Nat) (l : List Int) : varsL (ts.take j) l <+: varsL ts l := by
 have h := avarss_app (ts.take j) (ts.drop j) l
 rw [List.take_append_drop] at h
 rw [h]
 exact avarss_pre _ _
theorem touch_setAt (w : World) (b o : Nat) (u0 u1 u2 u3 : Value) : Touch [b] w (setAt w b o u0 u1 u2 u3) :=
 (((touch_one w b o u0).trans (touch_one _ b (o + 1) u1) (fun k hk => Or.inl hk)).trans (touch_one _ b (o + 2) u2) (fun k hk => Or.inl hk)).trans (touch_one _ b (o + 3) u3) (fun k hk => Or.inl hk)
def ApI (V w : World) (F : List Nat) (p : Value) (N0 mb : Nat) (ts Ts : List Tm) (l : List Int) (lb m : Nat) (vs : List Value) (j : Nat) (wr : World) : Prop :=
  ∃ (F' : List Nat) (ps : List TmP), IsB V F' wr p (N0 + (varsL (ts.take j) l).length) [] ∧ NamedM wr mb N0 (varsL (ts.take j) l) ∧ ps.length = j ∧ ps.map (·.1) = Ts.take j ∧ Lay wr lb m ps ∧ (∀ q ∈ ps, TmV (hide (newU F' (lb + 1)) wr) q.1 (pVal q)) ∧ Touch (mb :: F) w wr ∧ (∀ k ∈ F', k ∈ F ∨ lb < k) ∧
    Box wr w.heap.size vs ∧ Box wr (w.heap.size + 1) [.int .i64 0, .int .i64 0, .string ⟨#[]⟩, .slice none 0 0]
set_option maxHeartbeats 8000000 in
set_option maxRecDepth 100000 in
theorem apart_at (V : World) : ∀ (M : Nat) (x : Tm), sizeN x ≤ M → formedT x = true → ∀ (L l : List Int), varsT x l <+: L → ∀ (N0 : Nat), N0 + L.length ≤ 65536 → ∀ (w : World) (F : List Nat) (p : Value) (mb : Nat) (v : Value),
    IsB V F w p (N0 + l.length) [] → NamedM w mb N0 l → ¬ mb ∈ F → Blind V [mb] → TmV V x v → Calls Try.prog 87 #[p, v, .map (some mb)] w (ApartP V F w p N0 mb L (varsT x l) x)
  | 0, x, h, _, L, l, _, N0, _, w, F, p, mb, v, _, _, _, _, hv => by have := size_pos x; omega
  | M + 1, .mk k n s ts, h, hf, L, l, hpre, N0, hL, w, F, p, mb, v, hB, hm, hmF, hmV, hv => by
    by_cases hk0 : k = 0
    · subst hk0
      exact apart_var hpre hL hB hm hmF hmV hv
    · obtain ⟨u, rfl, hss, hkk, hnn, hu⟩ := tmV_iff.1 hv
      obtain ⟨a, c, rfl, hb1, hb2, hb3⟩ := hu.len
      unfold maxLen at hb2
      obtain ⟨w1, e1, B1, z1, X1⟩ := box_new w #[.int .i64 k, .int .i64 n, .string s, .slice a ts.length c] 31
      obtain ⟨w2, e2, B2, z2, X2⟩ := box_new w1 #[.int .i64 0, .int .i64 0, .string ⟨#[]⟩, .slice none 0 0] 31
      have X1 := X1.ext B2
      have B12 := Ext.trans' B1 B2
      rw [z1] at X2 z2
      have HE := Lib.hid (And.intro e1 e2)
      have HB2 := Lib.hid (And.intro B12 (And.intro X1 (And.intro X2 z2)))
      have HI := Lib.hid (And.intro hB (And.intro hm (And.intro hmF hmV)))
      have hmlt := hm.lt
      have hk0' : (k != 0) = true := by simpa using hk0
      have hT : subT (renV L N0) (.mk k n s ts) = .mk k n s (subL (renV L N0) ts) := sub_not _ hk0 _ _ _
      have hvt : varsT (.mk k n s ts) l = varsL ts l := by rw [varsT, if_neg hk0]
      rw [hvt] at hpre ⊢
      unfold ApartP
      rw [hT]
      have hm8' : ts.length ≤ 8 := by
        by_cases hne : ts = []
        · simp [hne]
        · exact (formed_args hf hne).2.2
      rw [formedT, Bool.and_eq_true] at hf
      have IH := Lib.hid (fun (y : Tm) (hy : y ∈ ts) => apart_at V M y (mem_size h hy) (formed_mem hf.2 hy) L)
      have HU := Lib.hid hu
      obtain ⟨m, hm0⟩ : ∃ m, ts.length = m := ⟨_, rfl⟩
      have HM := Lib.hid hm0
      have HYB := Lib.hid (And.intro hss (And.intro hkk hnn))
      have HPR := Lib.hid (And.intro hpre hL)
      obtain ⟨Ts, hTs⟩ : ∃ Ts, subL (renV L N0) ts = Ts := ⟨_, rfl⟩
      have HTS := Lib.hid (And.intro hTs (show Ts.length = m by rw [← hTs, subL_len, hm0]))
      rw [hTs]
      rw [hm0] at hb1 hb3 hu HU X1 HB2 HE hm8' ⊢
      obtain ⟨w7, e7⟩ : ∃ w7, w2.alloc (.cells (madeCells #[.int .i64 0, .int .i64 0, .string ⟨#[]⟩, .slice none 0 0] (m * 4)) 31) = w7 := ⟨_, rfl⟩
      obtain ⟨lb, hlb⟩ : ∃ lb, w2.heap.size = lb := ⟨_, rfl⟩
      have HMK := make_termsP m hm8' w2
      rw [e7, hlb] at HMK
      have hL0 : Lay w7 lb m [] := hlb ▸ e7 ▸ lay_new w2 m _
      have hb7 : Below w2.heap.size w2 w7 := e7 ▸ bel1' w2 _
      have hlbw : w.heap.size + 1 < lb := by omega
      have hb27 := Ext.trans' HB2.out.1 hb7
      have HI7 := Lib.hid (show ApI V w F p N0 mb ts Ts l lb m [.int .i64 k, .int .i64 n, .string s, .slice a m c] 0 w7 from
        ⟨F, [], by rw [List.take_zero, varsL]; exact hB.ext hb27, by rw [List.take_zero, varsL]; exact hm.ext hb27, rfl, by simp, hL0, fun q hq => (by cases hq), Touch.of_below hb27 _, fun k hk => Or.inl hk, HB2.out.2.1.ext hb7, HB2.out.2.2.1.ext hb7⟩)
      obtain ⟨x0, x1, x2, x3, _⟩ := HB2.out.2.1.four
      have HLW := Lib.hid hlbw
      clear hL0 hb7 e7 hlb hT hm0 hf hv hu h X1 X2 hss hkk hnn hTs z2 hb27 hpre hvt hB hm hmF hmV B1 B2 z1 e1 e2 B12 hL hk0
      go_enter Try.func87, Try.ntmps87
      go_upto_region 1 with fail
      (try rw [HE.out.1, HE.out.2])
      go_upto_region 3 with fail
      clear x0 x1 x2 x3 HMK hk0'
      obtain ⟨x0, x1, x2, x3, _⟩ : w7.cell? ⟨w.heap.size, 0, none⟩ = some (.int .i64 k) ∧ w7.cell? ⟨w.heap.size, 1, none⟩ = some (.int .i64 n) ∧ w7.cell? ⟨w.heap.size, 2, none⟩ = some (.string s) ∧ w7.cell? ⟨w.heap.size, 3, none⟩ = some (.slice a m c) ∧ True := by
        obtain ⟨_, _, _, _, _, _, _, _, _, _, hx, _⟩ := HI7.out
        obtain ⟨q0, q1, q2, q3, _⟩ := hx.four
        exact ⟨q0, q1, q2, q3, trivial⟩
      go_wp2_with fail
      clear x0 x1 x2 x3
      go_loopw [8, 9, 22] (fun _ _ z wr => ∃ j : Nat, j ≤ m ∧ z = .int .i64 j ∧ Hid (ApI V w F p N0 mb ts Ts l lb m [.int .i64 k, .int .i64 n, .string s, .slice a m c] j wr)) (fun _ _ z _ => m - (RowKit.intOf z).toNat)
      case atStart => exact ⟨0, Nat.zero_le _, rfl, HI7⟩
      case round =>
        obtain ⟨j, hj, rfl, HP⟩ := hrel
        by_cases hjm : j < m
        · have hjm2 : (j : Int) < m := by omega
          obtain ⟨y, hy⟩ : ∃ y, ts[j]? = some y := ⟨_, List.getElem?_eq_getElem (by rw [HM.out]; exact hjm)⟩
          obtain ⟨F', ps, hib, hnm, hpl, hpm, hLy, hpT, htc, hF', hx5, hx8⟩ := HP.out
          obtain ⟨gb, go, ku, nu, su, vu, rfl, _, _, _, _, d0, d1, d2, d3, hvu, htu⟩ := HU.out.get hy
          obtain ⟨a5, m5, c5, rfl⟩ : ∃ a5 m5 c5, vu = .slice a5 m5 c5 := by obtain ⟨a5, c5, e, _⟩ := hvu.len; exact ⟨_, _, _, e⟩
          have hst := hib.see.1
          have g0 := hst.2 _ _ d0
          have g1 := hst.2 _ _ d1
          have g2 := hst.2 _ _ d2
          have g3 := hst.2 _ _ d3
          obtain ⟨w5, e5, b5, z5, x5⟩ := box_new wr #[.int .i64 ku, .int .i64 nu, .string su, .slice a5 m5 c5] 31
          obtain ⟨y0, y1, y2, y3, _⟩ := x5.four
          have hvj := vars_take hy l
          have hpj : varsT y (varsL (ts.take j) l) <+: L := by rw [← hvj]; exact (vars_takep ts (j + 1) l).trans HPR.out.1
          have hmF' : ¬ mb ∈ F' := fun hm => (hF' mb hm).elim HI.out.2.2.1 (fun h => by omega)
          have C := IH.out y (List.mem_of_getElem? hy) _ hpj N0 HPR.out.2 w5 F' p mb _ (hib.ext b5) (hnm.ext b5) hmF' HI.out.2.2.2 htu
          have hTj : Ts[j]? = some (subT (renV L N0) y) := by rw [← HTS.out.1]; exact sizes_map_drop hy
          rw [← hvj] at C
          obtain ⟨U, hUU⟩ : ∃ U, subT (renV L N0) y = U := ⟨_, rfl⟩
          unfold ApartP at C
          rw [hUU] at hTj C
          have HPS := Lib.hid (And.intro hib (And.intro hpl (And.intro hpm (And.intro hLy (And.intro hpT (And.intro htc (And.intro hF' (And.intro hx5 (And.intro hx8 (And.intro hTj (And.intro b5 hmF')))))))))))
          have HE5 := Lib.hid e5
          clear hib hnm hpl hpm hLy hpT htc hx5 hx8 hTj b5 z5 x5 e5 hy d0 d1 d2 d3 hvu htu hst hvj hpj hUU HP hmF' hF'
          go_upto_region 6 with fail
          (try rw [HE5.out])
          (go_wp2_with fail; go_fit (C); rintro e w8 ⟨F8, v8, rfl, i8, m8, hT8, t8, in8⟩)
          obtain ⟨k6, n6, s6, a6, l6, c6, rfl, _, _, _, hpv⟩ := four_of hT8
          have hpc : pCells (U, .slice a6 l6 c6) = [.int .i64 k6, .int .i64 n6, .string s6, .slice a6 l6 c6] := by
            have := hpv
            simp only [pVal, Value.agg.injEq] at this
            have h2 := congrArg Array.toList this
            exact h2.symm
          obtain ⟨hib, hpl, hpm, hLy, hpT, htc, hF', hx5, hx8, hTj, b5, hmF'⟩ := HPS.out
          have hlt := hLy.lt
          have hb5s := b5.size
          have hFw : ∀ k ∈ F, k < w.heap.size := HI.out.1.lt
          have hnF' : ∀ q, w.heap.size ≤ q → q ≤ lb → ¬ q ∈ (mb :: F') := fun q h1 h2 hm => by
            rcases List.mem_cons.1 hm with e | hm
            · omega
            · exact (hF' q hm).elim (fun h => by have := hFw q h; omega) (fun h => by omega)
          have hLy8 : Lay w8 lb m ps := (hLy.later b5).touch t8 (hnF' lb (by omega) (Nat.le_refl _))
          have hx58 := t8.box (hnF' w.heap.size (Nat.le_refl _) (by omega)) (hx5.ext b5)
          have hx88 := t8.box (hnF' (w.heap.size + 1) (by omega) (by omega)) (hx8.ext b5)
          obtain ⟨r0, r1, r2, r3⟩ := hLy8.rest j (by rw [hpl]; exact Nat.le_refl _) hjm
          have rfz := hLy8.fz
          have HN := Lib.hid (show ApI V w F p N0 mb ts Ts l lb m [.int .i64 k, .int .i64 n, .string s, .slice (some ⟨gb, go, none⟩) m c] (j + 1) (setAt w8 lb (j * 4) (.int .i64 k6) (.int .i64 n6) (.string s6) (.slice a6 l6 c6)) from by
            have hin8 : ∀ q ∈ F8, q ∈ F ∨ lb < q := fun q hq => (in8 q hq).elim (hF' q) (fun h => Or.inr (by omega))
            have hs := touch_setAt w8 lb (j * 4) (.int .i64 k6) (.int .i64 n6) (.string s6) (.slice a6 l6 c6)
            have hLp := hLy8.put (by rw [hpl]; exact hjm) hpc
            rw [hpl] at hLp
            have hd : newU F8 (lb + 1) lb = true := by simp [newU]
            have hstay : ∀ t v, TmV (hide (newU F8 (lb + 1)) w8) t v → TmV (hide (newU F8 (lb + 1)) (setAt w8 lb (j * 4) (.int .i64 k6) (.int .i64 n6) (.string s6) (.slice a6 l6 c6))) t v := fun t v ht =>
              TmV.stay (((((Stays.set (D := newU F8 (lb + 1)) ⟨lb, j * 4, none⟩ _ hd).trans (Stays.set ⟨lb, j * 4 + 1, none⟩ _ hd)).trans (Stays.set ⟨lb, j * 4 + 2, none⟩ _ hd)).trans (Stays.set ⟨lb, j * 4 + 3, none⟩ _ hd))) _ _ ht
            refine ⟨F8, ps ++ [(U, .slice a6 l6 c6)], i8.touch hs (fun q hq hm => by simp at hq; subst hq; exact (hin8 q hm).elim (fun h => by have := hFw q h; omega) (fun h => by omega)) (Blind.new HI.out.1.see.1 (fun q hq => by simp at hq; omega)), m8.touch hs (by simp; omega), by rw [List.length_append, hpl]; rfl, by rw [List.map_append, hpm, take_next hTj]; rfl, hLp, fun q hq => hstay _ _ ?_, ?_, hin8, (((hx58.far (by omega)).far (by omega)).far (by omega)).far (by omega), (((hx88.far (by omega)).far (by omega)).far (by omega)).far (by omega)⟩
            · rcases List.mem_append.1 hq with hq | hq
              · refine TmV.stay (Stays.hide (Nat.le_trans hb5s t8.size) fun q hq hd => ?_) _ _ (hpT _ hq)
                obtain ⟨h1, h2⟩ := newU_false.1 hd
                refine ⟨newU_false.2 ⟨h1, fun hm => (in8 q hm).elim h2 (fun h => by omega)⟩, (t8.block q (by omega) (fun hm => ?_)).trans (b5.block q hq)⟩
                rcases List.mem_cons.1 hm with e | hm
                · omega
                · exact h2 hm
              · rw [List.mem_singleton] at hq
                subst hq
                rw [← hpv]
                exact TmV.stay (Stays.less fun q hq => by obtain ⟨h1, h2⟩ := newU_false.1 hq; exact newU_false.2 ⟨by omega, h2⟩) _ _ hT8
            · have t2 : Touch (mb :: F) w w8 := (htc.trans (Touch.of_below b5 (mb :: F)) (fun q hq => Or.inl hq)).trans t8 (fun q hq => by
                rcases List.mem_cons.1 hq with e | hq
                · exact Or.inl (by simp [e])
                · exact (hF' q hq).elim (fun h => Or.inl (List.mem_cons_of_mem _ h)) (fun h => Or.inr (by omega)))
              exact t2.trans hs (fun q hq => by simp at hq; exact Or.inr (by omega)))
          clear hib hpl hpm hLy hpT htc hF' hx5 hx8 hTj b5 hmF' hLy8 hx58 hx88 hFw hnF' i8 m8 hT8 t8 in8 hpv hpc C g0 g1 g2 g3 y0 y1 y2 y3
          go_wp2
          go_roundw
          case rel => exact ⟨j + 1, by omega, by go_num, HN⟩
          case measure => simp [RowKit.intOf]; omega
        · have hjm2 : j = m := by omega
          subst hjm2
          obtain ⟨F', ps, hib, hnm, hpl, hpm, hLy, hpT, htc, hF', hx5, hx8⟩ := HP.out
          obtain ⟨x0, x1, x2, x3, xf⟩ := hx5.four
          have hx8' := hx8.far (c := w.heap.size) (k := 3) (u := .slice (some ⟨lb, 0, none⟩) j j) (by omega)
          obtain ⟨y0, y1, y2, y3, yf⟩ := hx8'.four
          have HEND := Lib.hid HP.out
          clear hib hnm hpl hpm hLy hpT htc hF' hx5 hx8 hx8' HP
          go_wp2
          refine bodyPost_ret (v := .agg #[.int .i64 k, .int .i64 n, .string s, .slice (some ⟨lb, 0, none⟩) j j]) (by rw [results_cell1 rfl]; go_simp) rfl ?_
          clear x0 x1 x2 x3 xf y0 y1 y2 y3 yf
          obtain ⟨F', ps, hib, hnm, hpl, hpm, hLy, hpT, htc, hF', hx5, hx8⟩ := HEND.out
          have htk : ts.take j = ts := List.take_of_length_le (by rw [HM.out]; exact Nat.le_refl _)
          have htk2 : Ts.take j = Ts := List.take_of_length_le (by rw [HTS.out.2]; exact Nat.le_refl _)
          rw [htk] at hib hnm
          rw [htk2] at hpm
          have hFw : ∀ k ∈ F, k < w.heap.size := HI.out.1.lt
          have hs1 := touch_one wr w.heap.size 3 (.slice (some ⟨lb, 0, none⟩) j j)
          have hs2 := touch_set4 (wr.setCell ⟨w.heap.size, 3, none⟩ (.slice (some ⟨lb, 0, none⟩) j j)) (w.heap.size + 1) (.int .i64 k) (.int .i64 n) (.string s) (.slice (some ⟨lb, 0, none⟩) j j)
          have hs := (hs1.sub (F' := [w.heap.size, w.heap.size + 1]) (fun k hk => by simp at hk; simp [hk])).trans (hs2.sub (F' := [w.heap.size, w.heap.size + 1]) (fun k hk => by simp at hk; simp [hk])) (fun k hk => Or.inl hk)
          refine ⟨F', _, rfl, hib.touch hs (fun q hq hm => ?_) (Blind.new HI.out.1.see.1 (fun q hq => by simp at hq; omega)), hnm.touch hs (by simp; omega), ?_, htc.trans hs (fun q hq => by simp at hq; exact Or.inr (by omega)), fun q hq => (hF' q hq).imp id (fun h => by omega)⟩
          · simp at hq
            exact (hF' q hm).elim (fun h => by have := hFw q h; omega) (fun h => by omega)
          · refine tmV_iff.2 ⟨_, rfl, HYB.out.1, HYB.out.2.1, HYB.out.2.2, ?_⟩
            have hlf : newU F' lb lb = false := newU_false.2 ⟨Nat.le_refl _, fun hm => (hF' lb hm).elim (fun h => by have := hFw lb h; omega) (fun h => by omega)⟩
            have h1 := hLy.out (D := newU F' lb) hpl hlf (fun q hq => TmV.stay (Stays.less fun k hk => by obtain ⟨h1, h2⟩ := newU_false.1 hk; exact newU_false.2 ⟨by omega, h2⟩) _ _ (hpT q hq)) (by unfold BIG; omega)
            rw [hpm] at h1
            have hd0 : newU F' lb w.heap.size = true := by unfold newU; simp; omega
            have hd1 : newU F' lb (w.heap.size + 1) = true := by unfold newU; simp; omega
            have h2 := h1.stay (((((Stays.set (D := newU F' lb) ⟨w.heap.size, 3, none⟩ (.slice (some ⟨lb, 0, none⟩) j j) hd0).trans (Stays.set ⟨w.heap.size + 1, 0, none⟩ (.int .i64 k) hd1)).trans (Stays.set ⟨w.heap.size + 1, 1, none⟩ (.int .i64 n) hd1)).trans (Stays.set ⟨w.heap.size + 1, 2, none⟩ (.string s) hd1)).trans (Stays.set ⟨w.heap.size + 1, 3, none⟩ (.slice (some ⟨lb, 0, none⟩) j j) hd1))
            exact h2.stay (Stays.less fun q hq => by obtain ⟨h1, h2⟩ := newU_false.1 hq; exact newU_false.2 ⟨by omega, h2⟩)
end Go.Proofs.Ytchbbaehdcmcfaa
/- The document's side of chapter 12: Could, walked. -/
namespace Go.Proofs.Ytchbbaehdcmcfaa
open Go.RowKit
set_option linter.unusedVariables false
def numV (x : Tm) : Nat := (if goodT x then varsT x [] else []).length
def couldB (x y : Tm) : Bool := goodT x && goodT y && (bothB (numV x + numV y) [] (renT 0 x) (renT (numV x) y)).ok
theorem numV_le (x : Tm) : numV x ≤ 2000 := by
 unfold numV
 cases hg : goodT x
 ·simp
 ·have h1 := xvars_len x []
  have h2 := (good_parts hg).1
  simp at h1 ⊢
  omega
end Go.Proofs.Ytchbbaehdcmcfaa
/- Package unify: what Could carries from call to call. -/
namespace Go.Proofs.Ytchbbaehdcmcfaa
open Go.RowKit Go.Maps
set_option linter.unusedVariables false
def CB (w : World) (p : Value) (N : Nat) (xs ys : List Value) (ms : List (Nat × Nat)) (F : List Nat) (wq : World) : Prop :=
 IsB w F wq p N [] ∧ (∀ k ∈ F, w.heap.size + 2 ≤ k) ∧ Below w.heap.size w wq ∧ Box wq w.heap.size xs ∧ Box wq (w.heap.size + 1) ys ∧ ∀ q ∈ ms, NamedM wq q.1 q.2 [] ∧ w.heap.size + 2 ≤ q.1 ∧ ¬ q.1 ∈ F
section
variable {w wq w' : World} {p : Value} {N : Nat} {xs ys : List Value} {ms : List (Nat × Nat)} {F : List Nat}
theorem CB.bel (h : CB w p N xs ys ms F wq) : Below w.heap.size w wq := h.2.2.1
theorem CB.ext (h : CB w p N xs ys ms F wq) (hb : Below wq.heap.size wq w') : CB w p N xs ys ms F w' := by
 obtain ⟨h1, h2, h3, h4, h5, h6⟩ := h
 exact ⟨h1.ext hb, h2, Ext.trans' h3 hb, h4.ext hb, h5.ext hb, fun q hq => ⟨(h6 q hq).1.ext hb, (h6 q hq).2⟩⟩
theorem CB.map (h : CB w p N xs ys ms F wq) (N0 : Nat) (hz : w.heap.size + 2 ≤ wq.heap.size) : CB w p N xs ys ((wq.heap.size, N0) :: ms) F (wq.alloc (.map #[] 0)) := by
 obtain ⟨h1, h2, h3, h4, h5, h6⟩ := h.ext (bel1' wq (.map #[] 0))
 have hlt := h.1.lt
 refine ⟨h1, h2, h3, h4, h5, fun q hq => ?_⟩
 rcases List.mem_cons.1 hq with rfl | hq
 ·exact ⟨NamedM.nil wq N0, hz, fun hm => by have := hlt _ hm; simp at this⟩
 ·exact h6 q hq
theorem CB.apart {N0 mb : Nat} (h : CB w p N0 xs ys ((mb, N0) :: ms) F wq) (hne : ∀ q ∈ ms, q.1 ≠ mb) {x : Tm} {v : Value} (hx : TmV w x v) (hf : formedT x = true) {K : Nat} (hK : N0 + (varsT x []).length = K) (hK2 : K ≤ 65536) :
  Calls Try.prog 87 #[p, v, .map (some mb)] wq fun e w' => ∃ F' v', e = .returned v' ∧ CB w p K xs ys ms F' w' ∧ TmV (hide (newU F' wq.heap.size) w') (renT N0 x) v' ∧ Touch (mb :: F) wq w' ∧ ∀ k ∈ F', k ∈ F ∨ wq.heap.size ≤ k := by
 obtain ⟨h1, h2, h3, h4, h5, h6⟩ := h
 obtain ⟨hm, hmw, hmF⟩ := h6 (mb, N0) (by simp)
 refine (apart_at w _ x (Nat.le_refl _) hf (varsT x []) [] (List.prefix_refl _) N0 (by omega) wq F p mb v (by simpa using h1) hm hmF (Blind.new (Stays.refl w) (fun k hk => by simp at hk; simp at hmw; omega)) hx).mono ?_
 rintro e w' ⟨F', v', rfl, i, n, t, tt, hin⟩
 rw [hK] at i
 have hq : w.heap.size ≤ wq.heap.size := h3.size
 have hlt5 := h5.lt
 have hF0 : ∀ k ∈ (mb :: F), w.heap.size + 2 ≤ k := fun k hk => by
  rcases List.mem_cons.1 hk with e | hk
  ·subst e; exact hmw
  ·exact h2 k hk
 refine ⟨F', v', rfl, ⟨i, fun k hk => (hin k hk).elim (h2 k) (fun h => by omega), Below.trans h3 (tt.below hq (fun k hk => by have := hF0 k hk; omega)), tt.box (fun hm => by have := hF0 _ hm; omega) h4, tt.box (fun hm => by have := hF0 _ hm; omega) h5, fun q hq => ?_⟩, t, tt, hin⟩
 obtain ⟨k1, k2, k3⟩ := h6 q (List.mem_cons_of_mem _ hq)
 exact ⟨k1.touch tt (fun hm => by
  rcases List.mem_cons.1 hm with e | hm
  ·exact hne q hq e
  ·exact k3 hm), k2, fun hm => (hin _ hm).elim k3 (fun h => by have := k1.lt; omega)⟩
theorem apart_later {n : Nat} {F F8 : List Nat} {mb : Nat} {w6 w7 w8 : World} {T : Tm} {v : Value} (ht : TmV (hide (newU F n) w6) T v) (hb : Below w6.heap.size w6 w7) (hmb : mb < n ∨ w6.heap.size ≤ mb) (t : Touch (mb :: F) w7 w8) (hin : ∀ k ∈ F8, k ∈ F ∨ w7.heap.size ≤ k) : TmV (hide (awayB F8) w8) T v := by
 refine TmV.stay (Stays.hide (Nat.le_trans hb.size t.size) fun k hk hd => ?_) _ _ ht
 obtain ⟨h1, h2⟩ := newU_false.1 hd
 have hs := hb.size
 refine ⟨by simp only [awayB, decide_eq_false_iff_not]; exact fun hm => (hin k hm).elim h2 (fun h => by omega), (t.block k (by omega) (fun hm => ?_)).trans (hb.block k hk)⟩
 rcases List.mem_cons.1 hm with e | hm
 ·omega
 ·exact h2 hm
theorem CB.both (h : CB w p N xs ys ms F wq) {x y : Tm} {vx vy : Value} (hx : TmV (hide (awayB F) wq) x vx) (hy : TmV (hide (awayB F) wq) y vy) :
  Calls Try.prog 86 #[p, vx, vy] wq fun e w' => e = .returned (.tuple #[.bool (bothB N [] x y).ok, .int .i64 (bothB N [] x y).cost, .int .i64 (bothB N [] x y).err]) ∧ Below w.heap.size w w' ∧ Box w' w.heap.size xs ∧ Box w' (w.heap.size + 1) ys := by
 refine (Both_at (S := []) h.1.rebase trivial hx hy).mono ?_
 rintro e w' ⟨F', R', rfl, _, _, t, _⟩
 exact ⟨rfl, Below.trans h.bel (t.below h.bel.size (fun k hk => by have := h.2.1 k hk; omega)), t.box (fun hm => by have := h.2.1 _ hm; omega) h.2.2.2.1, t.box (fun hm => by have := h.2.1 _ hm; omega) h.2.2.2.2.1⟩
theorem CB.swap {q1 q2 : Nat × Nat} (h : CB w p N xs ys [q1, q2] F wq) : CB w p N xs ys [q2, q1] F wq :=
 ⟨h.1, h.2.1, h.2.2.1, h.2.2.2.1, h.2.2.2.2.1, fun q hq => h.2.2.2.2.2 q (by simp at hq ⊢; rcases hq with e | e <;> simp [e])⟩
end
end Go.Proofs.Ytchbbaehdcmcfaa
