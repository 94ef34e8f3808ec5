import Derived.Test.YtoefdkjjhmfmoaaHnvae
import Derived.Test.YtoefdkjjhmfmoaaHnvab
import Derived.Test.YtoefdkjjhmfmoaaRows
set_option linter.unusedVariables false
set_option linter.unusedSimpArgs false
/- Stage 11's laws: how deep a term is asked of. -/
namespace Go.Proofs.Ytoefdkjjhmfmoaa
open Go.RowKit
set_option linter.unusedVariables false

set_option maxHeartbeats 2000000 in
theorem deep11_at : ∀ (N : Nat) (x : Tm), sizeN x ≤ N → ∀ (left : Int), I64 left → ∀ (w : World) (v : Value), TmV w x v →
    Calls Try.prog 18 #[v, .int .i64 left] w fun e w' => e = .returned (.bool (deepT x left)) ∧ Below w.heap.size w w'
  | 0, x, h, left, hl, w, v, hv => by have := size_pos x; omega
  | N + 1, .mk k n s ts, h, left, hl, w, v, hv => by
    obtain ⟨u, rfl, hs, hk, hn, hu⟩ := tmV_iff.1 hv
    obtain ⟨a, c, rfl, h1, h2, h3⟩ := hu.len
    unfold BIG at h3
    unfold I64 at hl
    have hD : deepT (.mk k n s ts) left = if left < 1 ∨ 12 < ts.length then true else deepsT ts (left - 1) := by rw [deepT]
    by_cases hlt : left < 1
    · rw [hD, if_pos (Or.inl hlt)]
      clear hD
      go_enter Try.func18, Try.ntmps18
      go_wp2
      go_ret
      exact ⟨rfl, bel1' _ _⟩
    obtain ⟨m, hm⟩ : ∃ m, ts.length = m := ⟨_, rfl⟩
    by_cases h12 : 12 < m
    · rw [hD, if_pos (Or.inr (by rw [hm]; exact h12))]
      rw [hm] at h1 h3 ⊢
      clear hD hv hu hm
      go_enter Try.func18, Try.ntmps18
      go_wp2
      go_ret
      exact ⟨rfl, bel1' _ _⟩
    rw [hD, if_neg (by rw [hm]; omega)]
    have hI : I64 (left - 1) := by unfold I64; omega
    have IH := Lib.hid (fun (y : Tm) (hy : y ∈ ts) => deep11_at N y (mem_size h hy) (left - 1) hI)
    have HU := Lib.hid hu
    have HM := Lib.hid hm
    rw [hm] at h1 h3 hu HU ⊢
    obtain ⟨r, hr⟩ : ∃ r, deepsT ts (left - 1) = r := ⟨_, rfl⟩
    rw [hr]
    have HR := Lib.hid hr
    clear hD hv hu hm hr h
    go_enter Try.func18, Try.ntmps18
    go_wp2_with fail
    go_loopw [5] (fun v wr => ∃ i : Nat, i ≤ m ∧ v = .int .i64 i ∧ Hid (deepsT (ts.drop i) (left - 1) = r) ∧ Hid (Below (w.alloc (.cells #[.int .i64 k, .int .i64 n, .string s, .slice a m c] 31)).heap.size (w.alloc (.cells #[.int .i64 k, .int .i64 n, .string s, .slice a m c] 31)) wr)) (fun v _ => m - (intOf v).toNat)
    case atStart => exact ⟨0, Nat.zero_le _, rfl, Lib.hid (by rw [List.drop_zero]; exact HR.out), Lib.hid (Below.refl _ _)⟩
    case round =>
      obtain ⟨i, hi, rfl, HD, HB⟩ := hrel
      obtain ⟨e0, e1, e2, e3⟩ := box_cells w 31 _ _ _ _ HB.out
      by_cases hil : i < m
      · obtain ⟨y, hy⟩ : ∃ y, ts[i]? = some y := ⟨_, List.getElem?_eq_getElem (by rw [HM.out]; exact hil)⟩
        have hdr : ts.drop i = y :: ts.drop (i + 1) := by
          obtain ⟨hlt', rfl⟩ := List.getElem?_eq_some_iff.1 hy
          exact List.drop_eq_getElem_cons hlt'
        have hd := HD.out
        rw [hdr, deepsT] at hd
        have HBW := Lib.hid (Ext.trans' (bel1' w _) HB.out)
        obtain ⟨b, off, k', n', s', u', rfl, hbb, _, _, _, c0, c1, c2, c3, _, ht⟩ := (HU.out.ext HBW.out).get hy
        have ih := IH.out y (List.mem_of_getElem? hy) wr _ ht
        clear hdr HD ht
        cases hq : deepT y (left - 1)
        · rw [hq, Bool.false_or] at hd
          rw [hq] at ih
          have HD := Lib.hid hd
          clear hq hd hy
          (go_wp2_with fail; go_fit (ih); rintro e w2 ⟨rfl, b2⟩)
          have B2 := Lib.hid (Ext.trans' HB.out b2)
          clear b2
          go_wp2
          go_roundw
          case rel => exact ⟨i + 1, by omega, by go_num, HD, B2⟩
          case measure => simp [intOf]; omega
        · rw [hq, Bool.true_or] at hd
          rw [hq] at ih
          subst hd
          clear hq hy HR
          (go_wp2_with fail; go_fit (ih); rintro e w2 ⟨rfl, b2⟩)
          have B2 := Lib.hid (Ext.trans' HBW.out b2)
          clear b2
          go_wp2
          go_ret
          exact ⟨rfl, B2.out⟩
      · have hd := HD.out
        rw [List.drop_eq_nil_of_le (by rw [HM.out]; omega), deepsT] at hd
        subst hd
        clear HR HD
        go_wp2
        go_ret
        exact ⟨rfl, Ext.trans' (bel1' w _) HB.out⟩
end Go.Proofs.Ytoefdkjjhmfmoaa
/- Stage 11's laws: the acts that come in; awake. -/
namespace Go.Proofs.Ytoefdkjjhmfmoaa
open Go.RowKit
set_option linter.unusedVariables false

/-- An act, beside its value's last part. -/
structure ActB where
  op : Int
  n : Int
  t : TmP
def actBCells (x : ActB) : List Value := [.int .i64 x.op, .int .i64 x.n] ++ pCells x.t
def actBOk (W : World) (x : ActB) : Prop := I64 x.op ∧ I64 x.n ∧ TmV W x.t.1 (pVal x.t)
def ActsB (w : World) (v : Value) (l : List ActB) : Prop := Elems 6 actBCells w v l ∧ (∀ x ∈ l, actBOk w x) ∧ l.length * 72 ≤ BIG
section
open Go.ChangeShapes Go.WideShapes Go.ChangeAt Go.Deep
set_option maxRecDepth 100000
theorem actsB_of_trod {H : Type} {enc : TypeId × Value → H} {W : World} {v : Value} {d : DataW H} {ps : List MemPlace} (h : DataW.Trod enc Try.prog W 0 (fun _ => true) true 42 v d ps)
    (hv : Value.okWide Try.prog W .any 0 42 v) (hw : ∀ n ∈ d.weights Try.prog 42, n ≤ 140737488351232) : ∃ l, ActsB W v l := by
  obtain ⟨xs, h1, h2, h3⟩ := elems_of_trod (S := 6) (B := 72) Try.underlying42 (by kernel_rfl) (by omega) (by kernel_rfl) actBCells (actBOk W) (okWide_slice Try.underlying42 hv) h hw (fun n cs D pl hd hw => by
    obtain ⟨xs, n', rfl, hx, hl, hxl, hf⟩ := DataW.trod_struct Try.underlying45 hd
    have e1 : Try.prog.cellsOf 45 = 6 := by kernel_rfl
    have e2 : Try.prog.cellsOf 3 = 1 := by kernel_rfl
    have e3 : Try.prog.cellsOf 2 = 1 := by kernel_rfl
    have e4 : Try.prog.cellsOf 31 = 4 := by kernel_rfl
    rw [e1] at hl
    obtain ⟨c0, c1, c2, c3, c4, c5, rfl⟩ : ∃ c0 c1 c2 c3 c4 c5, cs = [c0, c1, c2, c3, c4, c5] := by
      match cs, hl with
      | [a, b, c, d, e, f], _ => exact ⟨a, b, c, d, e, f, rfl⟩
    obtain ⟨y0, y1, y2, rfl⟩ : ∃ y0 y1 y2, xs = [y0, y1, y2] := by
      match xs, hxl with
      | [a, b, c], _ => exact ⟨a, b, c, rfl⟩
    have f0 : DataW.trod enc Try.prog W 0 (fun _ => true) true n' 3 (([c0, c1, c2, c3, c4, c5].drop 0).take (Try.prog.cellsOf 3)) = [y0, y1, y2][0]? := hf 0 _ rfl
    have f1 : DataW.trod enc Try.prog W 0 (fun _ => true) true n' 2 (([c0, c1, c2, c3, c4, c5].drop 1).take (Try.prog.cellsOf 2)) = [y0, y1, y2][1]? := hf 1 _ rfl
    have f2 : DataW.trod enc Try.prog W 0 (fun _ => true) true n' 31 (([c0, c1, c2, c3, c4, c5].drop 2).take (Try.prog.cellsOf 31)) = [y0, y1, y2][2]? := hf 2 _ rfl
    rw [e2] at f0
    rw [e3] at f1
    rw [e4] at f2
    simp only [List.drop_zero, List.drop_succ_cons, List.take_succ_cons, List.take_zero, List.getElem?_cons_zero, List.getElem?_cons_succ] at f0 f1 f2
    obtain ⟨k, q0, r0, s0⟩ := DataW.trod_int Try.underlying3 f0
    obtain ⟨m, q1, r1, s1⟩ := DataW.trod_int Try.underlying2 f1
    obtain rfl := (List.cons.inj q0).1
    obtain rfl := (List.cons.inj q1).1
    simp only [Prod.mk.injEq] at hx
    obtain ⟨hx1, _⟩ := hx
    obtain ⟨x, hx2, _⟩ := term_parse _ y2.1 (Nat.le_refl _) _ _ y2.2 f2 (fun j hj => hw j (by
      rw [hx1]
      simp [DataW.weights, Try.underlying45, DataW.weightsEach, hj]))
    obtain ⟨u, hu⟩ := hx2.pair
    have hu' := hu
    simp only [pVal, Value.agg.injEq] at hu'
    have h2' := congrArg Array.toList hu'
    simp only [List.cons.injEq, and_true] at h2'
    obtain ⟨p0, p1, p2, p3⟩ := h2'
    refine ⟨⟨k, m, (x, u)⟩, ?_, wf_range s0, wf_range s1, by rw [hu] at hx2; exact hx2⟩
    simp [actBCells, pCells, p0, p1, p2, p3])
  exact ⟨xs, h1, h2, by unfold BIG; exact h3⟩
end
end Go.Proofs.Ytoefdkjjhmfmoaa
/- Stage 11's laws: awake. -/
namespace Go.Proofs.Ytoefdkjjhmfmoaa
open Go.RowKit
set_option linter.unusedVariables false

theorem top_leaf {R : List (Int × Tm)} {y : Tm} (hg : goodT y = true) (ht : topB R y) {k n : Int} {s : ByteArray} (h : subT (fullB R) y = .mk k n s []) : y = .mk k n s [] := by
  rw [topped hg ht] at h
  cases y with
  | mk k' n' s' ts =>
    injection h with h1 h2 h3 h4
    have h1 : k' = k := h1
    have h2 : n' = n := h2
    have h3 : s' = s := h3
    have h4 : subL (fullB R) ts = [] := h4
    subst h1 h2 h3
    have : ts = [] := by rw [subL_map] at h4; simpa using h4
    rw [this]
theorem Touch.own {F : List Nat} {W w w' : World} (hb : Below W.heap.size W w) (ht : Touch F w w') (hF : ∀ k ∈ F, W.heap.size ≤ k) : Below W.heap.size W w' := hb.trans (ht.below hb.size hF)
theorem set_atom : setB 1 [] 0 (atomT ⟨#[97]⟩) = 0 := by decide +kernel
theorem atom_tm (w : World) : TmV w (atomT ⟨#[97]⟩) (.agg #[.int .i64 2, .int .i64 0, .string ⟨#[97]⟩, .slice none 0 0]) := leaf_tm w i64_2 i64_0 (by unfold BIG; decide)
theorem good_atom : goodT (atomT ⟨#[97]⟩) = true := by decide +kernel
theorem same_atom : sameT (atomT ⟨#[97]⟩) (atomT ⟨#[97]⟩) = true := same_self _
set_option maxHeartbeats 8000000 in
set_option maxRecDepth 100000 in
theorem bawake_at (w : World) : Calls Try.prog 6 #[] w fun e w' => e = .returned (.bool true) ∧ Below w.heap.size w w' := by
  go_enter Try.func6, Try.ntmps6
  (go_wp2_with fail; go_fit (New_at (V := w) (Stays.refl w)); rintro e w1 ⟨p, F1, rfl, h1, b1, hf1⟩)
  obtain ⟨bt, rfl⟩ : ∃ bt, p = .pointer (some ⟨bt, 0, none⟩) := by obtain ⟨bt, _, _, _, _, rfl, _⟩ := h1; exact ⟨bt, rfl⟩
  have C2 := Fresh_at h1 (by omega)
  have HB1 := Lib.hid (And.intro b1 hf1)
  clear h1 b1 hf1
  (go_wp2_with fail; go_fit (C2); rintro e w2 ⟨F2, rfl, h2, t2, hf2⟩)
  have hF2 : ∀ k ∈ F2, w.heap.size ≤ k := fun k hk => (hf2 k hk).elim (fun h => HB1.out.2 k h) (fun h => Nat.le_trans HB1.out.1.size h)
  have b2 : Below w.heap.size w w2 := Touch.own HB1.out.1 t2 HB1.out.2
  have HB2 := Lib.hid (And.intro b2 hF2)
  have H2 := Lib.hid h2
  clear h2 t2 hf2 hF2 b2 C2 HB1
  go_wp2_with fail
  obtain ⟨w3, e3, b3, z3, x3⟩ := box_new w2 #[.int .i64 0, .int .i64 0, .string ⟨#[]⟩, .slice none 0 0] 31
  have HB3 := Lib.hid (And.intro b3 x3)
  clear b3 x3 z3
  (try rw [e3])
  clear e3
  go_fit (atom_at w3 ⟨#[97]⟩)
  rintro e w4 ⟨rfl, b4⟩
  have HB4 := Lib.hid (Ext.trans' HB3.out.1 b4)
  have C4 := Set_at (H2.out.ext HB4.out) (n := 0) i64_0 (atom_tm w)
  have HX4 := Lib.hid (HB3.out.2.ext b4)
  clear b4
  (go_wp2_with fail; go_fit (C4); rintro e w5 h5)
  obtain ⟨F5, R5, rfl, h5, t5, hf5, hr5⟩ := h5
  rw [set_atom] at hr5 ⊢
  rcases hr5 with ⟨_, y, rfl, hy⟩ | ⟨hno, _⟩
  · have hb4 : Below w.heap.size w w4 := Ext.trans' HB2.out.1 HB4.out
    have hF5 : ∀ k ∈ F5, w.heap.size ≤ k := fun k hk => (hf5 k hk).elim (fun h => HB2.out.2 k h) (fun h => Nat.le_trans hb4.size h)
    have b5 : Below w.heap.size w w5 := Touch.own hb4 t5 HB2.out.2
    have hx5 : Box w5 w2.heap.size [.int .i64 0, .int .i64 0, .string ⟨#[]⟩, .slice none 0 0] := HX4.out.block (t5.block _ HX4.out.lt (fun hm => by have := H2.out.lt _ hm; omega)) (Nat.lt_of_lt_of_le HX4.out.lt t5.size)
    obtain ⟨x0, x1, x2, x3, xf⟩ := hx5.four
    have hy2 : subT (fullB [((0 : Int), y)]) (varV 0) = atomT ⟨#[97]⟩ := by
      rw [sub_varV]
      have := (full_set (N := 1) (by omega) h5.tri.1).2
      rw [this, hy]
      unfold atomT
      rw [sub_not _ (by omega)]
      rfl
    have W5 := Walk_at h5 (zero_tm w) (var_good (by omega) (by omega)) (fun m hm => by rw [occ_varV] at hm; simp at hm; omega)
    have HH := Lib.hid (And.intro h5 (And.intro b5 hy2))
    clear h5 t5 hf5 hy hF5 b5 hy2 hb4 C4 hx5
    go_wp2_with fail
    go_fit (W5)
    rintro e w6 ⟨z, v6, rfl, hz, hwk, htop, b6⟩
    have hze : z = atomT ⟨#[97]⟩ := top_leaf hwk.good htop (hwk.same.trans HH.out.2.2)
    subst hze
    have HZ := Lib.hid hz
    have HB6 := Lib.hid b6
    obtain ⟨k, n, s, a, m, c, rfl, _, _, _, fv⟩ := four_of hz
    clear fv
    clear hz hwk htop b6 W5 x0 x1 x2 x3 xf
    (go_wp2_with fail; go_fit (atom_at _ ⟨#[97]⟩); rintro e w7 ⟨rfl, b7⟩)
    have HB7 := Lib.hid (Ext.trans' HB6.out b7)
    clear b7
    (go_wp2_with fail; go_fit (Same_at (TmV.stay ((HH.out.1.see.1).later HB7.out) _ _ HZ.out) (atom_tm w7)); rintro e w8 ⟨rfl, b8⟩)
    have HB8 := Lib.hid (Ext.trans' HB7.out b8)
    rw [good_atom, same_atom]
    clear b8
    (go_wp2_with fail; go_fit (Mark_at (HH.out.1.ext HB8.out)); rintro e w9 ⟨rfl, rfl⟩)
    (go_wp2_with fail; go_fit (Len_at (HH.out.1.ext HB8.out)); rintro e w9 ⟨rfl, rfl⟩)
    go_wp2
    go_ret
    exact ⟨rfl, HH.out.2.1.trans (HB8.out.mono HH.out.2.1.size)⟩
  · exact absurd rfl hno
end Go.Proofs.Ytoefdkjjhmfmoaa
/- Package bind: a variable that stands for nothing is answered as it came; what is read beside a Binds. -/
namespace Go.Proofs.Ytoefdkjjhmfmoaa
open Go.RowKit
set_option linter.unusedVariables false

section
variable {V w : World} {F : List Nat} {p : Value} {N : Nat} {R : List (Int × Tm)}
set_option maxHeartbeats 4000000 in
theorem Walk_free (h : IsB V F w p N R) (n : Nat) (hn : n < N) (hf : getB R n = none) (a : Option Addr) (c : Nat) :
    Calls Try.prog 15 #[p, .agg #[.int .i64 0, .int .i64 n, .string ⟨#[]⟩, .slice a 0 c]] w fun e w' => e = .returned (.agg #[.int .i64 0, .int .i64 n, .string ⟨#[]⟩, .slice a 0 c]) ∧ Below w.heap.size w w' := by
  obtain ⟨w1, e1, B1, z1, X1⟩ := box_new w #[.int .i64 0, .int .i64 n, .string ⟨#[]⟩, .slice a 0 c] 31
  obtain ⟨w2, e2, B2, z2, X2⟩ := box_new w1 #[.int .i64 0, .int .i64 0, .string ⟨#[]⟩, .slice none 0 0] 31
  have X1 := X1.ext B2
  rw [z1] at X2
  have hb2 := Ext.trans' B1 B2
  have C := stands_var (h.ext hb2) n hn a c
  rw [hf] at C
  obtain ⟨x0, x1, x2, x3, xf⟩ := X1.four
  have HX := Lib.hid (And.intro hb2 (And.intro X1 X2))
  clear h hf B1 B2 X1 X2 z2 hb2
  go_enter Try.func15, Try.ntmps15
  go_wp2_with fail
  (try rw [e1])
  (try rw [e2])
  clear e1 e2 z1
  go_loopg [] 0 (fun g wr => Hid (wr = w2))
  case atStart => exact Lib.hid rfl
  case round =>
    obtain rfl := hrel.out
    clear hrel
    go_wp2_with fail
    go_fit (C)
    rintro e w6 ⟨rfl, b6⟩
    obtain ⟨d0, d1, d2, d3, df⟩ := (HX.out.2.1.ext b6).four
    obtain ⟨z0, z1, z2, z3, zf⟩ := (HX.out.2.2.ext b6).four
    have HB6 := Lib.hid (HX.out.1.trans (b6.mono HX.out.1.size))
    clear b6 x0 x1 x2 x3 xf
    go_wp2
    refine bodyPost_ret (v := .agg #[.int .i64 0, .int .i64 n, .string ⟨#[]⟩, .slice a 0 c]) (by rw [results_cell1 rfl]; go_simp) rfl ⟨rfl, ?_⟩
    exact Below.set4 HB6.out (by omega) _ _ _ _
/-- Seen from where all is seen but its own blocks. -/
def awayB (F : List Nat) : Nat → Bool := fun k => decide (k ∈ F)
theorem IsB.rebase (h : IsB V F w p N R) : IsB (hide (awayB F) w) F w p N R := by
  obtain ⟨hs, hb⟩ := h.see
  refine h.from ⟨by rw [hide_size]; exact hs.1, fun a v hv => ?_⟩ (Stays.unhide _ _) (fun a ha => hide_gone _ _ _ (by simp [awayB, ha]))
  have hn : ¬ a.block ∈ F := fun hm => by rw [hb a hm] at hv; cases hv
  rw [hide_cell _ _ _ (by simp [awayB, hn])]
  exact hs.2 a v hv
theorem TmV.away {n : Nat} {x : Tm} {v : Value} (hF : ∀ k ∈ F, k < n) (h : TmV (hide (under n) w) x v) : TmV (hide (awayB F) w) x v :=
  TmV.stay (Stays.less fun k hk => by
    have hk' : n ≤ k := by simpa using hk
    simp only [awayB, decide_eq_false_iff_not]
    intro hm
    have := hF k hm
    omega) _ _ h
end
end Go.Proofs.Ytoefdkjjhmfmoaa
/- Stage 11's laws: BindWhole. -/
namespace Go.Proofs.Ytoefdkjjhmfmoaa
open Go.RowKit
set_option linter.unusedVariables false

/-- A Binds of the law's own, at w, made since W. -/
def MyB (W w : World) (p : Value) (N : Nat) (R : List (Int × Tm)) : Prop := ∃ F, IsB W F w p N R ∧ Below W.heap.size W w ∧ ∀ k ∈ F, W.heap.size ≤ k
theorem MyB.set {W w' : World} {p : Value} {N : Nat} {R : List (Int × Tm)} {n : Int} {x : Tm} {e : Ending} {F : List Nat} {w0 : World} (hb : Below W.heap.size W w0) (hF : ∀ k ∈ F, W.heap.size ≤ k) (h : SetPost W F w0 p N R n x e w') : ∃ c R', e = .returned (.int .i64 c) ∧ MyB W w' p N R' := by
  obtain ⟨F', R', rfl, h1, h2, h3, _⟩ := h
  exact ⟨_, R', rfl, F', h1, Touch.own hb h2 hF, fun k hk => (h3 k hk).elim (hF k) (fun h => Nat.le_trans hb.size h)⟩
mutual
theorem mem_vars {n : Int} : ∀ (t : Tm) (l : List Int), n ∈ varsT t l ↔ n ∈ l ∨ n ∈ occT t
  | .mk k m s ts, l => by
    rw [varsT, occT]
    by_cases hk : k = 0
    · rw [if_pos hk, if_pos hk]
      by_cases hm : l.contains m = true
      · rw [if_pos hm]
        have hm' : m ∈ l := by simpa using hm
        constructor
        · exact Or.inl
        · rintro (h | h)
          · exact h
          · simp at h; subst h; exact hm'
      · rw [if_neg hm]
        simp
    · rw [if_neg hk, if_neg hk]
      exact mem_varss ts l
theorem mem_varss {n : Int} : ∀ (ts : List Tm) (l : List Int), n ∈ varsL ts l ↔ n ∈ l ∨ n ∈ occL ts
  | [], l => by simp [varsL, occL]
  | x :: r, l => by
    rw [varsL, occL, mem_varss r, mem_vars x, List.mem_append, or_assoc]
end
theorem whole_cases (N : Nat) (R : List (Int × Tm)) (x : Tm) : ((wholeB N R x) = (subT (fullB R) x, 0) ∧ fitsB N x = true ∧ goodT (subT (fullB R) x) = true) ∨ wholeB N R x = (varV 0, 1) ∨ wholeB N R x = (varV 0, 12) := by
  unfold wholeB
  cases hf : fitsB N x
  · right; left; rfl
  · cases hg : goodT (subT (fullB R) x)
    · right; right; rfl
    · left; exact ⟨rfl, rfl, rfl⟩
theorem whole_again {N : Nat} (hN : N ≤ 65536) {R : List (Int × Tm)} (hT : Tri N R) {x : Tm} (hf : fitsB N x = true) (hg : goodT (subT (fullB R) x) = true) : wholeB N R (subT (fullB R) x) = (subT (fullB R) x, 0) ∧ ∀ n ∈ occT (subT (fullB R) x), 0 ≤ n ∧ n < N ∧ getB R n = none := by
  obtain ⟨f1, f2⟩ := fitsB_true.1 hf
  have hr := subfull_range hT f2
  have hi := full_idem hN hT (good_parts f1).2.2 f2
  have hf2 : fitsB N (subT (fullB R) x) = true := fitsB_true.2 ⟨hg, hr⟩
  refine ⟨by unfold wholeB; rw [hf2, hi, hg]; rfl, fun n hn => ⟨(hr n hn).1, (hr n hn).2, ?_⟩⟩
  obtain ⟨j, _, hj⟩ := (occ_sub x).1 hn
  exact get_none.2 (full_occ hT j n hj)
set_option maxHeartbeats 16000000 in
set_option maxRecDepth 100000 in
theorem bindWhole_at {W : World} {vl vt : Value} {l : List ActB} {x : Tm} (hl : ActsB W vl l) (ht : TmV W x vt) :
    Calls Try.prog 5 #[vl, vt] W fun e w' => e = .returned (.bool true) ∧ Below W.heap.size W w' := by
  obtain ⟨⟨la, lc, rfl, hl1, hl2, hlc⟩, hlok, hlb⟩ := hl
  obtain ⟨kt, nt, st, at', mt, ct, rfl⟩ := ht.full
  obtain ⟨m, hm⟩ : ∃ m, l.length = m := ⟨_, rfl⟩
  rw [hm] at hl1 hlb ⊢
  unfold maxLen at hl2
  have HL := Lib.hid (And.intro hlc (And.intro hlok hm))
  have HT := Lib.hid ht
  have DP := fun (w1 : World) (hb : Below W.heap.size W w1) => deep11_at _ x (Nat.le_refl _) 40 (by unfold I64; omega) w1 _ (TmV.ext hb _ _ ht)
  have HDP := Lib.hid DP
  clear hlc hlok hm ht DP
  go_enter Try.func5, Try.ntmps5
  (go_wp2_with fail; go_fit (bawake_at _); rintro e w2 ⟨rfl, b2⟩)
  have e2 := box_cells W 31 _ _ _ _ b2
  have B2 := Lib.hid (Ext.trans' (bel1' W _) b2)
  obtain ⟨x0, x1, x2, x3⟩ := e2
  clear b2
  by_cases h40 : 40 < m
  · have h40' : (40 : Int) < m := by omega
    go_wp2
    go_ret
    exact ⟨rfl, B2.out⟩
  have h40' : ¬ (40 : Int) < m := by omega
  have C := HDP.out w2 B2.out
  cases hdp : deepT x 40
  · rw [hdp] at C
    (go_wp2_with fail; go_fit (C); rintro e w3 ⟨rfl, b3⟩)
    have B3 := Lib.hid (B2.out.trans (b3.mono B2.out.size))
    have X3 := Lib.hid (show w3.cell? ⟨W.heap.size, 0, none⟩ = some (.int .i64 kt) ∧ w3.cell? ⟨W.heap.size, 1, none⟩ = some (.int .i64 nt) ∧ w3.cell? ⟨W.heap.size, 2, none⟩ = some (.string st) ∧ w3.cell? ⟨W.heap.size, 3, none⟩ = some (.slice at' mt ct) from ⟨cell_later b3 x0, cell_later b3 x1, cell_later b3 x2, cell_later b3 x3⟩)
    clear b3 hdp C
    clear x0 x1 x2 x3
    (go_wp2_with fail; go_fit (New_at (V := w3) (Stays.refl w3)); rintro e w4 ⟨p, F4, rfl, h4, b4, hf4⟩)
    obtain ⟨bt, rfl⟩ : ∃ bt, p = .pointer (some ⟨bt, 0, none⟩) := by obtain ⟨bt, _, _, _, _, rfl, _⟩ := h4; exact ⟨bt, rfl⟩
    have H4 := Lib.hid (show MyB w3 w4 _ 0 [] from ⟨F4, h4, b4, hf4⟩)
    clear h4 b4 hf4
    go_wp2_with fail
    go_loopw [6] (fun z wr => ∃ i : Nat, i ≤ 6 ∧ z = .int .i64 i ∧ Hid (MyB w3 wr (.pointer (some ⟨bt, 0, none⟩)) i [])) (fun z _ => 6 - (intOf z).toNat)
    case atStart => exact ⟨0, by omega, rfl, H4⟩
    case round =>
      obtain ⟨i, hi, rfl, HM⟩ := hrel
      by_cases hi6 : i < 6
      · obtain ⟨F, g1, g2, g3⟩ := HM.out
        have C := Fresh_at g1 (by omega)
        have HG := Lib.hid (And.intro g2 g3)
        clear g1 g2 g3
        (go_wp2_with fail; go_fit (C); rintro e w6 ⟨F6, rfl, h6, t6, hf6⟩)
        have HM6 := Lib.hid (show MyB w3 w6 (.pointer (some ⟨bt, 0, none⟩)) (i + 1) [] from ⟨F6, h6, Touch.own HG.out.1 t6 HG.out.2, fun k hk => (hf6 k hk).elim (HG.out.2 k) (fun h => Nat.le_trans HG.out.1.size h)⟩)
        clear h6 t6 hf6 C
        go_wp2
        go_roundw
        case rel => exact ⟨i + 1, by omega, by go_num, HM6⟩
        case measure => simp [intOf]; omega
      · have hi7 : i = 6 := by omega
        have HM := Lib.hid (show MyB w3 wr (.pointer (some ⟨bt, 0, none⟩)) 6 [] by have := HM.out; rw [hi7] at this; exact this)
        have HI7 := Lib.hid hi7
        have hi6' : ¬ ((i : Int) < 6) := by omega
        clear H4 hi hi6 hi7
        go_wp2_with fail
        go_loopw [7] (fun z wr => ∃ i : Nat, i ≤ m ∧ z = .int .i64 i ∧ Hid (∃ R, MyB w3 wr (.pointer (some ⟨bt, 0, none⟩)) 6 R)) (fun z _ => m - (intOf z).toNat)
        case atStart => exact ⟨0, Nat.zero_le _, rfl, Lib.hid ⟨[], HM.out⟩⟩
        case round =>
          clear HM
          obtain ⟨i, hi, rfl, HM⟩ := hrel
          by_cases him : i < m
          · obtain ⟨y, hy⟩ : ∃ y, l[i]? = some y := ⟨_, List.getElem?_eq_getElem (by rw [HL.out.2.2]; exact him)⟩
            rcases HL.out.1 with hnil | ⟨b, off, rfl, hbw, hc⟩
            · rw [hnil] at hy; simp at hy
            obtain ⟨yo, yn, ⟨yt, yu⟩⟩ := y
            obtain ⟨ok1, ok2, ok3⟩ := HL.out.2.1 _ (List.mem_of_getElem? hy)
            have k1 := cell_later B3.out (hc i _ hy 1 _ rfl)
            have k2 := cell_later B3.out (hc i _ hy 2 _ rfl)
            have k3 := cell_later B3.out (hc i _ hy 3 _ rfl)
            have k4 := cell_later B3.out (hc i _ hy 4 _ rfl)
            have k5 := cell_later B3.out (hc i _ hy 5 _ rfl)
            rw [← Nat.add_assoc] at k1 k2 k3 k4 k5
            obtain ⟨yk, ym, ys, ya, yl, yc, hv, f1, f2, f3, fv⟩ := four_of ok3
            have ok4 : TmV W yt (.agg #[.int .i64 yk, .int .i64 ym, .string ys, .slice ya yl yc]) := by rw [← hv]; exact ok3
            simp only [pVal, Value.agg.injEq] at hv
            have hv' := congrArg Array.toList hv
            simp only [List.cons.injEq, and_true] at hv'
            obtain ⟨g1, g2, g3, g4⟩ := hv'
            simp only [g1, g2, g3, g4] at k2 k3 k4 k5
            have HK := Lib.hid (And.intro k1 (And.intro k2 (And.intro k3 (And.intro k4 k5))))
            have HOK := Lib.hid (And.intro ok2 ok4)
            clear hv g1 g2 g3 g4 ok1 ok2 ok3 ok4 k1 k2 k3 k4 k5 hy hc f1 f2 f3 fv
            obtain ⟨R, F, g1, g2, g3⟩ := HM.out
            have HG := Lib.hid (And.intro g1 (And.intro g2 g3))
            have k2 := cell_later g2 HK.out.2.1
            have k3 := cell_later g2 HK.out.2.2.1
            have k4 := cell_later g2 HK.out.2.2.2.1
            have k5 := cell_later g2 HK.out.2.2.2.2
            have hw3 : Below W.heap.size W wr := B3.out.trans (g2.mono B3.out.size)
            have C := deep11_at _ yt (Nat.le_refl _) 20 (by unfold I64; omega) wr _ (TmV.ext hw3 _ _ HOK.out.2)
            clear g1 g2 g3 hw3
            cases hdq : deepT yt 20
            · rw [hdq] at C
              clear hdq
              (go_wp2_with fail; go_fit (C); rintro e w6 ⟨rfl, b6⟩)
              have HB6 := Lib.hid (HG.out.2.1.trans (b6.mono HG.out.2.1.size))
              clear C k2 k3 k4 k5
              have k1 := cell_later HB6.out HK.out.1
              have k2 := cell_later HB6.out HK.out.2.1
              have k3 := cell_later HB6.out HK.out.2.2.1
              have k4 := cell_later HB6.out HK.out.2.2.2.1
              have k5 := cell_later HB6.out HK.out.2.2.2.2
              have HST := Lib.hid (fun (w7 : World) (hb : Below w6.heap.size w6 w7) => Set_at ((HG.out.1.ext b6).ext hb) HOK.out.1 (TmV.ext B3.out _ _ HOK.out.2))
              clear b6
              go_wp2_with fail
              refine wp_region_held_drew (S := fun w' => w'.cell? ⟨b, off + i * 6 + 1, none⟩ = some (.int .i64 yn) ∧ w'.cell? ⟨b, off + i * 6 + 2, none⟩ = some (.int .i64 yk) ∧ w'.cell? ⟨b, off + i * 6 + 2 + 1, none⟩ = some (.int .i64 ym) ∧ w'.cell? ⟨b, off + i * 6 + 2 + 2, none⟩ = some (.string ys) ∧ w'.cell? ⟨b, off + i * 6 + 2 + 3, none⟩ = some (.slice ya yl yc)) (by kernel_rfl) (⟨k1, k2, k3, k4, k5⟩) (fun hHeld => ?_)
              first | (refine held_t (i := 0) hHeld ?_; apply Exists.intro; refine ⟨fun wq hq => ?_, ?_⟩; (focus ((try dsimp only at hq); go_simp; (first | done | with_reducible rfl | fail)))) | refine held_s (i := 0) hHeld ?_ | fail
              first | (refine held_t (i := 1) hHeld ?_; apply Exists.intro; refine ⟨fun wq hq => ?_, ?_⟩; (focus ((try dsimp only at hq); go_simp; (first | done | with_reducible rfl | fail)))) | refine held_s (i := 1) hHeld ?_ | fail
              first | (refine held_t (i := 2) hHeld ?_; apply Exists.intro; refine ⟨fun wq hq => ?_, ?_⟩; (focus ((try dsimp only at hq); go_simp; (first | done | with_reducible rfl | fail)))) | refine held_s (i := 2) hHeld ?_ | fail
              first | (refine held_t (i := 3) hHeld ?_; apply Exists.intro; refine ⟨fun wq hq => ?_, ?_⟩; (focus ((try dsimp only at hq); go_simp; (first | done | with_reducible rfl | fail)))) | refine held_s (i := 3) hHeld ?_ | fail
              first | (refine held_t (i := 4) hHeld ?_; apply Exists.intro; refine ⟨fun wq hq => ?_, ?_⟩; (focus ((try dsimp only at hq); go_simp; (first | done | with_reducible rfl | fail)))) | refine held_s (i := 4) hHeld ?_ | fail
              first | (refine held_t (i := 5) hHeld ?_; apply Exists.intro; refine ⟨fun wq hq => ?_, ?_⟩; (focus ((try dsimp only at hq); go_simp; (first | done | with_reducible rfl | fail)))) | refine held_s (i := 5) hHeld ?_ | fail
              first | (refine held_t (i := 6) hHeld ?_; apply Exists.intro; refine ⟨fun wq hq => ?_, ?_⟩; (focus ((try dsimp only at hq); go_simp; (first | done | with_reducible rfl | fail)))) | refine held_s (i := 6) hHeld ?_ | fail
              first | (refine held_t (i := 7) hHeld ?_; apply Exists.intro; refine ⟨fun wq hq => ?_, ?_⟩; (focus ((try dsimp only at hq); go_simp; (first | done | with_reducible rfl | fail)))) | refine held_s (i := 7) hHeld ?_ | fail
              first | (refine held_t (i := 8) hHeld ?_; apply Exists.intro; refine ⟨fun wq hq => ?_, ?_⟩; (focus ((try dsimp only at hq); go_simp; (first | done | with_reducible rfl | fail)))) | refine held_s (i := 8) hHeld ?_ | fail
              first | (refine held_t (i := 9) hHeld ?_; apply Exists.intro; refine ⟨fun wq hq => ?_, ?_⟩; (focus ((try dsimp only at hq); go_simp; (first | done | with_reducible rfl | fail)))) | refine held_s (i := 9) hHeld ?_ | fail
              first | (refine held_t (i := 10) hHeld ?_; apply Exists.intro; refine ⟨fun wq hq => ?_, ?_⟩; (focus ((try dsimp only at hq); go_simp; (first | done | with_reducible rfl | fail)))) | refine held_s (i := 10) hHeld ?_ | fail
              try simp only [Act.put, List.setIfInBounds_toArray, List.set_cons_zero, List.set_cons_succ]
              refine held_c 11 fun K hK => ?_
              go_simp
              (go_at_call 8; refine (HST.out _ (Below.refl _ _).drew).mono ?_; rintro e w8 h8; obtain ⟨cc, R8, rfl, hm8⟩ := MyB.set (HB6.out.drew) HG.out.2.2 h8; have hb8 : Below w3.heap.size w3 w8 := (by obtain ⟨F8, _, q2, _⟩ := hm8; exact q2))
              refine hK.out _ _ (⟨cell_later hb8 HK.out.1, cell_later hb8 HK.out.2.1, cell_later hb8 HK.out.2.2.1, cell_later hb8 HK.out.2.2.2.1, cell_later hb8 HK.out.2.2.2.2⟩) (fun hHeld => ?_)
              clear hK K
              try simp only [Act.put, List.setIfInBounds_toArray, List.set_cons_zero, List.set_cons_succ]
              refine wpAnyH_done (by kernel_rfl) ?_ _
              have HM8 := Lib.hid hm8
              clear hm8 hb8 h8 hHeld k1 k2 k3 k4 k5
              go_wp2
              go_roundw
              case rel => exact ⟨i + 1, by omega, by go_num, Lib.hid ⟨_, HM8.out⟩⟩
              case measure => simp [intOf]; omega
            · rw [hdq] at C
              clear hdq
              (go_wp2_with fail; go_fit (C); rintro e w6 ⟨rfl, b6⟩)
              have HB6 := Lib.hid (HG.out.2.1.trans (b6.mono HG.out.2.1.size))
              clear C b6
              go_wp2
              go_ret
              exact ⟨rfl, B3.out.trans (HB6.out.mono B3.out.size)⟩
          · clear HDP hi
            obtain ⟨R, F, g1, g2, g3⟩ := HM.out
            have HG := Lib.hid (And.intro g1 (And.intro g2 g3))
            have k0 := cell_later g2 X3.out.1
            have k1 := cell_later g2 X3.out.2.1
            have k2 := cell_later g2 X3.out.2.2.1
            have k3 := cell_later g2 X3.out.2.2.2
            have C := Whole_at g1 (TmV.ext B3.out _ _ HT.out)
            clear g1 g2 g3 HM
            go_wp2_with fail
            go_fit (C)
            rintro e w8 ⟨r8, rfl, hr8, b8⟩
            have HB8 := Lib.hid b8
            have HI8 := Lib.hid (HG.out.1.ext b8)
            clear C k0 k1 k2 k3
            rcases whole_cases 6 R x with ⟨hA, hfit, hgood⟩ | hA | hA
            · rw [hA] at hr8 ⊢
              have hTri := HG.out.1.tri
              obtain ⟨ha1, ha2⟩ := whole_again hTri.2 hTri.1 hfit hgood
              have HAG := Lib.hid (And.intro ha1 ha2)
              have HR8 := Lib.hid (TmV.away HG.out.1.lt hr8)
              obtain ⟨T, hT⟩ : ∃ T, subT (fullB R) x = T := ⟨_, rfl⟩
              rw [hT] at hr8 HR8 HAG hgood ⊢
              obtain ⟨tk, tn, ts, ta, tl, tc, rfl, f1, f2, f3, fv⟩ := four_of hr8
              clear hA hfit hT ha1 ha2 f1 f2 f3 fv hTri b8 hr8
              have hgT : goodT T = true := hgood
              have HGT := Lib.hid hgT
              go_wp2_with fail
              obtain ⟨w9, e9, b9, z9, x9⟩ := box_new w8 #[.int .i64 tk, .int .i64 tn, .string ts, .slice ta tl tc] 31
              have HB9 := Lib.hid (And.intro b9 x9)
              clear b9 x9 z9
              (try rw [e9])
              clear e9
              have HR9 := Lib.hid (TmV.ext HB9.out.1 _ _ HR8.out.bare)
              have C := Vars_at T w9 _ HR9.out
              rw [hgT, if_pos rfl] at C
              clear hgood hgT
              go_fit (C)
              rintro e w10 ⟨rv, rfl, hnv, b10⟩
              have HB10 := Lib.hid b10
              obtain ⟨ra, rc, rfl, hrc1, hrc2⟩ := hnv.len
              obtain ⟨q, hq⟩ : ∃ q, (varsT T []).length = q := ⟨_, rfl⟩
              rw [hq] at hrc1 hnv ⊢
              unfold maxLen at hrc2
              have HNV := Lib.hid (And.intro hnv hq)
              clear hnv hq b10 C
              go_wp2_with fail
              go_loopw [11] (fun z wr => ∃ j : Nat, j ≤ q ∧ z = .int .i64 j ∧ Hid (Below w10.heap.size w10 wr)) (fun z _ => q - (intOf z).toNat)
              case atStart => exact ⟨0, Nat.zero_le _, rfl, Lib.hid (Below.refl _ _)⟩
              case round =>
                obtain ⟨j, hj, rfl, HJ⟩ := hrel
                have HJ9 := Lib.hid (HB10.out.trans (HJ.out.mono HB10.out.size))
                have HJ8 := Lib.hid (Ext.trans' HB9.out.1 HJ9.out)
                by_cases hjq : j < q
                · obtain ⟨u, hu⟩ : ∃ u, (varsT T [])[j]? = some u := ⟨_, List.getElem?_eq_getElem (by rw [HNV.out.2]; exact hjq)⟩
                  obtain ⟨gb, go, rfl, _, c0⟩ := HNV.out.1.get hu
                  have c1 := cell_later HJ.out c0
                  obtain ⟨hu0, hu1, hu2⟩ := HAG.out.2 u (by have := (mem_vars (n := u) T []).1 (List.mem_of_getElem? hu); simpa using this)
                  obtain ⟨ui, hui⟩ : ∃ ui : Nat, u = (ui : Int) := ⟨u.toNat, by omega⟩
                  subst hui
                  have hui6 : ui < 6 := by omega
                  have hgv : goodT (varV (ui : Int)) = true := var_good (by omega) (by omega)
                  have HWF := Lib.hid (fun (wq : World) (hb : Below wr.heap.size wr wq) => Walk_free ((HI8.out.ext HJ8.out).ext hb) ui hui6 hu2 none 0)
                  have HSM := Lib.hid (fun (wq : World) => Same_at (w := wq) (x := varV (ui : Int)) (y := varV (ui : Int)) (leaf_tm wq i64_0 (by unfold I64; omega) (by unfold BIG; decide)) (leaf_tm wq i64_0 (by unfold I64; omega) (by unfold BIG; decide)))
                  rw [hgv, same_self] at HSM
                  clear c0 hu hu0 hu1 hu2 hgv
                  go_wp2_with fail
                  (refine wp_region_class (fun w' => w'.cell? ⟨gb, go + j, none⟩ = some (.int .i64 ui) ∧ Below wr.heap.size wr w') (by kernel_rfl) (by kernel_rfl) (⟨c1, (Below.refl _ _).drew⟩) ?_; (repeat (first | go_big_quiet_skip | (go_big_quiet_want; refine quiet_of ?_; apply Exists.intro; refine ⟨fun wq hq => ?_, ?_⟩; (focus ((try dsimp only at hq); go_simp; (first | done | with_reducible rfl | (first | (go_at_call 10; refine (var_at wq _).mono ?_; rintro e w6 ⟨rfl, h6⟩; exact ⟨rfl, cell_later h6 hq.1, Below.trans hq.2 (h6.mono hq.2.size)⟩) | (go_at_call 15; refine (HWF.out wq hq.2).mono ?_; rintro e w6 ⟨rfl, h6⟩; exact ⟨rfl, cell_later h6 hq.1, Below.trans hq.2 (h6.mono hq.2.size)⟩) | (go_at_call 16; refine (HSM.out wq).mono ?_; rintro e w6 ⟨rfl, h6⟩; exact ⟨rfl, cell_later h6 hq.1, Below.trans hq.2 (h6.mono hq.2.size)⟩) | fail) | fail))); try simp only [Act.put, List.setIfInBounds_toArray, List.set_cons_zero, List.set_cons_succ]; go_big_quiet_on) | fail)); refine wpQuiet_nil ?_; intro wz hz)
                  have HZ := Lib.hid (HJ.out.trans (hz.2.mono HJ.out.size))
                  clear hz c1
                  go_wp2
                  go_roundw
                  case rel => exact ⟨j + 1, by omega, by go_num, HZ⟩
                  case measure => simp [intOf]; omega
                · have hre := (HI8.out.ext HJ8.out).rebase
                  have C := Whole_at hre (TmV.later HJ8.out HR8.out)
                  rw [HAG.out.1] at C
                  have HRE := Lib.hid (TmV.ext HJ9.out _ _ HR9.out)
                  obtain ⟨x0, x1, x2, x3, xf⟩ := (HB9.out.2.ext HJ9.out).four
                  clear hre
                  go_wp2_with fail
                  go_fit (C)
                  rintro e w11 ⟨r11, rfl, hr11, b11⟩
                  have HB11 := Lib.hid b11
                  have HR11 := Lib.hid hr11.bare
                  obtain ⟨yk, yn, ys, ya, yl, yc, rfl, f1, f2, f3, fv⟩ := four_of hr11
                  have HX11 := Lib.hid ((HB9.out.2.ext HJ9.out).ext b11)
                  clear C hr11 f1 f2 f3 fv b11 x0 x1 x2 x3 xf
                  obtain ⟨x0, x1, x2, x3, xf⟩ := HX11.out.four
                  have y0 := fun o => Lib.cell?_alloc_some o x0
                  have y1 := fun o => Lib.cell?_alloc_some o x1
                  have y2 := fun o => Lib.cell?_alloc_some o x2
                  have y3 := fun o => Lib.cell?_alloc_some o x3
                  clear x0 x1 x2 x3 xf
                  have hb12 := bel1' w11 (.cells #[.int .i64 yk, .int .i64 yn, .string ys, .slice ya yl yc] 31)
                  have CS := Same_at (TmV.ext hb12 _ _ (TmV.ext HB11.out _ _ HRE.out)) (TmV.ext hb12 _ _ HR11.out)
                  rw [HGT.out, same_self] at CS
                  have HT12 := Lib.hid (TmV.ext hb12 _ _ (TmV.ext HB11.out _ _ HRE.out))
                  have HB12 := Lib.hid (Ext.trans' HB11.out hb12)
                  have HXX := Lib.hid (HX11.out.ext hb12)
                  clear hb12
                  (go_wp2_with fail; go_fit (CS); rintro e w13 ⟨rfl, b13⟩)
                  obtain ⟨x0, x1, x2, x3, xf⟩ := (HXX.out.ext b13).four
                  have HB13 := Lib.hid (Ext.trans' HB12.out b13)
                  have CG := Good_at _ w13 _ (TmV.ext b13 _ _ HT12.out)
                  rw [HGT.out] at CG
                  clear b13 y0 y1 y2 y3
                  (go_wp2_with fail; go_fit (CG); rintro e w14 ⟨rfl, b14⟩)
                  have HB14 := Lib.hid (Ext.trans' HB13.out b14)
                  clear b14
                  go_wp2
                  go_ret
                  exact ⟨rfl, B3.out.trans ((HG.out.2.1.trans ((Ext.trans' HB8.out (Ext.trans' HJ8.out HB14.out)).mono HG.out.2.1.size)).mono B3.out.size)⟩
            · rw [hA] at hr8 ⊢
              obtain ⟨tk, tn, ts, ta, tl, tc, rfl, f1, f2, f3, fv⟩ := four_of hr8
              clear hA f1 f2 f3 fv b8 hr8
              go_wp2
              go_ret
              exact ⟨rfl, B3.out.trans ((HG.out.2.1.trans ((HB8.out.alloc (Nat.le_trans HB8.out.size (Nat.le_refl _)) _).mono HG.out.2.1.size)).mono B3.out.size)⟩
            · rw [hA] at hr8 ⊢
              obtain ⟨tk, tn, ts, ta, tl, tc, rfl, f1, f2, f3, fv⟩ := four_of hr8
              clear hA f1 f2 f3 fv b8 hr8
              go_wp2
              go_ret
              exact ⟨rfl, B3.out.trans ((HG.out.2.1.trans ((HB8.out.alloc (Nat.le_trans HB8.out.size (Nat.le_refl _)) _).mono HG.out.2.1.size)).mono B3.out.size)⟩
  · rw [hdp] at C
    (go_wp2_with fail; go_fit (C); rintro e w3 ⟨rfl, b3⟩)
    have B3 := Lib.hid (B2.out.trans (b3.mono B2.out.size))
    clear b3 hdp C
    go_wp2
    go_ret
    exact ⟨rfl, B3.out⟩
end Go.Proofs.Ytoefdkjjhmfmoaa
/- BindWhole: what is whole has no variables that stand for something; made whole again it is the same: for every input the law answers true. No condition. -/
namespace Go.Proofs.Ytoefdkjjhmfmoaa
open Go.RowKit
namespace bindWhole
open Go.ChangeShapes Go.WideShapes Go.ChangeAt Go.RowKit
theorem own : ownKnob Try.prog.godebug = none := by kernel_rfl
theorem laidOut : laidOutB Try.prog = true := by kernel_rfl
set_option linter.unusedVariables false
set_option maxRecDepth 100000 in
theorem lifted (os : Os) (started : os.Started) (H : Type) (enc : TypeId × Value → H) :
    ReturnsInHanded {} Try.checked os 5 .any (Rows.bindWholeSpec.pre6 enc Try.prog Try.f5 Rows.bindWholeRow.domain false) (Rows.bindWholeSpec.post enc Try.prog Try.f5 false true false false) := by
  refine returnsInHanded_of_change_sized (C := Try.checked) own started (by kernel_rfl) Try.func5
    (ChangeSpec.witness6 (enc := enc) (C := Try.checked) false ⟨#[], #[.slice none 0 0, .agg #[.int .i64 0,.int .i64 0,.string ⟨#[]⟩,.slice none 0 0]], []⟩ 8 (by kernel_rfl) (by kernel_rfl) (by kernel_rfl) (by kernel_rfl)) ?_
  intro W base args ds gs before hval0 hW hcnd hsz0 _
  have hval : ∀ (j : Nat) t v, Try.f5.params[j]? = some t → args[j]? = some v → Value.okWide Try.prog W .any base t v := hval0
  have hW' := hW
  obtain ⟨p, q, hA0, hV, rfl, hfz, hnd⟩ := hW
  have hA : DataW.TrodAll enc Try.prog W 0 (fun _ => true) true Try.f5.params.toList args.toList ds p := hA0
  have hsz : (DataW.weightsEach Try.prog (Try.f5.params.toList ++ []) (ds ++ gs)).all (· ≤ reachBytes) = true := hsz0
  rw [Try.params5] at hA hval hsz
  obtain ⟨v0, vs0, d0, ds0, p0, q0, hargs, rfl, rfl, h0, r0⟩ := trodAll_cons hA
  obtain ⟨v1, vs1, d1, ds1, p1, q1, rfl, rfl, rfl, h1, r1⟩ := trodAll_cons r0
  obtain ⟨rfl, rfl, rfl⟩ := trodAll_nil r1
  obtain rfl : args = #[v0, v1] := by cases args; simp_all
  obtain ⟨rfl, rfl⟩ := trodVars_none hV
  clear hA0 hval0 hsz0
  have k0 := h0
  have lt0 := lt_of_trod h0
  have k1 := h1
  have lt1 := lt_of_trod h1
  obtain ⟨a0, w0⟩ := actsB_of_trod h0 (hval 0 42 v0 rfl rfl) (weights_ok hsz (j := 0) (t := 42) (d := d0) rfl rfl)
  obtain ⟨a1, w1⟩ := term_of_trod h1 (hval 1 31 v1 rfl rfl) (weights_ok hsz (j := 1) (t := 31) (d := d1) rfl rfl)
  refine (bindWhole_at w0 w1).mono fun e W' ⟨he, bel⟩ => ?_
  subst he
  exact ⟨_, rfl, _, _, _, [], _, [], hW', trodAll_mk1 (shut_bool Try.underlying4 _), (trodAll_cons_mk (Below.trod laidOut (by kernel_rfl) (of_decide_eq_true (by kernel_rfl)) k0 bel lt0) (trodAll_cons_mk (Below.trod laidOut (by kernel_rfl) (of_decide_eq_true (by kernel_rfl)) k1 bel lt1) trodAll_mk0)), rfl, bel.frame _, fun h => by cases h⟩
theorem proved : Rows.BindWholeSaid :=
  OpenClaim.holds_of_wide 5 Try.f5 rfl rfl rfl rfl rfl rfl rfl ⟨rfl, rfl, rfl, rfl, rfl⟩ rfl rfl rfl rfl rfl (by kernel_rfl) Try.func5 (by kernel_rfl)
    (of_decide_eq_true (by kernel_rfl)) (by unfold Func.isWrapper; first | (rw [if_pos (by decide +kernel)]; kernel_rfl) | (rw [if_neg (by decide +kernel)]; exact ⟨rfl, rfl⟩))
    (fun os started H enc _ => lifted os started H enc)
#print axioms proved
end bindWhole

end Go.Proofs.Ytoefdkjjhmfmoaa
