import Derived.Test.YtbbbgijlbcmpbaaHlqas
import Derived.Test.YtbbbgijlbcmpbaaHlqam
import Derived.Test.YtbbbgijlbcmpbaaHlqao
import Derived.Test.YtbbbgijlbcmpbaaHlqar
import Derived.Test.YtbbbgijlbcmpbaaHlqag
set_option linter.unusedVariables false
set_option linter.unusedSimpArgs false
/- The document's side of chapter 12: Both, walked. -/
namespace Go.Proofs.Ytbbbgijlbcmpbaa
open Go.RowKit
set_option linter.unusedVariables false

theorem rpair_all (V : World) : ∀ K, PairR V K
  | 0 => rpair_step (fun K' h => by cases h)
  | K + 1 => rpair_step (fun K' h => by cases h; exact rpair_all V K)
/-- What the document's Both leaves. -/
def RBothP (V : World) (F : List Nat) (w : World) (p : Value) (N : Nat) (b : BRes) (e : Ending) (w' : World) : Prop :=
  ∃ F' R', e = .returned (.tuple #[.bool b.ok, .int .i64 b.cost, .int .i64 b.err]) ∧ IsR V F' w' p N R' ∧ Sync R' b.set ∧ Touch F w w' ∧ ∀ k ∈ F', k ∈ F ∨ w.heap.size ≤ k
section
variable {V w : World} {F : List Nat} {p : Value} {N : Nat} {R S : List (Int × Tm)} {cb c : Nat}
set_option maxHeartbeats 8000000 in
set_option maxRecDepth 100000 in
theorem RBoth_at (h : IsR V F w p N R) (hs : Sync R S) {x y : Tm} {vx vy : Value} (hx : TmV V x vx) (hy : TmV V y vy) : Calls Try.prog 47 #[p, vx, vy] w (RBothP V F w p N (bothB N S x y)) := by
  obtain ⟨bt, _, _, _, _, a3, c3, rfl, hbl, _, _, d2, _⟩ := h.open
  have HD2 := Lib.hid (And.intro hbl d2)
  clear d2 hbl
  obtain ⟨kx, nx, sx, ax, mx, cx, rfl, f1, f2, f3, fv⟩ := four_of hx
  obtain ⟨ky, ny, sy, ay, my, cy, rfl, g1, g2, g3, gv⟩ := four_of hy
  obtain ⟨w1, e1, B1, z1, X1⟩ := box_new w #[.int .i64 kx, .int .i64 nx, .string sx, .slice ax mx cx] 48
  obtain ⟨w2, e2, B2, z2, X2⟩ := box_new w1 #[.int .i64 ky, .int .i64 ny, .string sy, .slice ay my cy] 48
  have hb2 := Ext.trans' B1 B2
  have X1 := X1.ext B2
  rw [z1] at X2
  obtain ⟨x0, x1, x2, x3, _⟩ := X1.four
  obtain ⟨y0, y1, y2, y3, _⟩ := X2.four
  have HI := Lib.hid (And.intro h hs)
  have HE := Lib.hid (And.intro e1 e2)
  have HB2 := Lib.hid (And.intro hb2 (And.intro X1 X2))
  have HXY := Lib.hid (And.intro hx hy)
  have HFX := Lib.hid (fun (wq : World) (hb : Below w.heap.size w wq) => RKnown_at (h.ext hb) (TmV.stay (h.see.1.later hb) _ _ hx))
  have HFY := Lib.hid (fun (wq : World) (hb : Below w.heap.size w wq) => RKnown_at (h.ext hb) (TmV.stay (h.see.1.later hb) _ _ hy))
  clear h hs hx hy B1 B2 X1 X2 hb2 z1 z2 e1 e2 f1 f2 f3 fv g1 g2 g3 gv
  cases hfx : fitsB N x
  · have hr : bothB N S x y = ⟨false, 0, 1, S⟩ := by unfold bothB; rw [hfx]; rfl
    rw [hr]
    rw [hfx] at HFX
    clear hr hfx
    go_enter Try.func47, Try.ntmps47
    go_upto_region 1 with fail
    (try rw [HE.out.1, HE.out.2])
    have C := HFX.out w2 HB2.out.1
    (go_wp2_with fail; go_fit (C); rintro e w3 ⟨rfl, b3⟩)
    have HB3 := Lib.hid (HB2.out.1.trans (b3.mono HB2.out.1.size))
    clear C b3
    go_wp2
    go_ret3
    exact ⟨F, R, rfl, HI.out.1.ext HB3.out, HI.out.2, Touch.of_below HB3.out F, fun k hk => Or.inl hk⟩
  · rw [hfx] at HFX
    cases hfy : fitsB N y
    · have hr : bothB N S x y = ⟨false, 0, 1, S⟩ := by unfold bothB; rw [hfx, hfy]; rfl
      rw [hr]
      rw [hfy] at HFY
      clear hr hfx hfy
      go_enter Try.func47, Try.ntmps47
      go_upto_region 1 with fail
      (try rw [HE.out.1, HE.out.2])
      have C := HFX.out w2 HB2.out.1
      (go_wp2_with fail; go_fit (C); rintro e w3 ⟨rfl, b3⟩)
      have HB3 := Lib.hid (HB2.out.1.trans (b3.mono HB2.out.1.size))
      obtain ⟨y0, y1, y2, y3, _⟩ := (HB2.out.2.2.ext b3).four
      have C := HFY.out w3 HB3.out
      clear b3
      (go_wp2_with fail; go_fit (C); rintro e w4 ⟨rfl, b4⟩)
      have HB4 := Lib.hid (HB3.out.trans (b4.mono HB3.out.size))
      clear C b4
      go_wp2
      go_ret3
      exact ⟨F, R, rfl, HI.out.1.ext HB4.out, HI.out.2, Touch.of_below HB4.out F, fun k hk => Or.inl hk⟩
    · rw [hfy] at HFY
      have hT := HI.out.1.tri
      have hok := OkS.of_tri hT.1 hT.2 HI.out.2
      have hpost := uni_post 2000 S x y 0 hok (fits_in hfx) (fits_in hfy) (by omega) (by omega)
      obtain ⟨r, hr⟩ : ∃ r, uniT 2000 S x y 0 = r := ⟨_, rfl⟩
      rw [hr] at hpost
      have hbo : bothB N S x y = endB S r := by unfold bothB; rw [hfx, hfy, hr]; rfl
      rw [hbo]
      have HPO := Lib.hid (And.intro hpost (And.intro hr (And.intro hfx hfy)))
      have hRl : R.length = S.length := HI.out.2.len
      have HRL := Lib.hid hRl
      clear hpost hr hbo hfx hfy hok hT hRl
      go_enter Try.func47, Try.ntmps47
      go_upto_region 1 with fail
      (try rw [HE.out.1, HE.out.2])
      have C := HFX.out w2 HB2.out.1
      (go_wp2_with fail; go_fit (C); rintro e w3 ⟨rfl, b3⟩)
      have HB3 := Lib.hid (HB2.out.1.trans (b3.mono HB2.out.1.size))
      have HX3 := Lib.hid (And.intro (HB2.out.2.1.ext b3) (HB2.out.2.2.ext b3))
      clear x0 x1 x2 x3 y0 y1 y2 y3
      obtain ⟨y0, y1, y2, y3, _⟩ := HX3.out.2.four
      have C := HFY.out w3 HB3.out
      clear b3
      (go_wp2_with fail; go_fit (C); rintro e w4 ⟨rfl, b4⟩)
      have HB4 := Lib.hid (HB3.out.trans (b4.mono HB3.out.size))
      have HX4 := Lib.hid (And.intro (HX3.out.1.ext b4) (HX3.out.2.ext b4))
      clear C b4 y0 y1 y2 y3
      obtain ⟨L, hL⟩ : ∃ L, R.length = L := ⟨_, rfl⟩
      have d2 : w4.cell? ⟨bt, 2, none⟩ = some (.slice a3 L c3) := by rw [← hL]; exact cell_later HB4.out HD2.out.2
      have HLL := Lib.hid hL
      clear hL
      obtain ⟨w6, e6, b6, z6, x6⟩ := box_new w4 #[.int .i64 0] 3
      have HB6 := Lib.hid (HB4.out.trans (b6.mono HB4.out.size))
      have HX6 := Lib.hid (And.intro (HX4.out.1.ext b6) (And.intro (HX4.out.2.ext b6) x6))
      have HE6 := Lib.hid e6
      obtain ⟨x0, x1, x2, x3, _⟩ := HX6.out.1.four
      obtain ⟨y0, y1, y2, y3, _⟩ := HX6.out.2.1.four
      have hcF : ¬ w4.heap.size ∈ F := fun hm => by have := HI.out.1.lt _ hm; have := HB4.out.size; omega
      have C := rpair_all V 2000 w6 F _ N R S w4.heap.size 0 x y _ _ (HI.out.1.ext HB6.out) HI.out.2 HX6.out.2.2 hcF (Blind.new HI.out.1.see.1 (fun k hk => by simp at hk; have := HB4.out.size; omega)) HXY.out.1 HXY.out.2 HPO.out.2.2.1 HPO.out.2.2.2 (by omega) (by omega)
      rw [HPO.out.2.1] at C
      have HCF := Lib.hid hcF
      clear b6 z6 x6 e6 hcF
      go_upto_region 5 with fail
      (try rw [HE6.out])
      (go_wp2_with fail; go_fit (C); rintro e w7 ⟨F7, R7, rfl, i7, s7, b7, t7, in7⟩)
      have hb64 : w.heap.size ≤ w4.heap.size := HB4.out.size
      have H7 := Lib.hid (show IsR V F7 w7 (.pointer (some ⟨bt, 0, none⟩)) N R7 ∧ Sync R7 r.set ∧ Box w7 w4.heap.size [.int .i64 r.cost] ∧ Touch F w w7 ∧ (∀ k ∈ F7, k ∈ F ∨ w.heap.size ≤ k) ∧ ¬ w4.heap.size ∈ F7 from
        ⟨i7, s7, b7, (Touch.of_below HB6.out F).trans t7 (fun k hk => (List.mem_cons.1 hk).elim (fun e => Or.inr (by omega)) Or.inl), fun k hk => (in7 k hk).imp id (fun q => Nat.le_trans HB6.out.size q), fun hm => (in7 _ hm).elim HCF.out (fun q => by have := HX6.out.2.2.lt; omega)⟩)
      clear i7 s7 b7 t7 in7 C x0 x1 x2 x3 y0 y1 y2 y3 hb64
      obtain ⟨ok, hok⟩ : ∃ ok, r.ok = ok := ⟨_, rfl⟩
      obtain ⟨q, hq⟩ : ∃ q, r.cost = q := ⟨_, rfl⟩
      rw [hok]
      rw [hq] at H7
      have HOK := Lib.hid (And.intro hok hq)
      clear hok hq
      have d1 := H7.out.2.2.1.cells 0 _ rfl
      cases ok
      · obtain ⟨D, hD⟩ := HPO.out.1.more
        have hl : R7.length = S.length + D.length := by rw [H7.out.2.1.len, hD, List.length_append, Nat.add_comm]
        have C := RUndo_yes H7.out.1 S.length D.length hl
        have hsy : Sync (R7.drop D.length) S := by
          have := H7.out.2.1.drop D.length
          rw [hD, List.drop_left] at this
          exact this
        have HSY := Lib.hid hsy
        rw [← HRL.out, HLL.out] at C
        clear hsy hl hD
        by_cases hbig : 2000 < q
        · have hbig2 : (2000 : Int) < q := by omega
          have hE : endB S r = ⟨false, 0, 12, S⟩ := by unfold endB; rw [HOK.out.2, if_pos hbig]
          have HEE := Lib.hid hE
          clear hE
          go_upto_region 7 with fail
          (go_wp2_with fail; go_fit (C); rintro e w8 ⟨F8, rfl, i8, t8, in8⟩)
          have H8 := Lib.hid (And.intro i8 (And.intro (H7.out.2.2.2.1.trans t8 H7.out.2.2.2.2.1) (fun k hk => (in8 k hk).elim (H7.out.2.2.2.2.1 k) (fun q => Or.inr (Nat.le_trans H7.out.2.2.2.1.size q)) : ∀ k ∈ F8, k ∈ F ∨ w.heap.size ≤ k)))
          clear i8 t8 in8 C
          go_wp2
          go_ret3
          rw [HEE.out]
          exact ⟨F8, _, rfl, H8.out.1, HSY.out, H8.out.2.1, H8.out.2.2⟩
        · have hbig2 : ¬ (2000 : Int) < q := by omega
          have hE : endB S r = ⟨false, q, 0, S⟩ := by unfold endB; rw [HOK.out.2, if_neg hbig, HOK.out.1]; rfl
          have HEE := Lib.hid hE
          clear hE
          go_upto_region 10 with fail
          (go_wp2_with fail; go_fit (C); rintro e w8 ⟨F8, rfl, i8, t8, in8⟩)
          have H8 := Lib.hid (And.intro i8 (And.intro (t8.box H7.out.2.2.2.2.2 H7.out.2.2.1) (And.intro (H7.out.2.2.2.1.trans t8 H7.out.2.2.2.2.1) (fun k hk => (in8 k hk).elim (H7.out.2.2.2.2.1 k) (fun q => Or.inr (Nat.le_trans H7.out.2.2.2.1.size q)) : ∀ k ∈ F8, k ∈ F ∨ w.heap.size ≤ k))))
          clear d1
          have d1 := H8.out.2.1.cells 0 _ rfl
          clear i8 t8 in8 C
          go_wp2_with fail
          go_quiet (fail)
          go_wp2
          go_ret3
          rw [HEE.out]
          exact ⟨F8, _, rfl, H8.out.1.ext (belN (Below.refl _ _) nq), HSY.out, H8.out.2.2.1.then (belN (Below.refl _ _) nq), H8.out.2.2.2⟩
      · have hbig : ¬ 2000 < q := by have := (HPO.out.1.made HOK.out.1).2; rw [HOK.out.2] at this; omega
        have hbig2 : ¬ (2000 : Int) < q := by omega
        have hE : endB S r = ⟨true, q, 0, r.set⟩ := by unfold endB; rw [HOK.out.2, if_neg hbig, HOK.out.1]; rfl
        have HEE := Lib.hid hE
        clear hE
        go_wp2_with fail
        go_quiet (fail)
        go_wp2
        go_ret3
        rw [HEE.out]
        exact ⟨F7, _, rfl, H7.out.1.ext (belN (Below.refl _ _) nq), H7.out.2.1, H7.out.2.2.2.1.then (belN (Below.refl _ _) nq), H7.out.2.2.2.2.1⟩
end
end Go.Proofs.Ytbbbgijlbcmpbaa
/- The document's side of chapter 12: Could, walked. -/
namespace Go.Proofs.Ytbbbgijlbcmpbaa
open Go.RowKit
set_option linter.unusedVariables false

/-- How many variables. -/
def numV (x : Tm) : Nat := (if goodT x then varsT x [] else []).length
/-- What Could answers. -/
def couldB (x y : Tm) : Bool := goodT x && goodT y && (bothB (numV x + numV y) [] (renT 0 x) (renT (numV x) y)).ok
theorem numV_le (x : Tm) : numV x ≤ 2000 := by
  unfold numV
  cases hg : goodT x
  · simp
  · have h1 := xvars_len x []
    have h2 := (good_parts hg).1
    simp at h1 ⊢
    omega
theorem both_err {N : Nat} {S : List (Int × Tm)} {x y : Tm} (h : (bothB N S x y).ok = true) : (bothB N S x y).err = 0 := by
  unfold bothB at h ⊢
  split at h
  · rw [if_pos (by assumption)]
    unfold endB at h ⊢
    split at h
    · cases h
    · rw [if_neg (by assumption)]
  · cases h
theorem Box.four_set {w : World} {d : Nat} {v0 v1 v2 v3 : Value} (h : Box w d [v0, v1, v2, v3]) (u0 u1 u2 u3 : Value) : Box (set4 w d u0 u1 u2 u3) d [u0, u1, u2, u3] := (((h.set (k := 0) (u := u0) (by simp)).set (k := 1) (u := u1) (by simp)).set (k := 2) (u := u2) (by simp)).set (k := 3) (u := u3) (by simp)
/-- A box with a term, laid behind w. -/
def BoxT (w : World) (T : Tm) (e : Int) (s8 s10 : Value) (wx : World) : Prop :=
  ∃ d k n s a m c, s8 = .pointer (some ⟨d, 0, none⟩) ∧ Box wx d [.int .i64 k, .int .i64 n, .string s, .slice a m c] ∧ TmV wx T (.agg #[.int .i64 k, .int .i64 n, .string s, .slice a m c]) ∧ s10 = .int .i64 e ∧ Below w.heap.size w wx
theorem BoxT.late {w w6 w7 : World} {T : Tm} {e : Int} {d : Nat} {k n : Int} {s : ByteArray} {a : Option Addr} {m c : Nat} {v0 v1 v2 v3 : Value} (hv : TmV w6 T (.agg #[.int .i64 k, .int .i64 n, .string s, .slice a m c])) (hb : Below w6.heap.size w6 w7) (hd : w6.heap.size ≤ d) (hx : Box w7 d [v0, v1, v2, v3]) (hw : Below w.heap.size w w7) (hwd : w.heap.size ≤ d) :
    BoxT w T e (.pointer (some ⟨d, 0, none⟩)) (.int .i64 e) (set4 w7 d (.int .i64 k) (.int .i64 n) (.string s) (.slice a m c)) :=
  ⟨d, k, n, s, a, m, c, rfl, hx.four_set _ _ _ _, TmV.ext (Below.set4 hb hd _ _ _ _) _ _ hv, rfl, Below.set4 hw hwd _ _ _ _⟩
theorem BoxT.early {w w7 : World} {T : Tm} {e : Int} {d q : Nat} {k n : Int} {s : ByteArray} {a : Option Addr} {m c : Nat} {v0 v1 v2 v3 : Value} (hv : TmV (hide (under q) w7) T (.agg #[.int .i64 k, .int .i64 n, .string s, .slice a m c])) (hd : d < q) (hx : Box w7 d [v0, v1, v2, v3]) (hw : Below w.heap.size w w7) (hwd : w.heap.size ≤ d) :
    BoxT w T e (.pointer (some ⟨d, 0, none⟩)) (.int .i64 e) (set4 w7 d (.int .i64 k) (.int .i64 n) (.string s) (.slice a m c)) := by
  have hh : under q d = true := by simp; omega
  exact ⟨d, k, n, s, a, m, c, rfl, hx.four_set _ _ _ _, (TmV.stay ((((Stays.set (D := under q) ⟨d, 0, none⟩ (.int .i64 k) hh).trans (Stays.set ⟨d, 1, none⟩ (.int .i64 n) hh)).trans (Stays.set ⟨d, 2, none⟩ (.string s) hh)).trans (Stays.set ⟨d, 3, none⟩ (.slice a m c) hh)) _ _ hv).bare, rfl, Below.set4 hw hwd _ _ _ _⟩
/-- The document's Binds, with so many variables, beside a world. -/
def FreshI (V : World) (q : Value) (j : Nat) (wr : World) : Prop := ∃ F, IsR V F wr q j [] ∧ (∀ k ∈ F, V.heap.size ≤ k) ∧ Below V.heap.size V wr
theorem FreshI.below {V : World} {q : Value} {j : Nat} {wr : World} (h : FreshI V q j wr) : Below V.heap.size V wr := by obtain ⟨_, _, _, h⟩ := h; exact h
theorem FreshI.ext {V : World} {q : Value} {j : Nat} {wr w' : World} (h : FreshI V q j wr) (hb : Below wr.heap.size wr w') : FreshI V q j w' := by
  obtain ⟨F, h1, h2, h3⟩ := h
  exact ⟨F, h1.ext hb, h2, h3.trans (hb.mono h3.size)⟩
set_option maxHeartbeats 8000000 in
set_option maxRecDepth 100000 in
theorem RCould_at (x y : Tm) (w : World) (vx vy : Value) (hvx : TmV w x vx) (hvy : TmV w y vy) : Calls Try.prog 50 #[vx, vy] w fun e w' => e = .returned (.bool (couldB x y)) ∧ Below w.heap.size w w' := by
  obtain ⟨k, n, s, a, m, c, rfl⟩ := hvx.full
  obtain ⟨k', n', s', a', m', c', rfl⟩ := hvy.full
  obtain ⟨w1, e1, B1, z1, X1⟩ := box_new w #[.int .i64 k, .int .i64 n, .string s, .slice a m c] 48
  obtain ⟨w2, e2, B2, z2, X2⟩ := box_new w1 #[.int .i64 k', .int .i64 n', .string s', .slice a' m' c'] 48
  have X1 := X1.ext B2
  have B12 := Ext.trans' B1 B2
  rw [z1] at X2 z2
  obtain ⟨x0, x1, x2, x3, _⟩ := X1.four
  have HE := Lib.hid (And.intro e1 e2)
  have HB2 := Lib.hid (And.intro B12 (And.intro X1 X2))
  have HVX := Lib.hid (fun (wq : World) (hb : Below w.heap.size w wq) => TmV.ext hb _ _ hvx)
  have HVY := Lib.hid (fun (wq : World) (hb : Below w.heap.size w wq) => TmV.ext hb _ _ hvy)
  have C := From_at x 0 (by omega) (by omega) w2 _ (HVX.out _ B12)
  obtain ⟨T1, z1', e1', hf1⟩ : ∃ T1 z1' e1', fromB 0 x = (T1, z1', e1') := ⟨_, _, _, rfl⟩
  rw [hf1] at C
  have hLx := numV_le x
  have hLy := numV_le y
  obtain ⟨Lx, hlx⟩ : ∃ L, numV x = L := ⟨_, rfl⟩
  obtain ⟨Ly, hly⟩ : ∃ L, numV y = L := ⟨_, rfl⟩
  rw [hlx] at hLx
  rw [hly] at hLy
  have HN1 := Lib.hid (fun (wq : World) (hb : Below w.heap.size w wq) => rVars_at x wq _ (HVX.out _ hb))
  have HN2 := Lib.hid (fun (wq : World) (hb : Below w.heap.size w wq) => rVars_at y wq _ (HVY.out _ hb))
  have HLX := Lib.hid (show (if goodT x then varsT x [] else []).length = Lx from hlx)
  have HLY := Lib.hid (show (if goodT y then varsT y [] else []).length = Ly from hly)
  obtain ⟨l1, hl1⟩ : ∃ l, (if goodT x then varsT x [] else []) = l := ⟨_, rfl⟩
  obtain ⟨l2, hl2⟩ : ∃ l, (if goodT y then varsT y [] else []) = l := ⟨_, rfl⟩
  rw [hl1] at HN1 HLX
  rw [hl2] at HN2 HLY
  have HFY := Lib.hid (fun (wq : World) (hb : Below w.heap.size w wq) => From_at y (Lx : Int) (by omega) (by omega) wq _ (HVY.out _ hb))
  obtain ⟨T2, z2', e2', hf2⟩ : ∃ T2 z2' e2', fromB (Lx : Int) y = (T2, z2', e2') := ⟨_, _, _, rfl⟩
  rw [hf2] at HFY
  have hrs : ((e1' = 0 ∧ e2' = 0 ∧ couldB x y = (bothB (Lx + Ly) [] T1 T2).ok) ∨ (e1' = 1 ∧ couldB x y = false) ∨ (e1' = 0 ∧ e2' = 1 ∧ couldB x y = false)) := by
    unfold fromB at hf1 hf2
    unfold couldB
    rw [hlx, hly]
    cases hgx : goodT x
    · rw [hgx] at hf1
      simp at hf1
      exact Or.inr (Or.inl ⟨hf1.2.2.symm, rfl⟩)
    · rw [hgx, if_pos rfl] at hf1
      simp only [Prod.mk.injEq] at hf1
      cases hgy : goodT y
      · rw [hgy] at hf2
        simp at hf2
        exact Or.inr (Or.inr ⟨hf1.2.2.symm, hf2.2.2.symm, rfl⟩)
      · rw [hgy, if_pos rfl] at hf2
        simp only [Prod.mk.injEq] at hf2
        exact Or.inl ⟨hf1.2.2.symm, hf2.2.2.symm, by rw [← hf1.1, ← hf2.1]; rfl⟩
  obtain ⟨RES, hres⟩ : ∃ R, couldB x y = R := ⟨_, rfl⟩
  rw [hres] at hrs ⊢
  have HRS := Lib.hid hrs
  clear B1 B2 z1 e1 e2 B12 X1 X2 hvx hvy hf1 hf2 hlx hly hrs hres z2 hl1 hl2
  go_enter Try.func50, Try.ntmps50
  go_upto_region 1 with fail
  (try rw [HE.out.1, HE.out.2])
  (go_wp2_with fail; go_fit (C); rintro e w3 ⟨r, rfl, ht, b3⟩)
  obtain ⟨k3, n3, s3, a3, m3, c3, rfl, f1, f2, f3, f4⟩ := four_of ht
  obtain ⟨w4, e4, b4, z4, x4⟩ := box_new w3 #[.int .i64 k3, .int .i64 n3, .string s3, .slice a3 m3 c3] 48
  have HB4 := Lib.hid (Ext.trans' HB2.out.1 (Ext.trans' b3 b4))
  have HX4 := Lib.hid (And.intro (HB2.out.2.1.ext (Ext.trans' b3 b4)) (And.intro (HB2.out.2.2.ext (Ext.trans' b3 b4)) x4))
  have HT4 := Lib.hid (TmV.ext b4 _ _ ht.bare)
  have HE4 := Lib.hid e4
  clear f1 f2 f3 f4 ht b3 b4 z4 x4 e4 C x0 x1 x2 x3
  have HC := Lib.hid (fun (wq : World) (hb : Below w4.heap.size w4 wq) => (show ((wq.cell? ⟨w.heap.size, 0, none⟩ = some (.int .i64 k) ∧ wq.cell? ⟨w.heap.size, 1, none⟩ = some (.int .i64 n) ∧ wq.cell? ⟨w.heap.size, 2, none⟩ = some (.string s) ∧ wq.cell? ⟨w.heap.size, 3, none⟩ = some (.slice a m c)) ∧ (wq.cell? ⟨w.heap.size + 1, 0, none⟩ = some (.int .i64 k') ∧ wq.cell? ⟨w.heap.size + 1, 1, none⟩ = some (.int .i64 n') ∧ wq.cell? ⟨w.heap.size + 1, 2, none⟩ = some (.string s') ∧ wq.cell? ⟨w.heap.size + 1, 3, none⟩ = some (.slice a' m' c'))) ∧ Below w4.heap.size w4 wq from by
    obtain ⟨p0, p1, p2, p3, _⟩ := (HX4.out.1.ext hb).four
    obtain ⟨q0, q1, q2, q3, _⟩ := (HX4.out.2.1.ext hb).four
    exact ⟨⟨⟨p0, p1, p2, p3⟩, q0, q1, q2, q3⟩, hb⟩))
  go_upto_region 2 with fail
  (try rw [HE4.out])
  go_cut [8, 9, 10] from 8 to 31 (fun s8 _ s10 wx => Hid (BoxT w4 T2 e2' s8 s10 wx))
  case first =>
    refine wp_region_held_drew (S := fun wq => ((wq.cell? ⟨w.heap.size, 0, none⟩ = some (.int .i64 k) ∧ wq.cell? ⟨w.heap.size, 1, none⟩ = some (.int .i64 n) ∧ wq.cell? ⟨w.heap.size, 2, none⟩ = some (.string s) ∧ wq.cell? ⟨w.heap.size, 3, none⟩ = some (.slice a m c)) ∧ (wq.cell? ⟨w.heap.size + 1, 0, none⟩ = some (.int .i64 k') ∧ wq.cell? ⟨w.heap.size + 1, 1, none⟩ = some (.int .i64 n') ∧ wq.cell? ⟨w.heap.size + 1, 2, none⟩ = some (.string s') ∧ wq.cell? ⟨w.heap.size + 1, 3, none⟩ = some (.slice a' m' c'))) ∧ Below w4.heap.size w4 wq) (by kernel_rfl) (HC.out _ (Below.refl _ _).drew) (fun hHeld => ?_)
    first | (refine held_t (i := 0) hHeld ?_; apply Exists.intro; refine ⟨fun wq hq => ?_, ?_⟩; (focus ((try dsimp only at hq); go_simp; (first | done | with_reducible rfl | fail)))) | refine held_s (i := 0) hHeld ?_ | fail
    first | (refine held_t (i := 1) hHeld ?_; apply Exists.intro; refine ⟨fun wq hq => ?_, ?_⟩; (focus ((try dsimp only at hq); go_simp; (first | done | with_reducible rfl | fail)))) | refine held_s (i := 1) hHeld ?_ | fail
    try simp only [Act.put, List.setIfInBounds_toArray, List.set_cons_zero, List.set_cons_succ]
    obtain ⟨wd, hwd⟩ : ∃ wd, w4.drew = wd := ⟨_, rfl⟩
    rw [hwd] at hHeld ⊢
    clear hwd
    refine wpAnyH_ready (rs := [2, 9]) (by kernel_rfl) (by simp) ?_
    refine AllReadyH.cons (by simp only [List.getElem?_toArray, List.getElem?_cons_zero, List.getElem?_cons_succ]; rfl) (fun K hK => ?_) (AllReadyH.cons (by simp only [List.getElem?_toArray, List.getElem?_cons_zero, List.getElem?_cons_succ]; rfl) (fun K hK => ?_) AllReadyH.nil)
    · go_simp
      (go_at_call 63; refine (HN1.out _ (Ext.trans' HB4.out hHeld.2)).mono ?_; rintro e w5_ ⟨r, rfl, hn, h5⟩; obtain ⟨ra, rc, rfl, hrc1, hrc2⟩ := hn.len; rw [HLX.out] at hrc1 ⊢; unfold maxLen at hrc2; have HB5 := Lib.hid h5; clear hn)
      refine hK.out _ _ (HC.out _ (Ext.trans' hHeld.2 HB5.out)) (fun hHeld => ?_)
      clear hK K
      try simp only [Act.put, List.setIfInBounds_toArray, List.set_cons_zero, List.set_cons_succ]
      clear h5
      first | (refine held_t (i := 3) hHeld ?_; apply Exists.intro; refine ⟨fun wq hq => ?_, ?_⟩; (focus ((try dsimp only at hq); go_simp; (first | done | with_reducible rfl | fail)))) | refine held_s (i := 3) hHeld ?_ | fail
      try simp only [Act.put, List.setIfInBounds_toArray, List.set_cons_zero, List.set_cons_succ]
      refine wpAnyH_ready (rs := [4, 9]) (by kernel_rfl) (by simp) ?_
      refine AllReadyH.cons (by simp only [List.getElem?_toArray, List.getElem?_cons_zero, List.getElem?_cons_succ]; rfl) (fun K hK => ?_) (AllReadyH.cons (by simp only [List.getElem?_toArray, List.getElem?_cons_zero, List.getElem?_cons_succ]; rfl) (fun K hK => ?_) AllReadyH.nil)
      · go_simp
        (go_at_call 59; refine (HFY.out _ (Ext.trans' HB4.out hHeld.2)).mono ?_; rintro e w6_ ⟨r, rfl, ht6, h6⟩; obtain ⟨k6, n6, s6, a6, m6, c6, rfl, g1, g2, g3, g4⟩ := four_of ht6; have HT6 := Lib.hid ht6; have HB6 := Lib.hid h6; clear ht6 g1 g2 g3 g4)
        refine hK.out _ _ (HC.out _ (Ext.trans' hHeld.2 HB6.out)) (fun hHeld => ?_)
        clear hK K
        try simp only [Act.put, List.setIfInBounds_toArray, List.set_cons_zero, List.set_cons_succ]
        clear h6
        first | (refine held_t (i := 5) hHeld ?_; apply Exists.intro; refine ⟨fun wq hq => ?_, ?_⟩; (focus ((try dsimp only at hq); go_simp; (first | done | with_reducible rfl | fail)))) | refine held_s (i := 5) hHeld ?_ | fail
        first | (refine held_t (i := 6) hHeld ?_; apply Exists.intro; refine ⟨fun wq hq => ?_, ?_⟩; (focus ((try dsimp only at hq); go_simp; (first | done | with_reducible rfl | fail)))) | refine held_s (i := 6) hHeld ?_ | fail
        first | (refine held_t (i := 7) hHeld ?_; apply Exists.intro; refine ⟨fun wq hq => ?_, ?_⟩; (focus ((try dsimp only at hq); go_simp; (first | done | with_reducible rfl | fail)))) | refine held_s (i := 7) hHeld ?_ | fail
        first | (refine held_t (i := 8) hHeld ?_; apply Exists.intro; refine ⟨fun wq hq => ?_, ?_⟩; (focus ((try dsimp only at hq); go_simp; (first | done | with_reducible rfl | fail)))) | refine held_s (i := 8) hHeld ?_ | fail
        try simp only [Act.put, List.setIfInBounds_toArray, List.set_cons_zero, List.set_cons_succ]
        have HELDw6_ := Lib.hid hHeld.2
        refine held_c 9 fun K hK => ?_
        go_simp
        skip
        refine hK.out _ _ (HC.out _ (Ext.trans' hHeld.2 (bel1' _ _))) (fun hHeld => ?_)
        clear hK K
        try simp only [Act.put, List.setIfInBounds_toArray, List.set_cons_zero, List.set_cons_succ]
        obtain ⟨w7, e7, b7, z7, hx7⟩ := box_new w6_ #[.int .i64 0, .int .i64 0, .string ⟨#[]⟩, .slice none 0 0] 48
        have hd7 : w4.heap.size ≤ w6_.heap.size := by have := HELDw6_.out.size; exact this
        rw [e7] at hHeld ⊢
        clear e7 z7
        have hl7 := hx7.lt
        have TD := Lib.hid (BoxT.late (w := w4) (e := e2') HT6.out.bare b7 (Nat.le_refl _) hx7 hHeld.2 hd7)
        obtain ⟨r0, r1, r2, r3, rf⟩ := hx7.four
        refine held_c 10 fun K hK => ?_
        go_simp
        skip
        refine hK.out _ _ (HC.out _ (Below.set4 hHeld.2 hd7 _ _ _ _)) (fun hHeld => ?_)
        clear hK K
        try simp only [Act.put, List.setIfInBounds_toArray, List.set_cons_zero, List.set_cons_succ]
        first | (refine held_t (i := 11) hHeld ?_; apply Exists.intro; refine ⟨fun wq hq => ?_, ?_⟩; (focus ((try dsimp only at hq); go_simp; (first | done | with_reducible rfl | fail)))) | refine held_s (i := 11) hHeld ?_ | fail
        first | (refine held_t (i := 12) hHeld ?_; apply Exists.intro; refine ⟨fun wq hq => ?_, ?_⟩; (focus ((try dsimp only at hq); go_simp; (first | done | with_reducible rfl | fail)))) | refine held_s (i := 12) hHeld ?_ | fail
        try simp only [Act.put, List.setIfInBounds_toArray, List.set_cons_zero, List.set_cons_succ]
        refine wpAnyH_done (by kernel_rfl) ?_ _
        clear hHeld r0 r1 r2 r3 rf
        go_wp2
        all_goals go_meet
        exact TD.out
      · have HELDw5_ := Lib.hid hHeld.2
        go_simp
        skip
        refine hK.out _ _ (HC.out _ (Ext.trans' hHeld.2 (bel1' _ _))) (fun hHeld => ?_)
        clear hK K
        try simp only [Act.put, List.setIfInBounds_toArray, List.set_cons_zero, List.set_cons_succ]
        obtain ⟨w7, e7, b7, z7, hx7⟩ := box_new w5_ #[.int .i64 0, .int .i64 0, .string ⟨#[]⟩, .slice none 0 0] 48
        have hd7 : w4.heap.size ≤ w5_.heap.size := by have := HELDw5_.out.size; exact this
        rw [e7] at hHeld ⊢
        clear e7 z7
        have hl7 := hx7.lt
        refine held_c 4 fun K hK => ?_
        go_simp
        (go_at_call 59; refine (HFY.out _ (Ext.trans' HB4.out hHeld.2)).mono ?_; rintro e w6_ ⟨r, rfl, ht6, h6⟩; obtain ⟨k6, n6, s6, a6, m6, c6, rfl, g1, g2, g3, g4⟩ := four_of ht6; have HT6 := Lib.hid ht6; have HB6 := Lib.hid h6; clear ht6 g1 g2 g3 g4)
        refine hK.out _ _ (HC.out _ (Ext.trans' hHeld.2 HB6.out)) (fun hHeld => ?_)
        clear hK K
        try simp only [Act.put, List.setIfInBounds_toArray, List.set_cons_zero, List.set_cons_succ]
        clear h6
        first | (refine held_t (i := 5) hHeld ?_; apply Exists.intro; refine ⟨fun wq hq => ?_, ?_⟩; (focus ((try dsimp only at hq); go_simp; (first | done | with_reducible rfl | fail)))) | refine held_s (i := 5) hHeld ?_ | fail
        first | (refine held_t (i := 6) hHeld ?_; apply Exists.intro; refine ⟨fun wq hq => ?_, ?_⟩; (focus ((try dsimp only at hq); go_simp; (first | done | with_reducible rfl | fail)))) | refine held_s (i := 6) hHeld ?_ | fail
        first | (refine held_t (i := 7) hHeld ?_; apply Exists.intro; refine ⟨fun wq hq => ?_, ?_⟩; (focus ((try dsimp only at hq); go_simp; (first | done | with_reducible rfl | fail)))) | refine held_s (i := 7) hHeld ?_ | fail
        first | (refine held_t (i := 8) hHeld ?_; apply Exists.intro; refine ⟨fun wq hq => ?_, ?_⟩; (focus ((try dsimp only at hq); go_simp; (first | done | with_reducible rfl | fail)))) | refine held_s (i := 8) hHeld ?_ | fail
        try simp only [Act.put, List.setIfInBounds_toArray, List.set_cons_zero, List.set_cons_succ]
        replace hx7 := hx7.ext HB6.out
        have TD := Lib.hid (BoxT.early (w := w4) (e := e2') HT6.out hl7 hx7 hHeld.2 hd7)
        obtain ⟨r0, r1, r2, r3, rf⟩ := hx7.four
        refine held_c 10 fun K hK => ?_
        go_simp
        skip
        refine hK.out _ _ (HC.out _ (Below.set4 hHeld.2 hd7 _ _ _ _)) (fun hHeld => ?_)
        clear hK K
        try simp only [Act.put, List.setIfInBounds_toArray, List.set_cons_zero, List.set_cons_succ]
        first | (refine held_t (i := 11) hHeld ?_; apply Exists.intro; refine ⟨fun wq hq => ?_, ?_⟩; (focus ((try dsimp only at hq); go_simp; (first | done | with_reducible rfl | fail)))) | refine held_s (i := 11) hHeld ?_ | fail
        first | (refine held_t (i := 12) hHeld ?_; apply Exists.intro; refine ⟨fun wq hq => ?_, ?_⟩; (focus ((try dsimp only at hq); go_simp; (first | done | with_reducible rfl | fail)))) | refine held_s (i := 12) hHeld ?_ | fail
        try simp only [Act.put, List.setIfInBounds_toArray, List.set_cons_zero, List.set_cons_succ]
        refine wpAnyH_done (by kernel_rfl) ?_ _
        clear hHeld r0 r1 r2 r3 rf
        go_wp2
        all_goals go_meet
        exact TD.out
    · have HELDwd := Lib.hid hHeld.2
      go_simp
      skip
      refine hK.out _ _ (HC.out _ (Ext.trans' hHeld.2 (bel1' _ _))) (fun hHeld => ?_)
      clear hK K
      try simp only [Act.put, List.setIfInBounds_toArray, List.set_cons_zero, List.set_cons_succ]
      obtain ⟨w7, e7, b7, z7, hx7⟩ := box_new wd #[.int .i64 0, .int .i64 0, .string ⟨#[]⟩, .slice none 0 0] 48
      have hd7 : w4.heap.size ≤ wd.heap.size := by have := HELDwd.out.size; exact this
      rw [e7] at hHeld ⊢
      clear e7 z7
      have hl7 := hx7.lt
      refine held_c 2 fun K hK => ?_
      go_simp
      (go_at_call 63; refine (HN1.out _ (Ext.trans' HB4.out hHeld.2)).mono ?_; rintro e w5_ ⟨r, rfl, hn, h5⟩; obtain ⟨ra, rc, rfl, hrc1, hrc2⟩ := hn.len; rw [HLX.out] at hrc1 ⊢; unfold maxLen at hrc2; have HB5 := Lib.hid h5; clear hn)
      refine hK.out _ _ (HC.out _ (Ext.trans' hHeld.2 HB5.out)) (fun hHeld => ?_)
      clear hK K
      try simp only [Act.put, List.setIfInBounds_toArray, List.set_cons_zero, List.set_cons_succ]
      clear h5
      first | (refine held_t (i := 3) hHeld ?_; apply Exists.intro; refine ⟨fun wq hq => ?_, ?_⟩; (focus ((try dsimp only at hq); go_simp; (first | done | with_reducible rfl | fail)))) | refine held_s (i := 3) hHeld ?_ | fail
      try simp only [Act.put, List.setIfInBounds_toArray, List.set_cons_zero, List.set_cons_succ]
      refine held_c 4 fun K hK => ?_
      go_simp
      (go_at_call 59; refine (HFY.out _ (Ext.trans' HB4.out hHeld.2)).mono ?_; rintro e w6_ ⟨r, rfl, ht6, h6⟩; obtain ⟨k6, n6, s6, a6, m6, c6, rfl, g1, g2, g3, g4⟩ := four_of ht6; have HT6 := Lib.hid ht6; have HB6 := Lib.hid h6; clear ht6 g1 g2 g3 g4)
      refine hK.out _ _ (HC.out _ (Ext.trans' hHeld.2 HB6.out)) (fun hHeld => ?_)
      clear hK K
      try simp only [Act.put, List.setIfInBounds_toArray, List.set_cons_zero, List.set_cons_succ]
      clear h6
      first | (refine held_t (i := 5) hHeld ?_; apply Exists.intro; refine ⟨fun wq hq => ?_, ?_⟩; (focus ((try dsimp only at hq); go_simp; (first | done | with_reducible rfl | fail)))) | refine held_s (i := 5) hHeld ?_ | fail
      first | (refine held_t (i := 6) hHeld ?_; apply Exists.intro; refine ⟨fun wq hq => ?_, ?_⟩; (focus ((try dsimp only at hq); go_simp; (first | done | with_reducible rfl | fail)))) | refine held_s (i := 6) hHeld ?_ | fail
      first | (refine held_t (i := 7) hHeld ?_; apply Exists.intro; refine ⟨fun wq hq => ?_, ?_⟩; (focus ((try dsimp only at hq); go_simp; (first | done | with_reducible rfl | fail)))) | refine held_s (i := 7) hHeld ?_ | fail
      first | (refine held_t (i := 8) hHeld ?_; apply Exists.intro; refine ⟨fun wq hq => ?_, ?_⟩; (focus ((try dsimp only at hq); go_simp; (first | done | with_reducible rfl | fail)))) | refine held_s (i := 8) hHeld ?_ | fail
      try simp only [Act.put, List.setIfInBounds_toArray, List.set_cons_zero, List.set_cons_succ]
      replace hx7 := (hx7.ext HB5.out).ext HB6.out
      have hl5 : wd.heap.size < w5_.heap.size := Nat.lt_of_lt_of_le hl7 HB5.out.size
      have TD := Lib.hid (BoxT.early (w := w4) (e := e2') HT6.out hl5 hx7 hHeld.2 hd7)
      obtain ⟨r0, r1, r2, r3, rf⟩ := hx7.four
      refine held_c 10 fun K hK => ?_
      go_simp
      skip
      refine hK.out _ _ (HC.out _ (Below.set4 hHeld.2 hd7 _ _ _ _)) (fun hHeld => ?_)
      clear hK K
      try simp only [Act.put, List.setIfInBounds_toArray, List.set_cons_zero, List.set_cons_succ]
      first | (refine held_t (i := 11) hHeld ?_; apply Exists.intro; refine ⟨fun wq hq => ?_, ?_⟩; (focus ((try dsimp only at hq); go_simp; (first | done | with_reducible rfl | fail)))) | refine held_s (i := 11) hHeld ?_ | fail
      first | (refine held_t (i := 12) hHeld ?_; apply Exists.intro; refine ⟨fun wq hq => ?_, ?_⟩; (focus ((try dsimp only at hq); go_simp; (first | done | with_reducible rfl | fail)))) | refine held_s (i := 12) hHeld ?_ | fail
      try simp only [Act.put, List.setIfInBounds_toArray, List.set_cons_zero, List.set_cons_succ]
      refine wpAnyH_done (by kernel_rfl) ?_ _
      clear hHeld r0 r1 r2 r3 rf
      go_wp2
      all_goals go_meet
      exact TD.out
  case rest =>
    obtain ⟨d, k9, n9, s9_, a9, m9, c9, rfl, hx9, ht9, rfl, hb9⟩ := hcut.out
    have H9 := Lib.hid (And.intro hx9 (And.intro ht9 hb9))
    clear hx9 ht9 hb9 hcut
    rcases HRS.out with ⟨rfl, rfl, hR⟩ | ⟨rfl, rfl⟩ | ⟨rfl, rfl, rfl⟩
    · have HR := Lib.hid hR
      clear hR
      obtain ⟨w10, e10⟩ : ∃ w10, wc.alloc (.cells #[.slice none 0 0, .slice none 0 0, .slice none 0 0] 53) = w10 := ⟨_, rfl⟩
      have hr10 := IsR.new (V := wc) (Stays.refl _) e10
      have hb10 : Below wc.heap.size wc w10 := by rw [← e10]; exact bel1' _ _
      obtain ⟨q, hq⟩ : ∃ q : Value, .pointer (some ⟨wc.heap.size, 0, none⟩) = q := ⟨_, rfl⟩
      rw [hq] at hr10
      obtain ⟨N, hN⟩ : ∃ N, Lx + Ly = N := ⟨_, rfl⟩
      rw [hN] at HR
      have hsum : (Lx : Int) + (Ly : Int) = (N : Int) := by omega
      have hwN : IntKind.i64.wrap (N : Int) = (N : Int) := by rw [IntKind.wrap_i64]; omega
      have hN4 : N ≤ 4000 := by omega
      have H10 := Lib.hid (show FreshI wc q 0 w10 from ⟨[wc.heap.size], hr10, fun k hk => by simp at hk; omega, hb10⟩)
      have HE10 := Lib.hid e10
      have HQ := Lib.hid hq
      have HBW := Lib.hid (Ext.trans' HB4.out H9.out.2.2)
      have HCC := Lib.hid (fun (wq : World) (hb : Below wc.heap.size wc wq) => HC.out wq (H9.out.2.2.trans (hb.mono H9.out.2.2.size)))
      clear hr10 hb10 e10 hq hN
      go_upto_region 6 with fail
      (try rw [HE10.out])
      (try rw [HQ.out])
      refine wp_region_held_drew (S := fun wq => FreshI wc q 0 wq ∧ ((wq.cell? ⟨w.heap.size, 0, none⟩ = some (.int .i64 k) ∧ wq.cell? ⟨w.heap.size, 1, none⟩ = some (.int .i64 n) ∧ wq.cell? ⟨w.heap.size, 2, none⟩ = some (.string s) ∧ wq.cell? ⟨w.heap.size, 3, none⟩ = some (.slice a m c)) ∧ (wq.cell? ⟨w.heap.size + 1, 0, none⟩ = some (.int .i64 k') ∧ wq.cell? ⟨w.heap.size + 1, 1, none⟩ = some (.int .i64 n') ∧ wq.cell? ⟨w.heap.size + 1, 2, none⟩ = some (.string s') ∧ wq.cell? ⟨w.heap.size + 1, 3, none⟩ = some (.slice a' m' c')))) (by kernel_rfl) ⟨H10.out.ext (Below.refl _ _).drew, (HCC.out _ (H10.out.below.drew)).1⟩ (fun hHeld => ?_)
      first | (refine held_t (i := 0) hHeld ?_; apply Exists.intro; refine ⟨fun wq hq => ?_, ?_⟩; (focus ((try dsimp only at hq); go_simp; (first | done | with_reducible rfl | fail)))) | refine held_s (i := 0) hHeld ?_ | fail
      first | (refine held_t (i := 3) hHeld ?_; apply Exists.intro; refine ⟨fun wq hq => ?_, ?_⟩; (focus ((try dsimp only at hq); go_simp; (first | done | with_reducible rfl | fail)))) | refine held_s (i := 3) hHeld ?_ | fail
      try simp only [Act.put, List.setIfInBounds_toArray, List.set_cons_zero, List.set_cons_succ]
      refine held_c 1 fun K hK => ?_
      go_simp
      (go_at_call 63; refine (HN1.out _ (Ext.trans' HBW.out hHeld.1.below)).mono ?_; rintro e w5_ ⟨r, rfl, hn, h5⟩; obtain ⟨ra, rc, rfl, hrc1, hrc2⟩ := hn.len; rw [HLX.out] at hrc1 ⊢; unfold maxLen at hrc2; have HB5 := Lib.hid h5; clear hn)
      refine hK.out _ _ (⟨hHeld.1.ext HB5.out, (HCC.out _ (hHeld.1.ext HB5.out).below).1⟩) (fun hHeld => ?_)
      clear hK K
      try simp only [Act.put, List.setIfInBounds_toArray, List.set_cons_zero, List.set_cons_succ]
      clear h5
      first | (refine held_t (i := 2) hHeld ?_; apply Exists.intro; refine ⟨fun wq hq => ?_, ?_⟩; (focus ((try dsimp only at hq); go_simp; (first | done | with_reducible rfl | fail)))) | refine held_s (i := 2) hHeld ?_ | fail
      try simp only [Act.put, List.setIfInBounds_toArray, List.set_cons_zero, List.set_cons_succ]
      refine held_c 4 fun K hK => ?_
      go_simp
      (go_at_call 63; refine (HN2.out _ (Ext.trans' HBW.out hHeld.1.below)).mono ?_; rintro e w6_ ⟨r, rfl, hn, h6⟩; obtain ⟨rb, rd, rfl, hrd1, hrd2⟩ := hn.len; rw [HLY.out] at hrd1 ⊢; unfold maxLen at hrd2; have HB6 := Lib.hid h6; clear hn)
      refine hK.out _ _ (⟨hHeld.1.ext HB6.out, (HCC.out _ (hHeld.1.ext HB6.out).below).1⟩) (fun hHeld => ?_)
      clear hK K
      try simp only [Act.put, List.setIfInBounds_toArray, List.set_cons_zero, List.set_cons_succ]
      clear h6
      first | (refine held_t (i := 5) hHeld ?_; apply Exists.intro; refine ⟨fun wq hq => ?_, ?_⟩; (focus ((try dsimp only at hq); go_simp; (first | done | with_reducible rfl | fail)))) | refine held_s (i := 5) hHeld ?_ | fail
      first | (refine held_t (i := 6) hHeld ?_; apply Exists.intro; refine ⟨fun wq hq => ?_, ?_⟩; (focus ((try dsimp only at hq); go_simp; (first | done | with_reducible rfl | fail)))) | refine held_s (i := 6) hHeld ?_ | fail
      first | (refine held_t (i := 7) hHeld ?_; apply Exists.intro; refine ⟨fun wq hq => ?_, ?_⟩; (focus ((try dsimp only at hq); go_simp; (first | done | with_reducible rfl | fail)))) | refine held_s (i := 7) hHeld ?_ | fail
      try simp only [Act.put, List.setIfInBounds_toArray, List.set_cons_zero, List.set_cons_succ]
      refine wpAnyH_done (by kernel_rfl) ?_ _
      have H12 := Lib.hid hHeld.1
      clear hHeld
      go_wp2_with fail
      go_loopw [13] (fun z wr => ∃ j : Nat, j ≤ N ∧ z = .int .i64 j ∧ Hid (FreshI wc q j wr)) (fun z _ => N - (intOf z).toNat)
      case atStart => exact ⟨0, Nat.zero_le _, rfl, H12⟩
      case round =>
        obtain ⟨j, hj, rfl, HP⟩ := hrel
        by_cases hjN : j < N
        · have hjN2 : (j : Int) < N := by omega
          obtain ⟨F, h1, h2, h3⟩ := HP.out
          have C := RFresh_at h1 (by omega)
          have HP2 := Lib.hid (And.intro h2 h3)
          clear h1 h2 h3 HP
          (go_wp2_with fail; go_fit (C); rintro e w5 ⟨F', rfl, h1, t1, hin⟩)
          have HN := Lib.hid (show FreshI wc q (j + 1) w5 from ⟨F', h1, fun k hk => (hin k hk).elim (HP2.out.1 k) (fun h => by have := HP2.out.2.size; omega), HP2.out.2.trans (t1.below HP2.out.2.size HP2.out.1)⟩)
          clear h1 t1 hin C
          go_wp2
          go_roundw
          case rel => exact ⟨j + 1, by omega, by go_num, HN⟩
          case measure => simp [intOf]; omega
        · have hjN2 : j = N := by omega
          subst hjN2
          obtain ⟨F, h1, h2, h3⟩ := HP.out
          obtain ⟨p0, p1, p2, p3, _⟩ := ((HCC.out _ h3).2 |> fun hb => HX4.out.2.2.ext hb).four
          obtain ⟨d0, d1, d2, d3, _⟩ := (H9.out.1.ext h3).four
          have C := RBoth_at (S := []) h1 trivial (TmV.ext H9.out.2.2 _ _ HT4.out) H9.out.2.1
          obtain ⟨b, hb⟩ : ∃ b, bothB j [] T1 T2 = b := ⟨_, rfl⟩
          have hbe : b.ok = true → b.err = 0 := by rw [← hb]; exact both_err
          have hRb : RES = b.ok := by rw [HR.out, hb]
          rw [hb] at C
          obtain ⟨ok, hok⟩ : ∃ ok, b.ok = ok := ⟨_, rfl⟩
          obtain ⟨er, her⟩ : ∃ er, b.err = er := ⟨_, rfl⟩
          obtain ⟨cs, hcs⟩ : ∃ cs, b.cost = cs := ⟨_, rfl⟩
          unfold RBothP at C
          rw [hok, her, hcs] at C
          rw [hok, her] at hbe
          rw [hok] at hRb
          have HP2 := Lib.hid (And.intro h2 h3)
          clear h1 h2 h3 HP hb hok her hcs
          (go_wp2_with fail; go_fit (C); rintro e w5 ⟨F', R', rfl, h1, _, t1, hin⟩)
          have HEND := Lib.hid (show Below w.heap.size w w5 from Ext.trans' HBW.out (HP2.out.2.trans (t1.below HP2.out.2.size HP2.out.1)))
          clear h1 t1 hin C p0 p1 p2 p3 d0 d1 d2 d3
          subst hRb
          cases RES
          · clear hbe
            go_wp2
            go_ret
            exact ⟨rfl, HEND.out⟩
          · obtain rfl := hbe rfl
            clear hbe
            go_wp2
            go_ret
            exact ⟨rfl, HEND.out⟩
    · go_wp2
      go_ret
      exact ⟨rfl, Ext.trans' HB4.out H9.out.2.2⟩
    · go_wp2
      go_ret
      exact ⟨rfl, Ext.trans' HB4.out H9.out.2.2⟩
end Go.Proofs.Ytbbbgijlbcmpbaa
/- Package unify: what Could carries from call to call. -/
namespace Go.Proofs.Ytbbbgijlbcmpbaa
open Go.RowKit Go.Maps
set_option linter.unusedVariables false

/-- Binds with so many variables beside two boxes and empty maps of names. -/
def CB (w : World) (p : Value) (N : Nat) (xs ys : List Value) (ms : List (Nat × Nat)) (F : List Nat) (wq : World) : Prop :=
  IsB w F wq p N [] ∧ (∀ k ∈ F, w.heap.size + 2 ≤ k) ∧ Below w.heap.size w wq ∧ Box wq w.heap.size xs ∧ Box wq (w.heap.size + 1) ys ∧ ∀ q ∈ ms, NamedM wq q.1 q.2 [] ∧ w.heap.size + 2 ≤ q.1 ∧ ¬ q.1 ∈ F
section
variable {w wq w' : World} {p : Value} {N : Nat} {xs ys : List Value} {ms : List (Nat × Nat)} {F : List Nat}
theorem CB.bel (h : CB w p N xs ys ms F wq) : Below w.heap.size w wq := h.2.2.1
theorem CB.ext (h : CB w p N xs ys ms F wq) (hb : Below wq.heap.size wq w') : CB w p N xs ys ms F w' := by
  obtain ⟨h1, h2, h3, h4, h5, h6⟩ := h
  exact ⟨h1.ext hb, h2, Ext.trans' h3 hb, h4.ext hb, h5.ext hb, fun q hq => ⟨(h6 q hq).1.ext hb, (h6 q hq).2⟩⟩
theorem CB.map (h : CB w p N xs ys ms F wq) (N0 : Nat) (hz : w.heap.size + 2 ≤ wq.heap.size) : CB w p N xs ys ((wq.heap.size, N0) :: ms) F (wq.alloc (.map #[] 0)) := by
  obtain ⟨h1, h2, h3, h4, h5, h6⟩ := h.ext (bel1' wq (.map #[] 0))
  have hlt := h.1.lt
  refine ⟨h1, h2, h3, h4, h5, fun q hq => ?_⟩
  rcases List.mem_cons.1 hq with rfl | hq
  · exact ⟨NamedM.nil wq N0, hz, fun hm => by have := hlt _ hm; simp at this⟩
  · exact h6 q hq
theorem CB.apart {N0 mb : Nat} (h : CB w p N0 xs ys ((mb, N0) :: ms) F wq) (hne : ∀ q ∈ ms, q.1 ≠ mb) {x : Tm} {v : Value} (hx : TmV w x v) (hf : formedT x = true) {K : Nat} (hK : N0 + (varsT x []).length = K) (hK2 : K ≤ 65536) :
    Calls Try.prog 83 #[p, v, .map (some mb)] wq fun e w' => ∃ F' v', e = .returned v' ∧ CB w p K xs ys ms F' w' ∧ TmV (hide (newU F' wq.heap.size) w') (renT N0 x) v' ∧ Touch (mb :: F) wq w' ∧ ∀ k ∈ F', k ∈ F ∨ wq.heap.size ≤ k := by
  obtain ⟨h1, h2, h3, h4, h5, h6⟩ := h
  obtain ⟨hm, hmw, hmF⟩ := h6 (mb, N0) (by simp)
  refine (apart_at w _ x (Nat.le_refl _) hf (varsT x []) [] (List.prefix_refl _) N0 (by omega) wq F p mb v (by simpa using h1) hm hmF (Blind.new (Stays.refl w) (fun k hk => by simp at hk; simp at hmw; omega)) hx).mono ?_
  rintro e w' ⟨F', v', rfl, i, n, t, tt, hin⟩
  rw [hK] at i
  have hq : w.heap.size ≤ wq.heap.size := h3.size
  have hlt5 := h5.lt
  have hF0 : ∀ k ∈ (mb :: F), w.heap.size + 2 ≤ k := fun k hk => by
    rcases List.mem_cons.1 hk with e | hk
    · subst e; exact hmw
    · exact h2 k hk
  refine ⟨F', v', rfl, ⟨i, fun k hk => (hin k hk).elim (h2 k) (fun h => by omega), Below.trans h3 (tt.below hq (fun k hk => by have := hF0 k hk; omega)), tt.box (fun hm => by have := hF0 _ hm; omega) h4, tt.box (fun hm => by have := hF0 _ hm; omega) h5, fun q hq => ?_⟩, t, tt, hin⟩
  obtain ⟨k1, k2, k3⟩ := h6 q (List.mem_cons_of_mem _ hq)
  exact ⟨k1.touch tt (fun hm => by
    rcases List.mem_cons.1 hm with e | hm
    · exact hne q hq e
    · exact k3 hm), k2, fun hm => (hin _ hm).elim k3 (fun h => by have := k1.lt; omega)⟩
/-- A term made apart, later: its blocks are not turned. -/
theorem apart_later {n : Nat} {F F8 : List Nat} {mb : Nat} {w6 w7 w8 : World} {T : Tm} {v : Value} (ht : TmV (hide (newU F n) w6) T v) (hb : Below w6.heap.size w6 w7) (hmb : mb < n ∨ w6.heap.size ≤ mb) (t : Touch (mb :: F) w7 w8) (hin : ∀ k ∈ F8, k ∈ F ∨ w7.heap.size ≤ k) : TmV (hide (awayB F8) w8) T v := by
  refine TmV.stay (Stays.hide (Nat.le_trans hb.size t.size) fun k hk hd => ?_) _ _ ht
  obtain ⟨h1, h2⟩ := newU_false.1 hd
  have hs := hb.size
  refine ⟨by simp only [awayB, decide_eq_false_iff_not]; exact fun hm => (hin k hm).elim h2 (fun h => by omega), (t.block k (by omega) (fun hm => ?_)).trans (hb.block k hk)⟩
  rcases List.mem_cons.1 hm with e | hm
  · omega
  · exact h2 hm
theorem CB.both (h : CB w p N xs ys ms F wq) {x y : Tm} {vx vy : Value} (hx : TmV (hide (awayB F) wq) x vx) (hy : TmV (hide (awayB F) wq) y vy) :
    Calls Try.prog 42 #[p, vx, vy] wq fun e w' => e = .returned (.tuple #[.bool (bothB N [] x y).ok, .int .i64 (bothB N [] x y).cost, .int .i64 (bothB N [] x y).err]) ∧ Below w.heap.size w w' ∧ Box w' w.heap.size xs ∧ Box w' (w.heap.size + 1) ys := by
  refine (Both_at (S := []) h.1.rebase trivial hx hy).mono ?_
  rintro e w' ⟨F', R', rfl, _, _, t, _⟩
  exact ⟨rfl, Below.trans h.bel (t.below h.bel.size (fun k hk => by have := h.2.1 k hk; omega)), t.box (fun hm => by have := h.2.1 _ hm; omega) h.2.2.2.1, t.box (fun hm => by have := h.2.1 _ hm; omega) h.2.2.2.2.1⟩
theorem CB.swap {q1 q2 : Nat × Nat} (h : CB w p N xs ys [q1, q2] F wq) : CB w p N xs ys [q2, q1] F wq :=
  ⟨h.1, h.2.1, h.2.2.1, h.2.2.2.1, h.2.2.2.2.1, fun q hq => h.2.2.2.2.2 q (by simp at hq ⊢; rcases hq with e | e <;> simp [e])⟩
end
end Go.Proofs.Ytbbbgijlbcmpbaa
