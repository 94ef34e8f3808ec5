import Derived.Test.YtchbbaehdcmcfaaHsozz
import Derived.Test.YtchbbaehdcmcfaaHsoan
import Derived.Test.YtchbbaehdcmcfaaHsoaj
set_option linter.unusedVariables false
set_option linter.unusedSimpArgs false
/- Package unify: pair: what is carried along. -/
namespace Go.Proofs.Ytchbbaehdcmcfaa
open Go.RowKit
set_option linter.unusedVariables false
theorem shape_of {w : World} {x : Tm} {v : Value} (h : TmV w x v) : ∃ k n s ts a L c, x = .mk k n s ts ∧ ts.length = L ∧ v = .agg #[.int .i64 k, .int .i64 n, .string s, .slice a L c] ∧ Tms w (.slice a L c) ts ∧ L ≤ c ∧ c ≤ maxLen := by
 obtain ⟨k, n, s, ts⟩ := x
 obtain ⟨u, rfl, _, _, _, hu⟩ := tmV_iff.1 h
 obtain ⟨a, c, rfl, h1, h2, _⟩ := hu.len
 exact ⟨k, n, s, ts, a, _, c, rfl, rfl, rfl, hu, h1, h2⟩
theorem uni_whole {N K : Nat} {S S' : List (Int × Tm)} (h : Resp N (fullB S') (fullB S)) {x y : Tm} (hx : VarN N (occT x)) (hy : VarN N (occT y)) (c : Nat) : uniT K S' (subT (fullB S) x) (subT (fullB S) y) c = uniT K S' x y c := by
 cases K with
 | zero => rfl
 | succ K => rw [uniT, uniT, h.at hx, h.at hy]
theorem fits_in {N : Nat} {x : Tm} (h : fitsB N x = true) : InN N x := ⟨(good_parts (fitsB_true.1 h).1).2.2, (fitsB_true.1 h).2⟩
theorem sfour_far {w : World} {b g j : Nat} {u0 u1 u2 u3 : Value} (h : b ≠ g) : (set4 w g u0 u1 u2 u3).cell? ⟨b, j, none⟩ = w.cell? ⟨b, j, none⟩ :=
 (far_cell h).trans ((far_cell h).trans ((far_cell h).trans (far_cell h)))
theorem four_froz {w : World} {g : Nat} {u0 u1 u2 u3 : Value} (a : Addr) : (set4 w g u0 u1 u2 u3).frozen? a = w.frozen? a := by
 simp only [World.frozen?_setCell]
def PairP (V : World) (K : Nat) : Prop := ∀ (w : World) (F : List Nat) (p : Value) (N : Nat) (R S : List (Int × Tm)) (cb c : Nat) (x y : Tm) (vx vy : Value), IsB V F w p N R → Sync R S → Box w cb [p, .int .i64 c] → ¬ cb ∈ F → Blind V [cb] →
 TmV V x vx → TmV V y vy → fitsB N x = true → fitsB N y = true → c ≤ 2000 → 2000 ≤ K + c → Calls Try.prog 115 #[.pointer (some ⟨cb, 0, none⟩), vx, vy] w (UniP V F w p N cb (uniT K S x y c))
theorem touch_four (w : World) (b : Nat) (u0 u1 u2 u3 : Value) : Touch [b] w (set4 w b u0 u1 u2 u3) :=
 ⟨rfl, rfl, rfl, Nat.le_of_eq (set4_size _ _ _ _ _ _).symm, fun j hj hn => set4_other _ _ _ _ _ _ j (by simpa using hn)⟩
theorem UniP.from {V w w7 w' : World} {F : List Nat} {p : Value} {N cb : Nat} {r : URes} {e : Ending} (t : Touch (cb :: F) w w7) (h : UniP V F w7 p N cb r e w') : UniP V F w p N cb r e w' := by
 obtain ⟨F', R', rfl, h1, h2, h3, h4, h5⟩ := h
 exact ⟨F', R', rfl, h1, h2, h3, t.trans h4 (fun k hk => Or.inl hk), fun k hk => (h5 k hk).imp id (fun q => Nat.le_trans t.size q)⟩
theorem var_parts {n : Int} {s : ByteArray} {ts : List Tm} (h : goodT (.mk 0 n s ts) = true) : s = ⟨#[]⟩ ∧ ts = [] := by
 have := (formed_var (good_parts h).2.2).1
 unfold varV at this
 injection this with _ _ e1 e2
 exact ⟨e1, e2⟩
theorem whole_top {N : Nat} {R S : List (Int × Tm)} (hs : Sync R S) {x : Tm} {k n : Int} {s : ByteArray} {ts : List Tm} (hw : Wk N R x (.mk k n s ts)) (ht : topB R (.mk k n s ts)) : subT (fullB S) x = .mk k n s (subL (fullB S) ts) := by
 rw [← hs.full, ← hw.same, topped hw.good ht]
 rfl
theorem fits_arg {N : Nat} {k n : Int} {s : ByteArray} {ts : List Tm} (hk : ¬ k = 0) (hg : goodT (.mk k n s ts) = true) (hr : ∀ m ∈ occT (.mk k n s ts), 0 ≤ m ∧ m < (N : Int)) {x : Tm} (hx : x ∈ ts) : fitsB N x = true :=
 fitsB_true.2 ⟨good_arg hg hx, fun m hm => hr m (by rw [occ_not hk]; exact mem_occL.2 ⟨x, hx, hm⟩)⟩
def PairI (V w7 : World) (F : List Nat) (p : Value) (N : Nat) (S : List (Int × Tm)) (cb q K' : Nat) (ts1 ts2 : List Tm) (RES : URes) (j : Nat) (wr : World) : Prop :=
 ∃ F' R' S' c', IsB V F' wr p N R' ∧ Sync R' S' ∧ Resp N (fullB S') (fullB S) ∧ Box wr cb [p, .int .i64 (c' : Nat)] ∧ Touch (cb :: F) w7 wr ∧ (∀ k ∈ F', k ∈ F ∨ w7.heap.size ≤ k) ∧ (q ≤ c' ∧ c' ≤ 2000) ∧ uniL (uniT K') S' ((subL (fullB S) ts1).drop j) ((subL (fullB S) ts2).drop j) c' = RES
theorem sub_drop {A : Int → Tm} {ts : List Tm} {j : Nat} {x : Tm} (h : ts[j]? = some x) : (subL A ts).drop j = subT A x :: (subL A ts).drop (j + 1) := by
 obtain ⟨hl, hx⟩ := List.getElem?_eq_some_iff.1 h
 have hl' : j < (subL A ts).length := by rw [subL_len]; exact hl
 rw [List.drop_eq_getElem_cons hl']
 congr 1
 have : (subL A ts)[j]? = some (subT A x) := by rw [subL_map, List.getElem?_map, h]; rfl
 exact (List.getElem?_eq_some_iff.1 this).2
section
variable {V w : World} {F : List Nat} {p : Value} {N : Nat} {R S : List (Int × Tm)} {cb c K : Nat}
set_option maxHeartbeats 8000000 in
set_option maxRecDepth 100000 in
theorem pair_step (ih : ∀ K', K = K' + 1 → PairP V K') : PairP V K := by
 intro w F p N R S cb c x y vx vy h hs hcb hcF hcV hx hy fx fy hc hK
 obtain ⟨hT, hN⟩ := h.tri
 obtain ⟨q, hq⟩ : ∃ q, c + 1 = q := ⟨_, rfl⟩
 have hsum : (c : Int) + 1 = (q : Int) := by omega
 have hwq : IntKind.i64.wrap (q : Int) = (q : Int) := by rw [IntKind.wrap_i64]; omega
 obtain ⟨kx, nx, sx, ax, mx, cx, rfl, f1, f2, f3, fv⟩ := four_of hx
 obtain ⟨ky, ny, sy, ay, my, cy, rfl, g1, g2, g3, gv⟩ := four_of hy
 obtain ⟨w1, e1, B1, z1, X1⟩ := box_new w #[.int .i64 kx, .int .i64 nx, .string sx, .slice ax mx cx] 31
 obtain ⟨w2, e2, B2, z2, X2⟩ := box_new w1 #[.int .i64 ky, .int .i64 ny, .string sy, .slice ay my cy] 31
 have hb2 := Ext.trans' B1 B2
 have X1 := X1.ext B2
 rw [z1] at X2
 have hcb2 := hcb.ext hb2
 have hcl := hcb.lt
 obtain ⟨w3, e3⟩ : ∃ w3, w2.setCell ⟨cb, 1, none⟩ (.int .i64 q) = w3 := ⟨_, rfl⟩
 have hb3 : Box w3 cb [p, .int .i64 q] := by rw [← e3]; exact hcb2.set (k := 1) (by simp)
 have t3 : Touch [cb] w2 w3 := by rw [← e3]; exact touch_one w2 cb 1 _
 have hx3 : Box w3 w.heap.size [.int .i64 kx, .int .i64 nx, .string sx, .slice ax mx cx] := by rw [← e3]; exact X1.far (by omega)
 have hy3 : Box w3 (w.heap.size + 1) [.int .i64 ky, .int .i64 ny, .string sy, .slice ay my cy] := by rw [← e3]; exact X2.far (by omega)
 have h3 : IsB V F w3 p N R := (h.ext hb2).touch t3 (fun k hk hm => by simp at hk; subst hk; exact hcF hm) hcV
 have H3 := Lib.hid (And.intro h3 (And.intro hb3 (show Touch (cb :: F) w w3 from ((Touch.of_below hb2 (cb :: F)).trans t3 (fun k hk => by simp at hk; subst hk; exact Or.inl (by simp))))))
 have HX3 := Lib.hid (And.intro hx3 hy3)
 have HI := Lib.hid (And.intro h (And.intro hs hcb))
 have HE := Lib.hid (And.intro e1 (And.intro e2 e3))
 have HCF := Lib.hid (And.intro hcF (And.intro hcV (And.intro hx (And.intro hy (And.intro fx (And.intro fy hcl))))))
 have d0 := hcb2.cells 0 _ rfl
 have d1 := hcb2.cells 1 _ rfl
 have df := hcb2.fz
 have HC := Lib.hid (And.intro hc (And.intro hK (And.intro hq (And.intro hT hN))))
 have hq2 : q ≤ 2001 := by omega
 clear h hs hcb B1 B2 X1 X2 hb2 z1 z2 hcb2 e1 e2 hcF hcV hcl hb3 t3 hx3 hy3 h3 hx hy fx fy f1 f2 f3 fv g1 g2 g3 gv hT hN e3 hc hK hq
 by_cases hbig : 2000 < q
 ·have hbig2 : (2000 : Int) < q := by omega
  have hU : uniT K S x y c = ⟨false, S, q⟩ := by
   have hq := HC.out.2.2.1
   cases K with
   | zero => rw [uniT, hq]
   | succ K => rw [uniT, if_pos (by omega), hq]
  rw [hU]
  go_enter Try.func115, Try.ntmps115
  go_upto_region 1 with fail
  rw [HE.out.1, HE.out.2.1]
  go_upto_region 2 with fail
  rw [HE.out.2.2]
  have d1 := H3.out.2.1.cells 1 _ rfl
  go_wp2
  go_ret
  exact ⟨F, R, rfl, H3.out.1, HI.out.2.1, H3.out.2.1, H3.out.2.2, fun k hk => Or.inl hk⟩
 ·have hbig2 : ¬ (2000 : Int) < q := by omega
  obtain ⟨K', rfl⟩ : ∃ K', K = K' + 1 := ⟨K - 1, by have := HC.out.1; have := HC.out.2.1; have := HC.out.2.2.1; omega⟩
  have IH := Lib.hid (ih K' rfl)
  have hWX := Lib.hid (fun (wq : World) (hb : Below w3.heap.size w3 wq) => Walk_at (H3.out.1.ext hb) HCF.out.2.2.1 (fitsB_true.1 HCF.out.2.2.2.2.1).1 (fitsB_true.1 HCF.out.2.2.2.2.1).2)
  have hWY := Lib.hid (fun (wq : World) (hb : Below w3.heap.size w3 wq) => Walk_at (H3.out.1.ext hb) HCF.out.2.2.2.1 (fitsB_true.1 HCF.out.2.2.2.2.2.1).1 (fitsB_true.1 HCF.out.2.2.2.2.2.1).2)
  obtain ⟨RES, hRES⟩ : ∃ r, uniT (K' + 1) S x y c = r := ⟨_, rfl⟩
  rw [hRES]
  have HRES := Lib.hid hRES
  clear ih hRES
  go_enter Try.func115, Try.ntmps115
  go_upto_region 1 with fail
  rw [HE.out.1, HE.out.2.1]
  go_upto_region 2 with fail
  rw [HE.out.2.2]
  clear d0 d1 df
  have d1 := H3.out.2.1.cells 1 _ rfl
  go_upto_region 4 with fail
  have d0 := H3.out.2.1.cells 0 _ rfl
  have hlt : w.heap.size < w3.heap.size ∧ w.heap.size + 1 < w3.heap.size := ⟨HX3.out.1.lt, HX3.out.2.lt⟩
  have hcl := HCF.out.2.2.2.2.2.2
  obtain ⟨x0, x1, x2, x3, _⟩ := HX3.out.1.four
  refine g_begin (B := fun w' => w'.cell? ⟨cb, 0, none⟩ = some p ∧ (∀ j, w'.frozen? ⟨w.heap.size, j, none⟩ = false) ∧ (∀ j, w'.frozen? ⟨w.heap.size + 1, j, none⟩ = false)) (C := fun w' => w'.cell? ⟨w.heap.size + 1, 0, none⟩ = some (.int .i64 ky) ∧ w'.cell? ⟨w.heap.size + 1, 1, none⟩ = some (.int .i64 ny) ∧ w'.cell? ⟨w.heap.size + 1, 2, none⟩ = some (.string sy) ∧ w'.cell? ⟨w.heap.size + 1, 3, none⟩ = some (.slice ay my cy)) 13 (by kernel_rfl) ⟨d0, HX3.out.1.fz, HX3.out.2.fz⟩ ⟨HX3.out.2.cells 0 _ rfl, HX3.out.2.cells 1 _ rfl, HX3.out.2.cells 2 _ rfl, HX3.out.2.cells 3 _ rfl⟩ (fun hHB hHC => ?_)
  refine g_tb (i := 0) ⟨hHB, fun _ => hHC⟩ ?_; apply Exists.intro; refine ⟨fun wq hq => ?_, ?_⟩; (focus ((try dsimp only at hq); go_simp; (first | done | with_reducible rfl | fail)))
  refine g_tb (i := 1) ⟨hHB, fun _ => hHC⟩ ?_; apply Exists.intro; refine ⟨fun wq hq => ?_, ?_⟩; (focus ((try dsimp only at hq); go_simp; (first | done | with_reducible rfl | fail)))
  refine g_tb (i := 2) ⟨hHB, fun _ => hHC⟩ ?_; apply Exists.intro; refine ⟨fun wq hq => ?_, ?_⟩; (focus ((try dsimp only at hq); go_simp; (first | done | with_reducible rfl | fail)))
  refine g_tb (i := 3) ⟨hHB, fun _ => hHC⟩ ?_; apply Exists.intro; refine ⟨fun wq hq => ?_, ?_⟩; (focus ((try dsimp only at hq); go_simp; (first | done | with_reducible rfl | fail)))
  refine g_tb (i := 6) ⟨hHB, fun _ => hHC⟩ ?_; apply Exists.intro; refine ⟨fun wq hq => ?_, ?_⟩; (focus ((try dsimp only at hq); go_simp; (first | done | with_reducible rfl | fail)))
  refine g_tb (i := 7) ⟨hHB, fun _ => hHC⟩ ?_; apply Exists.intro; refine ⟨fun wq hq => ?_, ?_⟩; (focus ((try dsimp only at hq); go_simp; (first | done | with_reducible rfl | fail)))
  refine g_tb (i := 8) ⟨hHB, fun _ => hHC⟩ ?_; apply Exists.intro; refine ⟨fun wq hq => ?_, ?_⟩; (focus ((try dsimp only at hq); go_simp; (first | done | with_reducible rfl | fail)))
  refine g_tb (i := 9) ⟨hHB, fun _ => hHC⟩ ?_; apply Exists.intro; refine ⟨fun wq hq => ?_, ?_⟩; (focus ((try dsimp only at hq); go_simp; (first | done | with_reducible rfl | fail)))
  refine g_tc (i := 10) ⟨hHB, fun _ => hHC⟩ ?_; apply Exists.intro; refine ⟨fun wq hq => ?_, ?_⟩; (focus ((try dsimp only at hq); go_simp; (first | done | with_reducible rfl | fail)))
  try simp only [Act.put, lay4]
  refine g_ready (rs := [4]) (by kernel_rfl) (by simp) ?_
  refine AllReadyG.cons (by simp only [ops3]; rfl) (fun K hK => ?_) AllReadyG.nil
  go_simp
  skip
  refine hK.out _ _ ⟨hHB, fun _ => hHC⟩ (fun hHeld => ?_)
  replace hHB := hHeld.1
  replace hHC := hHeld.2 (by kernel_rfl)
  dsimp only at hHB hHC
  clear hHeld hK K
  try simp only [Act.put, lay4]
  clear x0 x1 x2 x3
  try simp only [Act.put, lay4]
  refine g_ready (rs := [5]) (by kernel_rfl) (by simp) ?_
  refine AllReadyG.cons (by simp only [ops3]; rfl) (fun K hK => ?_) AllReadyG.nil
  go_simp
  (go_at_call 99; refine (hWX.out _ (Below.refl _ _).drew).mono ?_; rintro e w4 ⟨x', v4, rfl, hx', hwk, htop, b4⟩; obtain ⟨k1, n1, s1, ts1, a1, L1, c1, rfl, hL1, rfl, hTs1, hL1c, hc1m⟩ := shape_of hx'; have HX4 := Lib.hid (And.intro hx' (And.intro hwk (And.intro htop (And.intro hL1 hTs1)))); have HB4 := Lib.hid (show Below w3.heap.size w3 w4 from (Below.refl w3.heap.size w3).drew.trans (b4.mono (Below.refl w3.heap.size w3).drew.size)); have hb4 : Below w3.drew.heap.size w3.drew w4 := b4; clear hx' hwk htop hL1 hTs1 b4)
  refine hK.out _ _ ⟨⟨cell_later hb4 hHB.1, fun j => (hb4.frozen (p := ⟨w.heap.size, j, none⟩) hlt.1).trans (hHB.2.1 j), fun j => (hb4.frozen (p := ⟨w.heap.size + 1, j, none⟩) hlt.2).trans (hHB.2.2 j)⟩, fun _ => ⟨cell_later hb4 hHC.1, cell_later hb4 hHC.2.1, cell_later hb4 hHC.2.2.1, cell_later hb4 hHC.2.2.2⟩⟩ (fun hHeld => ?_)
  replace hHB := hHeld.1
  replace hHC := hHeld.2 (by kernel_rfl)
  dsimp only at hHB hHC
  clear hHeld hK K
  try simp only [Act.put, lay4]
  clear hb4
  try simp only [Act.put, lay4]
  refine g_ready (rs := [11]) (by kernel_rfl) (by simp) ?_
  refine AllReadyG.cons (by simp only [ops3]; rfl) (fun K hK => ?_) AllReadyG.nil
  go_simp
  (go_at_call 99; refine (hWY.out _ HB4.out).mono ?_; rintro e w6 ⟨y', v6, rfl, hx', hwk, htop, hb6⟩; obtain ⟨k2, n2, s2, ts2, a2, L2, c2, rfl, hL1, rfl, hTs1, hL2c, hc2m⟩ := shape_of hx'; have HY6 := Lib.hid (And.intro hx' (And.intro hwk (And.intro htop (And.intro hL1 hTs1)))); have HB6 := Lib.hid (HB4.out.trans (hb6.mono HB4.out.size)); have hlt4 : w.heap.size < w4.heap.size ∧ w.heap.size + 1 < w4.heap.size := (by have := HB4.out.size; omega); clear hx' hwk htop hL1 hTs1)
  refine hK.out _ _ ⟨⟨cell_later hb6 hHB.1, fun j => (hb6.frozen (p := ⟨w.heap.size, j, none⟩) hlt4.1).trans (hHB.2.1 j), fun j => (hb6.frozen (p := ⟨w.heap.size + 1, j, none⟩) hlt4.2).trans (hHB.2.2 j)⟩, fun _ => ⟨cell_later hb6 hHC.1, cell_later hb6 hHC.2.1, cell_later hb6 hHC.2.2.1, cell_later hb6 hHC.2.2.2⟩⟩ (fun hHeld => ?_)
  replace hHB := hHeld.1
  replace hHC := hHeld.2 (by kernel_rfl)
  dsimp only at hHB hHC
  clear hHeld hK K
  try simp only [Act.put, lay4]
  clear hb6
  obtain ⟨x0, x1, x2, x3, _⟩ := (HX3.out.1.ext HB6.out).four
  have ne54 : w.heap.size + 1 ≠ w.heap.size := (by omega)
  try simp only [Act.put, lay4]
  refine g_ready (rs := [12]) (by kernel_rfl) (by simp) ?_
  refine AllReadyG.cons (by simp only [ops3]; rfl) (fun K hK => ?_) AllReadyG.nil
  go_simp
  skip
  refine hK.out _ _ ⟨⟨(sfour_far (by omega)).trans hHB.1, fun j => (four_froz _).trans (hHB.2.1 j), fun j => (four_froz _).trans (hHB.2.2 j)⟩, fun _ => ⟨(sfour_far ne54).trans hHC.1, (sfour_far ne54).trans hHC.2.1, (sfour_far ne54).trans hHC.2.2.1, (sfour_far ne54).trans hHC.2.2.2⟩⟩ (fun hHeld => ?_)
  replace hHB := hHeld.1
  replace hHC := hHeld.2 (by kernel_rfl)
  dsimp only at hHB hHC
  clear hHeld hK K
  try simp only [Act.put, lay4]
  clear x0 x1 x2 x3
  try simp only [Act.put, lay4]
  refine g_ready (rs := [13]) (by kernel_rfl) (by simp) ?_
  refine AllReadyG.cons (by simp only [ops3]; rfl) (fun K hK => ?_) AllReadyG.nil
  go_simp
  skip
  refine hK.out _ _ ⟨⟨(sfour_far (by omega)).trans hHB.1, fun j => (four_froz _).trans (hHB.2.1 j), fun j => (four_froz _).trans (hHB.2.2 j)⟩, (fun h => absurd h (by decide +kernel))⟩ (fun hHeld => ?_)
  replace hHB := hHeld.1
  dsimp only at hHB
  clear hHeld hK K
  try simp only [Act.put, lay4]
  refine g_done (by kernel_rfl) ?_ _
  obtain ⟨w7, e7⟩ : ∃ w7, set4 (set4 w6 w.heap.size (.int .i64 k1) (.int .i64 n1) (.string s1) (.slice a1 L1 c1)) (w.heap.size + 1) (.int .i64 k2) (.int .i64 n2) (.string s2) (.slice a2 L2 c2) = w7 := ⟨_, rfl⟩
  have hb4 : Box w7 w.heap.size [.int .i64 k1, .int .i64 n1, .string s1, .slice a1 L1 c1] := by
   rw [← e7]
   exact (((((((((HX3.out.1.ext HB6.out).set (k := 0) (by simp)).set (k := 1) (by simp)).set (k := 2) (by simp)).set (k := 3) (by simp)).far (by omega)).far (by omega)).far (by omega)).far (by omega))
  have hb5 : Box w7 (w.heap.size + 1) [.int .i64 k2, .int .i64 n2, .string s2, .slice a2 L2 c2] := by
   rw [← e7]
   exact (((((((((HX3.out.2.ext HB6.out).far (by omega)).far (by omega)).far (by omega)).far (by omega)).set (k := 0) (by simp)).set (k := 1) (by simp)).set (k := 2) (by simp)).set (k := 3) (by simp))
  have hb7 : Box w7 cb [p, .int .i64 q] := by
   rw [← e7]
   exact (((((((((H3.out.2.1.ext HB6.out).far (by omega)).far (by omega)).far (by omega)).far (by omega)).far (by omega)).far (by omega)).far (by omega)).far (by omega))
  have t7 : Touch (cb :: F) w w7 := by
   rw [← e7]
   exact ((H3.out.2.2.then HB6.out).four (Nat.le_refl _) _ _ _ _).four (Nat.le_succ _) _ _ _ _
  have h7 : IsB V F w7 p N R := by
   have hA : ∀ k ∈ [w.heap.size, w.heap.size + 1], ¬ k ∈ F := fun k hk hm => by have := HI.out.1.lt _ hm; simp at hk; omega
   refine (H3.out.1.ext HB6.out).touch (T := [w.heap.size, w.heap.size + 1]) ?_ hA (Blind.new HI.out.1.see.1 (fun k hk => by simp at hk; omega))
   rw [← e7]
   exact ((touch_four w6 w.heap.size _ _ _ _).sub (fun k hk => by simp at hk; simp [hk])).trans (touch_four _ (w.heap.size + 1) _ _ _ _) (fun k hk => by simp at hk; simp [hk])
  have H7 := Lib.hid (And.intro h7 (And.intro hb7 (And.intro t7 (And.intro hb4 hb5))))
  have hU : RES = uniW (uniT K') S (.mk k1 n1 s1 (subL (fullB S) ts1)) (.mk k2 n2 s2 (subL (fullB S) ts2)) q := by
   have hq := HC.out.2.2.1
   rw [← HRES.out, uniT, if_neg (by omega), whole_top HI.out.2.1 HX4.out.2.1 HX4.out.2.2.1, whole_top HI.out.2.1 HY6.out.2.1 HY6.out.2.2.1, hq]
  dsimp only [set4, set3] at e7
  (try rw [e7])
  clear e7 h7 hb7 t7 hb4 hb5 hHB d0 d1 ne54 hlt hlt4 hcl
  obtain ⟨x0, x1, x2, x3, xf⟩ := H7.out.2.2.2.1.four
  obtain ⟨y0, y1, y2, y3, yf⟩ := H7.out.2.2.2.2.four
  have hq3 : q ≤ 2000 := by omega
  by_cases hk1 : k1 = 0
  ·subst hk1
   obtain ⟨rfl, rfl⟩ := var_parts HX4.out.2.1.good
   obtain rfl : L1 = 0 := HX4.out.2.2.2.1.symm
   have hr1 := HX4.out.2.1.rng n1 (by rw [occ_var]; simp)
   have hg1 : getB R n1 = none := HX4.out.2.2.1 rfl
   obtain ⟨u1, rfl⟩ : ∃ u1 : Nat, n1 = (u1 : Int) := ⟨n1.toNat, by omega⟩
   have hu1 : u1 < N := by omega
   rw [uniW, if_pos rfl] at hU
   by_cases hk2 : k2 = 0
   ·subst hk2
    rw [if_pos rfl] at hU
    obtain ⟨rfl, rfl⟩ := var_parts HY6.out.2.1.good
    obtain rfl : L2 = 0 := HY6.out.2.2.2.1.symm
    have hr2 := HY6.out.2.1.rng n2 (by rw [occ_var]; simp)
    have hg2 : getB R n2 = none := HY6.out.2.2.1 rfl
    obtain ⟨u2, rfl⟩ : ∃ u2 : Nat, n2 = (u2 : Int) := ⟨n2.toNat, by omega⟩
    have hu2 : u2 < N := by omega
    have C := join_at H7.out.1 HI.out.2.1 H7.out.2.1 HCF.out.1 hu1 hu2 hg1 hg2 a1 a2 c1 c2
    rw [← hU] at C
    clear hr1 hr2 hg1 hg2 hu1 hu2 hU
    (go_wp2_with fail; go_fit (C); rintro e w8 ⟨F8, R8, rfl, i8, s8, b8, t8, in8⟩)
    have H8 := Lib.hid (show UniP V F w7 p N cb RES (.returned (.bool RES.ok)) w8 from ⟨F8, R8, rfl, i8, s8, b8, t8, in8⟩)
    clear i8 s8 b8 t8 in8 C
    go_wp2
    go_ret
    exact UniP.from H7.out.2.2.1 H8.out
   ·rw [if_neg hk2] at hU
    have hk2' : (k2 == 0) = false := by simpa using hk2
    have C := stand_at H7.out.1 HI.out.2.1 H7.out.2.1 HCF.out.1 HCF.out.2.1 hu1 hg1 a1 c1 HY6.out.1 HY6.out.2.1.good HY6.out.2.1.rng hq3
    rw [sub_not _ hk2] at C
    clear hr1 hg1 hu1
    rw [← hU] at C
    clear hU
    (go_wp2_with fail; go_fit (C); rintro e w8 ⟨F8, R8, rfl, i8, s8, b8, t8, in8⟩)
    have H8 := Lib.hid (show UniP V F w7 p N cb RES (.returned (.bool RES.ok)) w8 from ⟨F8, R8, rfl, i8, s8, b8, t8, in8⟩)
    clear i8 s8 b8 t8 in8 C
    go_wp2
    go_ret
    exact UniP.from H7.out.2.2.1 H8.out
  ·have hk1' : (k1 == 0) = false := by simpa using hk1
   rw [uniW, if_neg hk1] at hU
   by_cases hk2 : k2 = 0
   ·subst hk2
    rw [if_pos rfl] at hU
    obtain ⟨rfl, rfl⟩ := var_parts HY6.out.2.1.good
    obtain rfl : L2 = 0 := HY6.out.2.2.2.1.symm
    have hr2 := HY6.out.2.1.rng n2 (by rw [occ_var]; simp)
    have hg2 : getB R n2 = none := HY6.out.2.2.1 rfl
    obtain ⟨u2, rfl⟩ : ∃ u2 : Nat, n2 = (u2 : Int) := ⟨n2.toNat, by omega⟩
    have hu2 : u2 < N := by omega
    have C := stand_at H7.out.1 HI.out.2.1 H7.out.2.1 HCF.out.1 HCF.out.2.1 hu2 hg2 a2 c2 HX4.out.1 HX4.out.2.1.good HX4.out.2.1.rng hq3
    rw [sub_not _ hk1] at C
    clear hr2 hg2 hu2
    rw [← hU] at C
    clear hU
    (go_wp2_with fail; go_fit (C); rintro e w8 ⟨F8, R8, rfl, i8, s8, b8, t8, in8⟩)
    have H8 := Lib.hid (show UniP V F w7 p N cb RES (.returned (.bool RES.ok)) w8 from ⟨F8, R8, rfl, i8, s8, b8, t8, in8⟩)
    clear i8 s8 b8 t8 in8 C
    go_wp2
    go_ret
    exact UniP.from H7.out.2.2.1 H8.out
   ·rw [if_neg hk2] at hU
    have hk2' : (k2 == 0) = false := by simpa using hk2
    have HNO := Lib.hid (show UniP V F w p N cb ⟨false, S, q⟩ (.returned (.bool false)) w7 from ⟨F, R, rfl, H7.out.1, HI.out.2.1, H7.out.2.1, H7.out.2.2.1, fun k hk => Or.inl hk⟩)
    by_cases g1 : k1 = k2
    ·subst g1
     by_cases g2 : n1 = n2
     ·subst g2
      by_cases g3 : s1 = s2
      ·subst g3
       by_cases g4 : L1 = L2
       ·subst g4
        rw [if_pos ⟨rfl, rfl, rfl, by rw [subL_len, subL_len, HX4.out.2.2.2.1, HY6.out.2.2.2.1]⟩] at hU
        have HTS := Lib.hid (And.intro HX4.out.2.2.2.2 HY6.out.2.2.2.2)
        have HLL := Lib.hid (And.intro HX4.out.2.2.2.1 HY6.out.2.2.2.1)
        have HFI := Lib.hid (show ∀ (z : Tm), z ∈ ts1 ∨ z ∈ ts2 → fitsB N z = true from fun z hz => hz.elim (fun h => fits_arg hk1 HX4.out.2.1.good HX4.out.2.1.rng h) (fun h => fits_arg hk1 HY6.out.2.1.good HY6.out.2.1.rng h))
        have HST := Lib.hid (show PairI V w7 F p N S cb q K' ts1 ts2 RES 0 w7 from ⟨F, R, S, q, H7.out.1, HI.out.2.1, (OkS.of_tri HC.out.2.2.2.1 HC.out.2.2.2.2 HI.out.2.1).resp, H7.out.2.1, Touch.refl' _ _, fun k hk => Or.inl hk, ⟨Nat.le_refl _, hq3⟩, hU.symm⟩)
        have HKQ := Lib.hid (show 2000 ≤ K' + q ∧ c + 1 = q ∧ w.heap.size + 1 < w7.heap.size by have h1 := HC.out.2.1; have h2 := HC.out.2.2.1; have h3 := H7.out.2.2.2.2.lt; exact ⟨by omega, h2, h3⟩)
        clear hU HNO hbig hbig2 hsum hwq
        unfold maxLen at hc1m
        go_wp2_with fail
        go_loopw [7, 93] (fun _ z wr => ∃ j : Nat, j ≤ L1 ∧ z = .int .i64 j ∧ Hid (PairI V w7 F p N S cb q K' ts1 ts2 RES j wr)) (fun _ z _ => L1 - (RowKit.intOf z).toNat)
        case atStart => exact ⟨0, Nat.zero_le _, rfl, HST⟩
        case round =>
         obtain ⟨j, hj, rfl, HP⟩ := hrel
         clear HST x0 x1 x2 x3 y0 y1 y2 y3 xf yf
         obtain ⟨F', R', S', c', i8, s8, r8, b8, t8, in8, ⟨hc1, hc2⟩, hres⟩ := HP.out
         have hcl2 := HCF.out.2.2.2.2.2.2
         have hn : ∀ k, k < w7.heap.size → ¬ k ∈ F → k ≠ cb → ¬ k ∈ cb :: F' := fun k h1 h2 h3 hm => by
          rcases List.mem_cons.1 hm with e | hm
          ·exact h3 e
          ·rcases in8 k hm with h | h
           ·exact h2 h
           ·omega
         have hn4 := hn w.heap.size (by have := HKQ.out.2.2; omega) (fun hm => by have := HI.out.1.lt _ hm; omega) (by omega)
         have hn5 := hn (w.heap.size + 1) HKQ.out.2.2 (fun hm => by have := HI.out.1.lt _ hm; omega) (by omega)
         have hncb : ¬ cb ∈ F' := fun hm => (in8 _ hm).elim HCF.out.1 (fun h => by have := HKQ.out.2.2; omega)
         have hcF4 : ¬ w.heap.size ∈ cb :: F := fun hm => by
          rcases List.mem_cons.1 hm with e | hm
          ·omega
          ·have := HI.out.1.lt _ hm; omega
         have hcF5 : ¬ (w.heap.size + 1) ∈ cb :: F := fun hm => by
          rcases List.mem_cons.1 hm with e | hm
          ·omega
          ·have := HI.out.1.lt _ hm; omega
         have x3 := (t8.box hcF4 H7.out.2.2.2.1).cells 3 _ rfl
         have y3 := (t8.box hcF5 H7.out.2.2.2.2).cells 3 _ rfl
         by_cases hjL : j < L1
         ·have hjL2 : (j : Int) < L1 := by omega
          obtain ⟨xj, hxj⟩ : ∃ z, ts1[j]? = some z := ⟨_, List.getElem?_eq_getElem (by rw [HLL.out.1]; exact hjL)⟩
          obtain ⟨yj, hyj⟩ : ∃ z, ts2[j]? = some z := ⟨_, List.getElem?_eq_getElem (by rw [HLL.out.2]; exact hjL)⟩
          obtain ⟨ba, oa, ka, na, sa, va, rfl, _, _, _, _, p0, p1, p2, p3, _, ptm⟩ := HTS.out.1.get hxj
          obtain ⟨bb, ob, kb, nb, sb, vb, rfl, _, _, _, _, q0, q1, q2, q3, _, qtm⟩ := HTS.out.2.get hyj
          obtain ⟨r, hr⟩ : ∃ r, uniT K' S' xj yj c' = r := ⟨_, rfl⟩
          have fxj := HFI.out xj (Or.inl (List.mem_of_getElem? hxj))
          have fyj := HFI.out yj (Or.inr (List.mem_of_getElem? hyj))
          rw [sub_drop hxj, sub_drop hyj, uniL, uni_whole r8 (fits_in fxj).2 (fits_in fyj).2, hr] at hres
          have hpost := uni_post K' S' xj yj c' (OkS.of_tri i8.tri.1 i8.tri.2 s8) (fits_in fxj) (fits_in fyj) hc2 (by have := HKQ.out.1; omega)
          rw [hr] at hpost
          have HPO := Lib.hid hpost
          have HRS := Lib.hid hres
          have HPV := Lib.hid (And.intro p0 (And.intro p1 (And.intro p2 (And.intro p3 (And.intro q0 (And.intro q1 (And.intro q2 q3)))))))
          have HC9 := Lib.hid (fun (wq : World) (hb : Below wr.heap.size wr wq) => IH.out wq F' p N R' S' cb c' xj yj _ _ (i8.ext hb) s8 (b8.ext hb) hncb HCF.out.2.1 ptm qtm fxj fyj hc2 (by have := HKQ.out.1; omega))
          rw [hr] at HC9
          have a0 := i8.see.1.2 _ _ p0
          have a1 := i8.see.1.2 _ _ p1
          have a2 := i8.see.1.2 _ _ p2
          have a3 := i8.see.1.2 _ _ p3
          have b0 := i8.see.1.2 _ _ q0
          have b1 := i8.see.1.2 _ _ q1
          have b2 := i8.see.1.2 _ _ q2
          have b3 := i8.see.1.2 _ _ q3
          have HW := Lib.hid (And.intro i8 (And.intro s8 (And.intro r8 (And.intro t8 (And.intro in8 (And.intro hc1 hc2))))))
          have HNN := Lib.hid (And.intro hn4 hn5)
          clear hres hpost hr p0 p1 p2 p3 q0 q1 q2 q3 ptm qtm fxj fyj hxj hyj i8 s8 r8 b8 t8 in8 hc1 hc2 hn hn4 hn5 hncb hcF4 hcF5 HP hcl2
          go_wp2_with fail
          refine wp_region_held_drew (S := fun w' => w'.cell? ⟨w.heap.size, 3, none⟩ = some (.slice (some ⟨ba, oa, none⟩) L1 c1) ∧ w'.cell? ⟨w.heap.size + 1, 3, none⟩ = some (.slice (some ⟨bb, ob, none⟩) L1 c2) ∧ w'.cell? ⟨ba, oa + j * 4, none⟩ = some (.int .i64 ka) ∧ w'.cell? ⟨ba, oa + j * 4 + 1, none⟩ = some (.int .i64 na) ∧ w'.cell? ⟨ba, oa + j * 4 + 2, none⟩ = some (.string sa) ∧ w'.cell? ⟨ba, oa + j * 4 + 3, none⟩ = some va ∧ w'.cell? ⟨bb, ob + j * 4, none⟩ = some (.int .i64 kb) ∧ w'.cell? ⟨bb, ob + j * 4 + 1, none⟩ = some (.int .i64 nb) ∧ w'.cell? ⟨bb, ob + j * 4 + 2, none⟩ = some (.string sb) ∧ w'.cell? ⟨bb, ob + j * 4 + 3, none⟩ = some vb) (by kernel_rfl) ⟨x3, y3, a0, a1, a2, a3, b0, b1, b2, b3⟩ (fun hHeld => ?_)
          first | (refine held_t (i := 0) hHeld ?_; constructor; constructor; intro wq hq; focus ((try dsimp only at hq); go_simp; first | done | with_reducible rfl | fail)) | refine held_s (i := 0) hHeld ?_ | fail
          first | (refine held_t (i := 1) hHeld ?_; constructor; constructor; intro wq hq; focus ((try dsimp only at hq); go_simp; first | done | with_reducible rfl | fail)) | refine held_s (i := 1) hHeld ?_ | fail
          first | (refine held_t (i := 2) hHeld ?_; constructor; constructor; intro wq hq; focus ((try dsimp only at hq); go_simp; first | done | with_reducible rfl | fail)) | refine held_s (i := 2) hHeld ?_ | fail
          first | (refine held_t (i := 3) hHeld ?_; constructor; constructor; intro wq hq; focus ((try dsimp only at hq); go_simp; first | done | with_reducible rfl | fail)) | refine held_s (i := 3) hHeld ?_ | fail
          first | (refine held_t (i := 4) hHeld ?_; constructor; constructor; intro wq hq; focus ((try dsimp only at hq); go_simp; first | done | with_reducible rfl | fail)) | refine held_s (i := 4) hHeld ?_ | fail
          first | (refine held_t (i := 5) hHeld ?_; constructor; constructor; intro wq hq; focus ((try dsimp only at hq); go_simp; first | done | with_reducible rfl | fail)) | refine held_s (i := 5) hHeld ?_ | fail
          try simp only [Act.put, lay4]
          first | (refine held_t (i := 6) hHeld ?_; constructor; constructor; intro wq hq; focus ((try dsimp only at hq); go_simp; first | done | with_reducible rfl | fail)) | refine held_s (i := 6) hHeld ?_ | fail
          first | (refine held_t (i := 7) hHeld ?_; constructor; constructor; intro wq hq; focus ((try dsimp only at hq); go_simp; first | done | with_reducible rfl | fail)) | refine held_s (i := 7) hHeld ?_ | fail
          first | (refine held_t (i := 8) hHeld ?_; constructor; constructor; intro wq hq; focus ((try dsimp only at hq); go_simp; first | done | with_reducible rfl | fail)) | refine held_s (i := 8) hHeld ?_ | fail
          first | (refine held_t (i := 9) hHeld ?_; constructor; constructor; intro wq hq; focus ((try dsimp only at hq); go_simp; first | done | with_reducible rfl | fail)) | refine held_s (i := 9) hHeld ?_ | fail
          first | (refine held_t (i := 10) hHeld ?_; constructor; constructor; intro wq hq; focus ((try dsimp only at hq); go_simp; first | done | with_reducible rfl | fail)) | refine held_s (i := 10) hHeld ?_ | fail
          try simp only [Act.put, lay4]
          refine held_c 11 fun K hK => ?_
          go_simp
          (go_at_call 115; refine (HC9.out _ (Below.refl _ _).drew).mono ?_; rintro e w9 ⟨F9, R9, rfl, i9, s9, b9, t9, in9⟩; have H9 := Lib.hid (And.intro i9 (And.intro s9 (And.intro b9 (And.intro t9 in9)))))
          refine hK.out _ _ (⟨t9.cell HNN.out.1 hHeld.1, t9.cell HNN.out.2 hHeld.2.1, i9.see.1.2 _ _ HPV.out.1, i9.see.1.2 _ _ HPV.out.2.1, i9.see.1.2 _ _ HPV.out.2.2.1, i9.see.1.2 _ _ HPV.out.2.2.2.1, i9.see.1.2 _ _ HPV.out.2.2.2.2.1, i9.see.1.2 _ _ HPV.out.2.2.2.2.2.1, i9.see.1.2 _ _ HPV.out.2.2.2.2.2.2.1, i9.see.1.2 _ _ HPV.out.2.2.2.2.2.2.2⟩) (fun hHeld => ?_)
          clear hK K
          try simp only [Act.put, lay4]
          clear i9 s9 b9 t9 in9
          first | (refine held_t (i := 12) hHeld ?_; constructor; constructor; intro wq hq; focus ((try dsimp only at hq); go_simp; first | done | with_reducible rfl | fail)) | refine held_s (i := 12) hHeld ?_ | fail
          try simp only [Act.put, lay4]
          refine wpAnyH_done (by kernel_rfl) ?_ _
          clear hHeld x3 y3 a0 a1 a2 a3 b0 b1 b2 b3
          have hTT : Touch (cb :: F) w7 w9 := ((HW.out.2.2.2.1).then (Below.refl _ _).drew).trans H9.out.2.2.2.1 (fun k hk => by
           rcases List.mem_cons.1 hk with e | hk
           ·exact Or.inl (by rw [e]; simp)
           ·exact (HW.out.2.2.2.2.1 k hk).imp (fun h => List.mem_cons_of_mem _ h) id)
          have hin : ∀ k ∈ F9, k ∈ F ∨ w7.heap.size ≤ k := fun k hk => (H9.out.2.2.2.2 k hk).elim (HW.out.2.2.2.2.1 k) (fun h => Or.inr (Nat.le_trans HW.out.2.2.2.1.size h))
          have HTT := Lib.hid (And.intro hTT hin)
          clear hTT hin
          obtain ⟨ok, hok⟩ : ∃ ok, r.ok = ok := ⟨_, rfl⟩
          rw [hok]
          have HOK := Lib.hid hok
          clear hok
          cases ok
          ·have hE : RES = ⟨false, r.set, r.cost⟩ := by have := HRS.out; rw [if_neg (by rw [HOK.out]; simp)] at this; exact this.symm
           have HE9 := Lib.hid hE
           clear hE
           go_wp2
           go_ret
           rw [HE9.out]
           exact UniP.from H7.out.2.2.1 ⟨F9, R9, rfl, H9.out.1, H9.out.2.1, H9.out.2.2.1, HTT.out.1, HTT.out.2⟩
          ·have hE : uniL (uniT K') r.set ((subL (fullB S) ts1).drop (j + 1)) ((subL (fullB S) ts2).drop (j + 1)) r.cost = RES := by have := HRS.out; rw [if_pos HOK.out] at this; exact this
           have HPI := Lib.hid (show PairI V w7 F p N S cb q K' ts1 ts2 RES (j + 1) w9 from ⟨F9, R9, r.set, r.cost, H9.out.1, H9.out.2.1, Resp.trans (OkS.of_tri HC.out.2.2.2.1 HC.out.2.2.2.2 HI.out.2.1) HPO.out.resp HW.out.2.2.1, H9.out.2.2.1, HTT.out.1, HTT.out.2, ⟨Nat.le_trans HW.out.2.2.2.2.2.1 HPO.out.cost, (HPO.out.made HOK.out).2⟩, hE⟩)
           clear hE
           go_wp2
           go_roundw
           case rel => exact ⟨j + 1, by omega, by go_num, HPI⟩
           case measure => simp [RowKit.intOf]; omega
         ·have hjL2 : j = L1 := by omega
          subst hjL2
          have hE : RES = ⟨true, S', c'⟩ := by
           rw [← hres, List.drop_eq_nil_of_le (by rw [subL_len, HLL.out.1]; exact Nat.le_refl _), List.drop_eq_nil_of_le (by rw [subL_len, HLL.out.2]; exact Nat.le_refl _), uniL]
           intro x r y q e; cases e
          have HE9 := Lib.hid (And.intro hE (show UniP V F w7 p N cb RES (.returned (.bool true)) wr from by rw [hE]; exact ⟨F', R', rfl, i8, s8, b8, t8, in8⟩))
          clear hE hres i8 s8 r8 b8 t8 in8 hc1 hc2 hn hn4 hn5 hncb hcF4 hcF5 HP hcl2 x3 y3
          go_wp2
          go_ret
          exact UniP.from H7.out.2.2.1 HE9.out.2
       ·rw [if_neg (fun e => g4 (by have := e.2.2.2; rw [subL_len, subL_len] at this; rw [← HX4.out.2.2.2.1, ← HY6.out.2.2.2.1]; exact this))] at hU; rw [← hU] at HNO; clear hU
        have g4' : ((L1 : Int) != L2) = true := by simp; omega
        have g4n : ¬ (L1 : Int) = L2 := by omega
        go_wp2
        go_ret
        exact HNO.out
      ·have hb : (s1.data.toList == s2.data.toList) = false := beq_false_of_ne (fun e => g3 (bytes_eq e))
       rw [if_neg (fun e => g3 (bytes_eq e.2.2.1))] at hU; rw [← hU] at HNO; clear hU
       have g3' : (s1.toList == s2.toList) = false := by rw [Lib.toList_data, Lib.toList_data]; exact hb
       have g3n : ¬ s1.toList = s2.toList := by rw [Lib.toList_data, Lib.toList_data]; exact fun e => g3 (bytes_eq e)
       clear hb
       go_wp2
       go_ret
       exact HNO.out
     ·rw [if_neg (fun e => g2 e.2.1)] at hU; rw [← hU] at HNO; clear hU
      have g2' : (n1 != n2) = true := by simpa using g2
      go_wp2
      go_ret
      exact HNO.out
    ·rw [if_neg (fun e => g1 e.1)] at hU; rw [← hU] at HNO; clear hU
     have g1' : (k1 != k2) = true := by simpa using g1
     go_wp2
     go_ret
     exact HNO.out
end
end Go.Proofs.Ytchbbaehdcmcfaa
/- Package unify: within, fits, Both. -/
namespace Go.Proofs.Ytchbbaehdcmcfaa
open Go.RowKit
set_option linter.unusedVariables false
theorem pair_all (V : World) : ∀ K, PairP V K
 | 0 => pair_step (fun K' h => by cases h)
 | K + 1 => pair_step (fun K' h => by cases h; exact pair_all V K)
def belowB (n : Int) (x : Tm) : Bool := (occT x).all fun m => decide (m < n)
def belowL (n : Int) (ts : List Tm) : Bool := (occL ts).all fun m => decide (m < n)
theorem belowL_cons (n : Int) (x : Tm) (r : List Tm) : belowL n (x :: r) = (belowB n x && belowL n r) := by
 unfold belowL belowB
 rw [occL, List.all_append]
set_option maxHeartbeats 4000000 in
theorem within_at : ∀ (M : Nat) (x : Tm), sizeN x ≤ M → ∀ (q : Int), I64 q → ∀ (w : World) (v : Value), TmV w x v →
  Calls Try.prog 138 #[v, .int .i64 q] w fun e w' => e = .returned (.bool (belowB q x)) ∧ Below w.heap.size w w'
 | 0, x, h, q, hl, w, v, hv => by have := size_pos x; omega
 | M + 1, .mk k n s ts, h, q, hl, w, v, hv => by
  obtain ⟨u, rfl, hs, hk, hn, hu⟩ := tmV_iff.1 hv
  obtain ⟨a, c, rfl, h1, h2, h3⟩ := hu.len
  unfold maxLen at h2
  by_cases hk0 : k = 0
  ·subst hk0
   have hr : belowB q (.mk 0 n s ts) = decide (n < q) := by unfold belowB; rw [occ_var]; simp
   rw [hr]
   have HB := Lib.hid (bel1' w (.cells #[.int .i64 0, .int .i64 n, .string s, .slice a ts.length c] 31))
   clear hr hv hu h
   go_enter Try.func138, Try.ntmps138
   go_wp2
   go_ret
   exact ⟨rfl, HB.out⟩
  ·have hk0' : (k == 0) = false := by simpa using hk0
   have hr : belowB q (.mk k n s ts) = belowL q ts := by unfold belowB belowL; rw [occ_not hk0]
   rw [hr]
   obtain ⟨m, hm⟩ : ∃ m, ts.length = m := ⟨_, rfl⟩
   obtain ⟨r, hr'⟩ : ∃ r, belowL q ts = r := ⟨_, rfl⟩
   have IH := Lib.hid (fun (y : Tm) (hy : y ∈ ts) => within_at M y (mem_size h hy) q hl)
   have HU := Lib.hid hu
   have HM := Lib.hid hm
   have HR := Lib.hid hr'
   rw [hm] at h1 h3 hu HU ⊢
   rw [hr']
   clear hr hv hu hm hr' h hs hk hn hl
   go_enter Try.func138, Try.ntmps138
   go_wp2_with fail
   go_loopw [6, 17] (fun _ v wr => ∃ i : Nat, i ≤ m ∧ v = .int .i64 i ∧ Hid (belowL q (ts.drop i) = r) ∧ Hid (Below (w.alloc (.cells #[.int .i64 k, .int .i64 n, .string s, .slice a m c] 31)).heap.size (w.alloc (.cells #[.int .i64 k, .int .i64 n, .string s, .slice a m c] 31)) wr)) (fun _ v _ => m - (RowKit.intOf v).toNat)
   case atStart => exact ⟨0, Nat.zero_le _, rfl, Lib.hid (by rw [List.drop_zero]; exact HR.out), Lib.hid (Below.refl _ _)⟩
   case round =>
    obtain ⟨i, hi, rfl, HD, HB⟩ := hrel
    have HBW := Lib.hid (Ext.trans' (bel1' w _) HB.out)
    by_cases hil : i < m
    ·have hil2 : (i : Int) < m := by omega
     obtain ⟨y, hy⟩ : ∃ y, ts[i]? = some y := ⟨_, List.getElem?_eq_getElem (by rw [HM.out]; exact hil)⟩
     have hdr : ts.drop i = y :: ts.drop (i + 1) := by
      obtain ⟨hlt', rfl⟩ := List.getElem?_eq_some_iff.1 hy
      exact List.drop_eq_getElem_cons hlt'
     have hd := HD.out
     rw [hdr, belowL_cons] at hd
     obtain ⟨b, off, k', n', s', u', rfl, hbb, _, _, _, c0, c1, c2, c3, hu', ht⟩ := (HU.out.ext HBW.out).get hy
     obtain ⟨a5, m5, c5, rfl⟩ : ∃ a5 m5 c5, u' = .slice a5 m5 c5 := by obtain ⟨a5, c5, e, _⟩ := hu'.len; exact ⟨_, _, _, e⟩
     obtain ⟨w5, e5, b5, z5, x5⟩ := box_new wr #[.int .i64 k', .int .i64 n', .string s', .slice a5 m5 c5] 31
     have ih := IH.out y (List.mem_of_getElem? hy) w5 _ (TmV.ext b5 _ _ ht)
     have HB5 := Lib.hid (Ext.trans' HB.out b5)
     have HE5 := Lib.hid e5
     obtain ⟨f0, f1, f2, f3, _⟩ := x5.four
     clear hdr HD ht hu' b5 z5 x5 hbb e5
     cases hq : belowB q y
     ·rw [hq, Bool.false_and] at hd
      rw [hq] at ih
      subst hd
      clear hq hy HR
      go_upto_region 6 with fail
      (try rw [HE5.out])
      (go_wp2_with fail; go_fit (ih); rintro e w2 ⟨rfl, b2⟩)
      have B2 := Lib.hid (Ext.trans' (bel1' w (.cells #[.int .i64 k, .int .i64 n, .string s, .slice (some ⟨b, off, none⟩) m c] 31)) (Ext.trans' HB5.out b2))
      clear b2
      go_wp2
      go_ret
      exact ⟨rfl, B2.out⟩
     ·rw [hq, Bool.true_and] at hd
      rw [hq] at ih
      have HD := Lib.hid hd
      clear hq hd hy
      go_upto_region 6 with fail
      (try rw [HE5.out])
      (go_wp2_with fail; go_fit (ih); rintro e w2 ⟨rfl, b2⟩)
      have B2 := Lib.hid (Ext.trans' HB5.out b2)
      clear b2
      go_wp2
      go_roundw
      case rel => exact ⟨i + 1, by omega, by go_num, HD, B2⟩
      case measure => simp [RowKit.intOf]; omega
    ·have hd := HD.out
     rw [List.drop_eq_nil_of_le (by rw [HM.out]; omega)] at hd
     have hd2 : r = true := by rw [← hd]; rfl
     subst hd2
     clear HR HD hd
     go_wp2
     go_ret
     exact ⟨rfl, HBW.out⟩
section
variable {V w : World} {F : List Nat} {p : Value} {N : Nat} {R S : List (Int × Tm)} {cb c : Nat}
theorem fits_below {x : Tm} (hg : goodT x = true) : fitsB N x = belowB N x := by
 unfold fitsB belowB
 rw [hg, Bool.true_and]
 rw [Bool.eq_iff_iff, List.all_eq_true, List.all_eq_true]
 have hp := occ_pos x (good_parts hg).2.2
 constructor
 ·intro h m hm
  have := h m hm
  simp only [Bool.and_eq_true, decide_eq_true_eq] at this ⊢
  exact this.2
 ·intro h m hm
  have := h m hm
  have := hp m hm
  simp only [Bool.and_eq_true, decide_eq_true_eq] at *
  exact ⟨by assumption, by assumption⟩
set_option maxHeartbeats 4000000 in
theorem ufits_at (h : IsB V F w p N R) {x : Tm} {v : Value} (hv : TmV w x v) : Calls Try.prog 114 #[p, v] w fun e w' => e = .returned (.bool (fitsB N x)) ∧ Below w.heap.size w w' := by
 have hN := h.tri.2
 obtain ⟨k, n, s, a, m, c, rfl⟩ := hv.full
 obtain ⟨w1, e1, B1, z1, X1⟩ := box_new w #[.int .i64 k, .int .i64 n, .string s, .slice a m c] 31
 obtain ⟨x0, x1, x2, x3, _⟩ := X1.four
 have HE := Lib.hid e1
 have HB1 := Lib.hid B1
 have HG := Lib.hid (fun (wq : World) (hb : Below w1.heap.size w1 wq) => Good_at x wq _ (TmV.ext (Ext.trans' B1 hb) _ _ hv))
 have HW := Lib.hid (fun (wq : World) (hb : Below w1.heap.size w1 wq) => within_at _ x (Nat.le_refl _) N (by unfold I64; omega) wq _ (TmV.ext (Ext.trans' B1 hb) _ _ hv))
 have HL := Lib.hid (fun (wq : World) (hb : Below w1.heap.size w1 wq) => Len_at (h.ext (Ext.trans' B1 hb)))
 cases hg : goodT x
 ·have hr : fitsB N x = false := by unfold fitsB; rw [hg]; rfl
  rw [hr]
  rw [hg] at HG
  clear h hv hr hg B1 z1 X1 e1
  go_enter Try.func114, Try.ntmps114
  go_upto_region 1 with fail
  (try rw [HE.out])
  (refine wp_region_class (fun w' => (w'.cell? ⟨w.heap.size, 0, none⟩ = some (.int .i64 k) ∧ w'.cell? ⟨w.heap.size, 1, none⟩ = some (.int .i64 n) ∧ w'.cell? ⟨w.heap.size, 2, none⟩ = some (.string s) ∧ w'.cell? ⟨w.heap.size, 3, none⟩ = some (.slice a m c)) ∧ Below w1.heap.size w1 w') (by kernel_rfl) (by kernel_rfl) (⟨⟨x0, x1, x2, x3⟩, (Below.refl _ _).drew⟩) ?_; (repeat (first | go_big_quiet_skip | (go_big_quiet_want; refine quiet_of ?_; apply Exists.intro; refine ⟨fun wq hq => ?_, ?_⟩; (focus ((try dsimp only at hq); go_simp; (first | done | with_reducible rfl | ((first | (go_at_call 27; refine (HG.out wq hq.2).mono ?_; rintro e w6 ⟨rfl, h6⟩; exact ⟨rfl, ⟨cell_later h6 hq.1.1, cell_later h6 hq.1.2.1, cell_later h6 hq.1.2.2.1, cell_later h6 hq.1.2.2.2⟩, Below.trans hq.2 (h6.mono hq.2.size)⟩) | fail)) | fail))); try simp only [Act.put, lay4]; go_big_quiet_on) | fail)); refine wpQuiet_nil ?_; intro wz hz)
  go_wp2
  go_ret
  exact ⟨rfl, Ext.trans' HB1.out hz.2⟩
 ·rw [fits_below hg]
  rw [hg] at HG
  clear h hv hg B1 z1 X1 e1
  go_enter Try.func114, Try.ntmps114
  go_upto_region 1 with fail
  (try rw [HE.out])
  (refine wp_region_class (fun w' => (w'.cell? ⟨w.heap.size, 0, none⟩ = some (.int .i64 k) ∧ w'.cell? ⟨w.heap.size, 1, none⟩ = some (.int .i64 n) ∧ w'.cell? ⟨w.heap.size, 2, none⟩ = some (.string s) ∧ w'.cell? ⟨w.heap.size, 3, none⟩ = some (.slice a m c)) ∧ Below w1.heap.size w1 w') (by kernel_rfl) (by kernel_rfl) (⟨⟨x0, x1, x2, x3⟩, (Below.refl _ _).drew⟩) ?_; (repeat (first | go_big_quiet_skip | (go_big_quiet_want; refine quiet_of ?_; apply Exists.intro; refine ⟨fun wq hq => ?_, ?_⟩; (focus ((try dsimp only at hq); go_simp; (first | done | with_reducible rfl | ((first | (go_at_call 27; refine (HG.out wq hq.2).mono ?_; rintro e w6 ⟨rfl, h6⟩; exact ⟨rfl, ⟨cell_later h6 hq.1.1, cell_later h6 hq.1.2.1, cell_later h6 hq.1.2.2.1, cell_later h6 hq.1.2.2.2⟩, Below.trans hq.2 (h6.mono hq.2.size)⟩) | (go_at_call 139; refine (HL.out wq hq.2).mono ?_; rintro e w6 ⟨rfl, rfl⟩; exact ⟨rfl, hq⟩) | (go_at_call 138; refine (HW.out wq hq.2).mono ?_; rintro e w6 ⟨rfl, h6⟩; exact ⟨rfl, ⟨cell_later h6 hq.1.1, cell_later h6 hq.1.2.1, cell_later h6 hq.1.2.2.1, cell_later h6 hq.1.2.2.2⟩, Below.trans hq.2 (h6.mono hq.2.size)⟩) | fail)) | fail))); try simp only [Act.put, lay4]; go_big_quiet_on) | fail)); refine wpQuiet_nil ?_; intro wz hz)
  go_wp2
  go_ret
  exact ⟨rfl, Ext.trans' HB1.out hz.2⟩
end
end Go.Proofs.Ytchbbaehdcmcfaa
/- Package unify: Both. -/
namespace Go.Proofs.Ytchbbaehdcmcfaa
open Go.RowKit
set_option linter.unusedVariables false
structure BRes where
 ok : Bool
 cost : Nat
 err : Int
 set : List (Int × Tm)
def endB (S : List (Int × Tm)) (r : URes) : BRes := if 2000 < r.cost then ⟨false, 0, 12, S⟩ else ⟨r.ok, r.cost, 0, if r.ok = true then r.set else S⟩
def bothB (N : Nat) (S : List (Int × Tm)) (x y : Tm) : BRes := if (fitsB N x && fitsB N y) = true then endB S (uniT 2000 S x y 0) else ⟨false, 0, 1, S⟩
def BothP (V : World) (F : List Nat) (w : World) (p : Value) (N : Nat) (b : BRes) (e : Ending) (w' : World) : Prop :=
 ∃ F' R', e = .returned (.tuple #[.bool b.ok, .int .i64 b.cost, .int .i64 b.err]) ∧ IsB V F' w' p N R' ∧ Sync R' b.set ∧ Touch F w w' ∧ ∀ k ∈ F', k ∈ F ∨ w.heap.size ≤ k
section
variable {V w : World} {F : List Nat} {p : Value} {N : Nat} {R S : List (Int × Tm)} {cb c : Nat}
set_option maxHeartbeats 8000000 in
set_option maxRecDepth 100000 in
theorem Both_at (h : IsB V F w p N R) (hs : Sync R S) {x y : Tm} {vx vy : Value} (hx : TmV V x vx) (hy : TmV V y vy) : Calls Try.prog 86 #[p, vx, vy] w (BothP V F w p N (bothB N S x y)) := by
 obtain ⟨bt, rfl⟩ : ∃ bt, p = .pointer (some ⟨bt, 0, none⟩) := by obtain ⟨bt, _, _, _, rfl, _⟩ := h.open; exact ⟨bt, rfl⟩
 obtain ⟨kx, nx, sx, ax, mx, cx, rfl, f1, f2, f3, fv⟩ := four_of hx
 obtain ⟨ky, ny, sy, ay, my, cy, rfl, g1, g2, g3, gv⟩ := four_of hy
 obtain ⟨w1, e1, B1, z1, X1⟩ := box_new w #[.int .i64 kx, .int .i64 nx, .string sx, .slice ax mx cx] 31
 obtain ⟨w2, e2, B2, z2, X2⟩ := box_new w1 #[.int .i64 ky, .int .i64 ny, .string sy, .slice ay my cy] 31
 have hb2 := Ext.trans' B1 B2
 have X1 := X1.ext B2
 rw [z1] at X2
 obtain ⟨x0, x1, x2, x3, _⟩ := X1.four
 obtain ⟨y0, y1, y2, y3, _⟩ := X2.four
 have HI := Lib.hid (And.intro h hs)
 have HE := Lib.hid (And.intro e1 e2)
 have HB2 := Lib.hid (And.intro hb2 (And.intro X1 X2))
 have HXY := Lib.hid (And.intro hx hy)
 have HFX := Lib.hid (fun (wq : World) (hb : Below w.heap.size w wq) => ufits_at (h.ext hb) (TmV.stay (h.see.1.later hb) _ _ hx))
 have HFY := Lib.hid (fun (wq : World) (hb : Below w.heap.size w wq) => ufits_at (h.ext hb) (TmV.stay (h.see.1.later hb) _ _ hy))
 clear h hs hx hy B1 B2 X1 X2 hb2 z1 z2 e1 e2 f1 f2 f3 fv g1 g2 g3 gv
 cases hfx : fitsB N x
 ·have hr : bothB N S x y = ⟨false, 0, 1, S⟩ := by unfold bothB; rw [hfx]; rfl
  rw [hr]
  rw [hfx] at HFX
  clear hr hfx
  go_enter Try.func86, Try.ntmps86
  go_upto_region 1 with fail
  (try rw [HE.out.1, HE.out.2])
  have C := HFX.out w2 HB2.out.1
  (go_wp2_with fail; go_fit (C); rintro e w3 ⟨rfl, b3⟩)
  have HB3 := Lib.hid (HB2.out.1.trans (b3.mono HB2.out.1.size))
  clear C b3
  go_wp2
  go_ret3
  exact ⟨F, R, rfl, HI.out.1.ext HB3.out, HI.out.2, Touch.of_below HB3.out F, fun k hk => Or.inl hk⟩
 ·rw [hfx] at HFX
  cases hfy : fitsB N y
  ·have hr : bothB N S x y = ⟨false, 0, 1, S⟩ := by unfold bothB; rw [hfx, hfy]; rfl
   rw [hr]
   rw [hfy] at HFY
   clear hr hfx hfy
   go_enter Try.func86, Try.ntmps86
   go_upto_region 1 with fail
   (try rw [HE.out.1, HE.out.2])
   have C := HFX.out w2 HB2.out.1
   (go_wp2_with fail; go_fit (C); rintro e w3 ⟨rfl, b3⟩)
   have HB3 := Lib.hid (HB2.out.1.trans (b3.mono HB2.out.1.size))
   obtain ⟨y0, y1, y2, y3, _⟩ := (HB2.out.2.2.ext b3).four
   have C := HFY.out w3 HB3.out
   clear b3
   (go_wp2_with fail; go_fit (C); rintro e w4 ⟨rfl, b4⟩)
   have HB4 := Lib.hid (HB3.out.trans (b4.mono HB3.out.size))
   clear C b4
   go_wp2
   go_ret3
   exact ⟨F, R, rfl, HI.out.1.ext HB4.out, HI.out.2, Touch.of_below HB4.out F, fun k hk => Or.inl hk⟩
  ·rw [hfy] at HFY
   have hT := HI.out.1.tri
   have hok := OkS.of_tri hT.1 hT.2 HI.out.2
   have hpost := uni_post 2000 S x y 0 hok (fits_in hfx) (fits_in hfy) (by omega) (by omega)
   obtain ⟨r, hr⟩ : ∃ r, uniT 2000 S x y 0 = r := ⟨_, rfl⟩
   rw [hr] at hpost
   have hbo : bothB N S x y = endB S r := by unfold bothB; rw [hfx, hfy, hr]; rfl
   rw [hbo]
   have HPO := Lib.hid (And.intro hpost (And.intro hr (And.intro hfx hfy)))
   have hRl : R.length = S.length := HI.out.2.len
   have HRL := Lib.hid hRl
   clear hpost hr hbo hfx hfy hok hT hRl
   go_enter Try.func86, Try.ntmps86
   go_upto_region 1 with fail
   (try rw [HE.out.1, HE.out.2])
   have C := HFX.out w2 HB2.out.1
   (go_wp2_with fail; go_fit (C); rintro e w3 ⟨rfl, b3⟩)
   have HB3 := Lib.hid (HB2.out.1.trans (b3.mono HB2.out.1.size))
   have HX3 := Lib.hid (And.intro (HB2.out.2.1.ext b3) (HB2.out.2.2.ext b3))
   clear x0 x1 x2 x3 y0 y1 y2 y3
   obtain ⟨y0, y1, y2, y3, _⟩ := HX3.out.2.four
   have C := HFY.out w3 HB3.out
   clear b3
   (go_wp2_with fail; go_fit (C); rintro e w4 ⟨rfl, b4⟩)
   have HB4 := Lib.hid (HB3.out.trans (b4.mono HB3.out.size))
   have HX4 := Lib.hid (And.intro (HX3.out.1.ext b4) (HX3.out.2.ext b4))
   clear C b4 y0 y1 y2 y3
   have C := Mark_at (HI.out.1.ext HB4.out)
   (go_wp2_with fail; go_fit (C); rintro e w5 ⟨rfl, rfl⟩)
   clear C
   obtain ⟨w6, e6, b6, z6, x6⟩ := box_new w4 #[.pointer (some ⟨bt, 0, none⟩), .int .i64 0] 173
   have HB6 := Lib.hid (HB4.out.trans (b6.mono HB4.out.size))
   have HX6 := Lib.hid (And.intro (HX4.out.1.ext b6) (And.intro (HX4.out.2.ext b6) x6))
   have HE6 := Lib.hid e6
   obtain ⟨x0, x1, x2, x3, _⟩ := HX6.out.1.four
   obtain ⟨y0, y1, y2, y3, _⟩ := HX6.out.2.1.four
   have hcF : ¬ w4.heap.size ∈ F := fun hm => by have := HI.out.1.lt _ hm; have := HB4.out.size; omega
   have C := pair_all V 2000 w6 F _ N R S w4.heap.size 0 x y _ _ (HI.out.1.ext HB6.out) HI.out.2 HX6.out.2.2 hcF (Blind.new HI.out.1.see.1 (fun k hk => by simp at hk; have := HB4.out.size; omega)) HXY.out.1 HXY.out.2 HPO.out.2.2.1 HPO.out.2.2.2 (by omega) (by omega)
   rw [HPO.out.2.1] at C
   have HCF := Lib.hid hcF
   clear b6 z6 x6 e6 hcF
   go_upto_region 5 with fail
   (try rw [HE6.out])
   (go_wp2_with fail; go_fit (C); rintro e w7 ⟨F7, R7, rfl, i7, s7, b7, t7, in7⟩)
   have hb64 : w.heap.size ≤ w4.heap.size := HB4.out.size
   have H7 := Lib.hid (show IsB V F7 w7 (.pointer (some ⟨bt, 0, none⟩)) N R7 ∧ Sync R7 r.set ∧ Box w7 w4.heap.size [.pointer (some ⟨bt, 0, none⟩), .int .i64 r.cost] ∧ Touch F w w7 ∧ (∀ k ∈ F7, k ∈ F ∨ w.heap.size ≤ k) ∧ ¬ w4.heap.size ∈ F7 from
    ⟨i7, s7, b7, (Touch.of_below HB6.out F).trans t7 (fun k hk => (List.mem_cons.1 hk).elim (fun e => Or.inr (by omega)) Or.inl), fun k hk => (in7 k hk).imp id (fun q => Nat.le_trans HB6.out.size q), fun hm => (in7 _ hm).elim HCF.out (fun q => by have := HX6.out.2.2.lt; omega)⟩)
   clear i7 s7 b7 t7 in7 C x0 x1 x2 x3 y0 y1 y2 y3 hb64
   obtain ⟨ok, hok⟩ : ∃ ok, r.ok = ok := ⟨_, rfl⟩
   obtain ⟨q, hq⟩ : ∃ q, r.cost = q := ⟨_, rfl⟩
   rw [hok]
   rw [hq] at H7
   have HOK := Lib.hid (And.intro hok hq)
   clear hok hq
   cases ok
   ·obtain ⟨D, hD⟩ := HPO.out.1.more
    have hl : R7.length = S.length + D.length := by rw [H7.out.2.1.len, hD, List.length_append, Nat.add_comm]
    have C := Undo_yes H7.out.1 S.length D.length hl
    have hsy : Sync (R7.drop D.length) S := by
     have := H7.out.2.1.drop D.length
     rw [hD, List.drop_left] at this
     exact this
    have HSY := Lib.hid hsy
    clear hsy hl hD
    rw [HRL.out]
    (go_wp2_with fail; go_fit (C); rintro e w8 ⟨rfl, i8, t8⟩)
    have H8 := Lib.hid (And.intro i8 (And.intro (t8.box H7.out.2.2.2.2.2 H7.out.2.2.1) (H7.out.2.2.2.1.trans t8 H7.out.2.2.2.2.1)))
    have d1 := H8.out.2.1.cells 1 _ rfl
    clear i8 t8 C
    by_cases hbig : 2000 < q
    ·have hbig2 : (2000 : Int) < q := by omega
     have hE : endB S r = ⟨false, 0, 12, S⟩ := by unfold endB; rw [HOK.out.2, if_pos hbig]
     have HEE := Lib.hid hE
     clear hE
     go_wp2
     go_ret3
     rw [HEE.out]
     exact ⟨F7, _, rfl, H8.out.1, HSY.out, H8.out.2.2, H7.out.2.2.2.2.1⟩
    ·have hbig2 : ¬ (2000 : Int) < q := by omega
     have hE : endB S r = ⟨false, q, 0, S⟩ := by unfold endB; rw [HOK.out.2, if_neg hbig, HOK.out.1]; rfl
     have HEE := Lib.hid hE
     clear hE
     go_wp2_with fail
     go_quiet (fail)
     go_wp2
     go_ret3
     rw [HEE.out]
     exact ⟨F7, _, rfl, H8.out.1.ext (belN (Below.refl _ _) nq), HSY.out, H8.out.2.2.then (belN (Below.refl _ _) nq), H7.out.2.2.2.2.1⟩
   ·have hbig : ¬ 2000 < q := by have := (HPO.out.1.made HOK.out.1).2; rw [HOK.out.2] at this; omega
    have hbig2 : ¬ (2000 : Int) < q := by omega
    have hE : endB S r = ⟨true, q, 0, r.set⟩ := by unfold endB; rw [HOK.out.2, if_neg hbig, HOK.out.1]; rfl
    have HEE := Lib.hid hE
    have d1 := H7.out.2.2.1.cells 1 _ rfl
    clear hE
    go_wp2_with fail
    go_quiet (fail)
    go_wp2
    go_ret3
    rw [HEE.out]
    exact ⟨F7, _, rfl, H7.out.1.ext (belN (Below.refl _ _) nq), H7.out.2.1, H7.out.2.2.2.1.then (belN (Below.refl _ _) nq), H7.out.2.2.2.2.1⟩
end
end Go.Proofs.Ytchbbaehdcmcfaa
