import Derived.Test.YtchbbaehdcmcfaaHsozz
import Derived.Test.YtchbbaehdcmcfaaHsoaz
import Derived.Test.YtchbbaehdcmcfaaHsoan
import Derived.Test.YtchbbaehdcmcfaaHsoam
import Derived.Test.YtchbbaehdcmcfaaHsoao
import Derived.Test.YtchbbaehdcmcfaaHsoaq
set_option linter.unusedVariables false
set_option linter.unusedSimpArgs false
/- The document's side of chapter 12: stands, walked. -/
namespace Go.Proofs.Ytchbbaehdcmcfaa
open Go.RowKit
set_option linter.unusedVariables false
def UniR (V : World) (F : List Nat) (w : World) (p : Value) (N : Nat) (cb : Nat) (r : URes) (e : Ending) (w' : World) : Prop :=
 ∃ F' R', e = .returned (.bool r.ok) ∧ IsR V F' w' p N R' ∧ Sync R' r.set ∧ Box w' cb [.int .i64 r.cost] ∧ Touch (cb :: F) w w' ∧ ∀ k ∈ F', k ∈ F ∨ w.heap.size ≤ k
section
variable {V w : World} {F : List Nat} {p : Value} {N : Nat} {R S : List (Int × Tm)} {cb c : Nat}
set_option maxHeartbeats 8000000 in
set_option maxRecDepth 100000 in
theorem rstands_at (h : IsR V F w p N R) (hs : Sync R S) (hcb : Box w cb [.int .i64 c]) (hcF : ¬ cb ∈ F) (hcV : Blind V [cb]) {n : Nat} (hn : n < N) (gn : getB R n = none) {y : Tm} {vy : Value} (hy : TmV V y vy) (hg : goodT y = true) (hr : ∀ m ∈ occT y, 0 ≤ m ∧ m < (N : Int)) (hc : c ≤ 2000) :
  Calls Try.prog 106 #[p, .int .i64 n, vy, .pointer (some ⟨cb, 0, none⟩)] w (UniR V F w p N cb (standB S n (subT (fullB S) y) c)) := by
 obtain ⟨hT, hN⟩ := h.tri
 obtain ⟨M, hM⟩ : ∃ M, 2000 - c = M := ⟨_, rfl⟩
 have hsub : (2000 : Int) - (c : Int) = (M : Int) := by omega
 have hM2 : M ≤ 2000 := by omega
 have hwM : IntKind.i64.wrap (M : Int) = (M : Int) := by rw [IntKind.wrap_i64]; omega
 have hft : fitsB N y = true := fitsB_true.2 ⟨hg, hr⟩
 obtain ⟨b, m, hh⟩ : ∃ b m, hasF n M (subT (fullB S) y) 0 = (b, m) := ⟨_, _, rfl⟩
 have hml : m ≤ M + 1 := by
  have := hasF_max n M (subT (fullB S) y) 0 (by omega)
  rw [hh] at this
  exact this
 have hst : standB S n (subT (fullB S) y) c = ⟨!b, if b = true then S else ((n : Int), subT (fullB S) y) :: S, c + m⟩ := by
  unfold standB
  rw [hM, hh]
 rw [hst]
 have hfo := subfull_formed hN hT (good_parts hg).2.2 hr
 have hidem := full_idem hN hT (good_parts hg).2.2 hr
 rw [hs.full] at hfo hidem
 have hset : b = false → setB N R n y = 0 := fun hb => by
  subst hb
  have h1 := hasF_false _ 0 m hh
  have h2 := hasF_mem (n := n) (M := M) (subT (fullB S) y) 0 hfo
  rw [hh] at h2
  refine set_free (by omega) (by omega) hft gn fun q => ?_
  rw [hs.full] at q
  have := (h2 h1.1).2 q
  simp at this
 obtain ⟨q, hq⟩ : ∃ q, c + m = q := ⟨_, rfl⟩
 have hsum : (c : Int) + (m : Int) = (q : Int) := by omega
 have hwq : IntKind.i64.wrap (q : Int) = (q : Int) := by rw [IntKind.wrap_i64]; omega
 rw [hq]
 obtain ⟨ky, ny, sy, ay, my, cy, rfl, fk, fn, fs, fv⟩ := four_of hy
 obtain ⟨w1, e1, B1, z1, X1⟩ := box_new w #[.int .i64 ky, .int .i64 ny, .string sy, .slice ay my cy] 54
 obtain ⟨w2, e2, B2, z2, X2⟩ := box_new w1 #[.int .i64 0] 3
 have hb2 := Ext.trans' B1 B2
 have X1 := X1.ext B2
 rw [z1] at X2
 have hcb2 := hcb.ext hb2
 have HB2 := Lib.hid (And.intro hb2 (And.intro X1 (And.intro X2 hcb2)))
 have HI := Lib.hid (And.intro h (And.intro hs hcb))
 have HE := Lib.hid (And.intro e1 e2)
 have HSET := Lib.hid (And.intro hset hidem)
 obtain ⟨y0, y1, y2, y3, _⟩ := X1.four
 have d0 := hcb2.cells 0 _ rfl
 have hcl := hcb.lt
 have hkF : ¬ (w.heap.size + 1) ∈ F := fun hm => by have := h.lt _ hm; omega
 have HCF := Lib.hid (And.intro hcF (And.intro hcV (And.intro hy (And.intro hcl hkF))))
 have HHA := Lib.hid (fun (wq : World) (hb : Below w.heap.size w wq) (hx : Box wq (w.heap.size + 1) [.int .i64 (0 : Nat)]) => rhas_at (V := V) (F := F) (p := p) (N := N) (R := R) (n := n) (M := M) (cb := w.heap.size + 1) (by omega) (by unfold I64; omega) hkF (Blind.new h.see.1 (fun k hk => by simp at hk; omega)) _ y (Nat.lt_succ_self _) wq _ 0 (h.ext hb) hy hg hr hx (by omega))
 rw [hs.full, hh] at HHA
 have hnN := hn
 clear h hs hcb B1 B2 X1 X2 hb2 z1 z2 hcb2 e1 e2 hcF hcV fk fn fs fv hset hidem hfo hst hml hh hft gn hg hr hT hM hq hcl hy hkF
 go_enter Try.func106, Try.ntmps106
 go_upto_region 2 with fail
 (try rw [HE.out.1])
 (try rw [HE.out.2])
 refine wp_region_held_drew (S := fun w' => w'.cell? ⟨cb, 0, none⟩ = some (.int .i64 c) ∧ w'.cell? ⟨w.heap.size, 0, none⟩ = some (.int .i64 ky) ∧ w'.cell? ⟨w.heap.size, 1, none⟩ = some (.int .i64 ny) ∧ w'.cell? ⟨w.heap.size, 2, none⟩ = some (.string sy) ∧ w'.cell? ⟨w.heap.size, 3, none⟩ = some (.slice ay my cy)) (by kernel_rfl) ⟨d0, y0, y1, y2, y3⟩ (fun hHeld => ?_)
 first | (refine held_t (i := 0) hHeld ?_; constructor; constructor; intro wq hq; focus ((try dsimp only at hq); go_simp; first | done | with_reducible rfl | fail)) | refine held_s (i := 0) hHeld ?_ | fail
 first | (refine held_t (i := 1) hHeld ?_; constructor; constructor; intro wq hq; focus ((try dsimp only at hq); go_simp; first | done | with_reducible rfl | fail)) | refine held_s (i := 1) hHeld ?_ | fail
 first | (refine held_t (i := 2) hHeld ?_; constructor; constructor; intro wq hq; focus ((try dsimp only at hq); go_simp; first | done | with_reducible rfl | fail)) | refine held_s (i := 2) hHeld ?_ | fail
 first | (refine held_t (i := 3) hHeld ?_; constructor; constructor; intro wq hq; focus ((try dsimp only at hq); go_simp; first | done | with_reducible rfl | fail)) | refine held_s (i := 3) hHeld ?_ | fail
 try simp only [Act.put, lay4]
 first | (refine held_t (i := 4) hHeld ?_; constructor; constructor; intro wq hq; focus ((try dsimp only at hq); go_simp; first | done | with_reducible rfl | fail)) | refine held_s (i := 4) hHeld ?_ | fail
 first | (refine held_t (i := 5) hHeld ?_; constructor; constructor; intro wq hq; focus ((try dsimp only at hq); go_simp; first | done | with_reducible rfl | fail)) | refine held_s (i := 5) hHeld ?_ | fail
 first | (refine held_t (i := 6) hHeld ?_; constructor; constructor; intro wq hq; focus ((try dsimp only at hq); go_simp; first | done | with_reducible rfl | fail)) | refine held_s (i := 6) hHeld ?_ | fail
 try simp only [Act.put, lay4]
 refine held_c 7 fun K hK => ?_
 go_simp
 (go_at_call 125; refine (HHA.out _ HB2.out.1.drew (HB2.out.2.2.1.ext (Below.refl _ _).drew)).mono ?_; rintro e w6 ⟨rfl, bx6, t6⟩; have HX6 := Lib.hid (show Box w6 (w.heap.size + 1) [.int .i64 m] ∧ Box w6 w.heap.size [.int .i64 ky, .int .i64 ny, .string sy, .slice ay my cy] ∧ Box w6 cb [.int .i64 c] ∧ Below w.heap.size w w6 from ⟨bx6, t6.box (by simp) (HB2.out.2.1.ext (Below.refl _ _).drew), t6.box (by have := HCF.out.2.2.2.1; simp; omega) (HB2.out.2.2.2.ext (Below.refl _ _).drew), Touch.own HB2.out.1.drew t6 (fun k hk => by simp at hk; omega)⟩))
 refine hK.out _ _ (⟨HX6.out.2.2.1.cells 0 _ rfl, HX6.out.2.1.cells 0 _ rfl, HX6.out.2.1.cells 1 _ rfl, HX6.out.2.1.cells 2 _ rfl, HX6.out.2.1.cells 3 _ rfl⟩) (fun hHeld => ?_)
 clear hK K
 try simp only [Act.put, lay4]
 clear bx6 t6
 first | (refine held_t (i := 8) hHeld ?_; constructor; constructor; intro wq hq; focus ((try dsimp only at hq); go_simp; first | done | with_reducible rfl | fail)) | refine held_s (i := 8) hHeld ?_ | fail
 try simp only [Act.put, lay4]
 refine wpAnyH_done (by kernel_rfl) ?_ _
 clear hHeld d0 y0 y1 y2 y3
 go_upto_region 3 with fail
 have d0 := HX6.out.2.2.1.cells 0 _ rfl
 have df := HX6.out.2.2.1.fz
 have k0 := HX6.out.1.cells 0 _ rfl
 have hne : w.heap.size + 1 ≠ cb := by have := HCF.out.2.2.2.1; omega
 refine wp_region_held_drew (S := fun w' => w'.cell? ⟨w.heap.size + 1, 0, none⟩ = some (.int .i64 m)) (by kernel_rfl) k0 (fun hHeld => ?_)
 first | (refine held_t (i := 0) hHeld ?_; constructor; constructor; intro wq hq; focus ((try dsimp only at hq); go_simp; first | done | with_reducible rfl | fail)) | refine held_s (i := 0) hHeld ?_ | fail
 first | (refine held_t (i := 1) hHeld ?_; constructor; constructor; intro wq hq; focus ((try dsimp only at hq); go_simp; first | done | with_reducible rfl | fail)) | refine held_s (i := 1) hHeld ?_ | fail
 first | (refine held_t (i := 2) hHeld ?_; constructor; constructor; intro wq hq; focus ((try dsimp only at hq); go_simp; first | done | with_reducible rfl | fail)) | refine held_s (i := 2) hHeld ?_ | fail
 first | (refine held_t (i := 4) hHeld ?_; constructor; constructor; intro wq hq; focus ((try dsimp only at hq); go_simp; first | done | with_reducible rfl | fail)) | refine held_s (i := 4) hHeld ?_ | fail
 try simp only [Act.put, lay4]
 refine held_c 3 fun K hK => ?_
 go_simp
 skip
 refine hK.out _ _ (hHeld) (fun hHeld => ?_)
 clear hK K
 try simp only [Act.put, lay4]
 first | (refine held_t (i := 5) hHeld ?_; constructor; constructor; intro wq hq; focus ((try dsimp only at hq); go_simp; first | done | with_reducible rfl | fail)) | refine held_s (i := 5) hHeld ?_ | fail
 first | (refine held_t (i := 6) hHeld ?_; constructor; constructor; intro wq hq; focus ((try dsimp only at hq); go_simp; first | done | with_reducible rfl | fail)) | refine held_s (i := 6) hHeld ?_ | fail
 try simp only [Act.put, lay4]
 refine held_c 7 fun K hK => ?_
 go_simp
 skip
 refine hK.out _ _ (((far_cell hne).trans hHeld)) (fun hHeld => ?_)
 clear hK K
 try simp only [Act.put, lay4]
 refine wpAnyH_done (by kernel_rfl) ?_ _
 obtain ⟨w7, e7⟩ : ∃ w7, (w6.setCell ⟨cb, 0, none⟩ (.int .i64 q)).drew = w7 := ⟨_, rfl⟩
 have hb6 : Below w.heap.size w w6.drew := HX6.out.2.2.2.drew
 have hb7 : Box w7 cb [.int .i64 q] := by rw [← e7]; exact (HX6.out.2.2.1.set (k := 0) (by simp)).ext (Below.refl _ _).drew
 have t7 : Touch [cb] w6 w7 := by rw [← e7]; exact (touch_one w6 cb 0 _).then (Below.refl _ _).drew
 have hy7 : Box w7 w.heap.size [.int .i64 ky, .int .i64 ny, .string sy, .slice ay my cy] := by rw [← e7]; exact (HX6.out.2.1.far (by have := HCF.out.2.2.2.1; omega)).ext (Below.refl _ _).drew
 have h7 : IsR V F w7 p N R := (HI.out.1.ext HX6.out.2.2.2).touch t7 (fun k hk hm => by simp at hk; subst hk; exact HCF.out.1 hm) HCF.out.2.1
 have H7 := Lib.hid (And.intro h7 (And.intro hb7 (show Touch (cb :: F) w w7 from ((Touch.of_below HX6.out.2.2.2 (cb :: F)).trans t7 (fun k hk => by simp at hk; subst hk; exact Or.inl (by simp))))))
 have HE7 := Lib.hid e7
 have HX7 := Lib.hid hy7
 clear hb7 t7 hy7 h7 e7 hHeld d0 df k0 hb6
 cases b
 ·have hs0 := HSET.out.1 rfl
  have HS0 := Lib.hid hs0
  have CS := rbind_at H7.out.1 hnN HCF.out.2.2.1 (Tri.setx H7.out.1.tri.1 hs0)
  clear hs0
  obtain ⟨y0, y1, y2, y3, _⟩ := HX7.out.four
  go_upto_region 4 with fail
  (try rw [HE7.out])
  (go_wp2_with fail; go_fit (CS); rintro e w8 ⟨F8, rfl, h8, t8, in8⟩)
  have H8 := Lib.hid (And.intro h8 (And.intro t8 in8))
  clear h8 t8 in8 y0 y1 y2 y3
  go_wp2
  go_ret
  refine ⟨F8, _, rfl, H8.out.1, ⟨HI.out.2.1, rfl, ?_⟩, H8.out.2.1.box HCF.out.1 H7.out.2.1, H7.out.2.2.trans (H8.out.2.1.sub (F' := cb :: F) (fun k hk => List.mem_cons_of_mem _ hk)) (fun k hk => Or.inl hk), fun k hk => (H8.out.2.2 k hk).imp id (fun h => Nat.le_trans H7.out.2.2.size h)⟩
  show subT (fullB R) y = subT (fullB S) (subT (fullB S) y)
  rw [HSET.out.2, HI.out.2.1.full]
 ·go_upto_region 4 with fail
  (try rw [HE7.out])
  go_wp2
  go_ret
  exact ⟨F, R, rfl, H7.out.1, HI.out.2.1, H7.out.2.1, H7.out.2.2, fun k hk => Or.inl hk⟩
end
end Go.Proofs.Ytchbbaehdcmcfaa
/- The document's side of chapter 12: pair, walked. -/
namespace Go.Proofs.Ytchbbaehdcmcfaa
open Go.RowKit
set_option linter.unusedVariables false
def PairR (V : World) (K : Nat) : Prop := ∀ (w : World) (F : List Nat) (p : Value) (N : Nat) (R S : List (Int × Tm)) (cb c : Nat) (x y : Tm) (vx vy : Value), IsR V F w p N R → Sync R S → Box w cb [.int .i64 c] → ¬ cb ∈ F → Blind V [cb] →
 TmV V x vx → TmV V y vy → fitsB N x = true → fitsB N y = true → c ≤ 2000 → 2000 ≤ K + c → Calls Try.prog 72 #[p, vx, vy, .pointer (some ⟨cb, 0, none⟩)] w (UniR V F w p N cb (uniT K S x y c))
theorem UniR.from {V w w7 w' : World} {F : List Nat} {p : Value} {N cb : Nat} {r : URes} {e : Ending} (t : Touch (cb :: F) w w7) (h : UniR V F w7 p N cb r e w') : UniR V F w p N cb r e w' := by
 obtain ⟨F', R', rfl, h1, h2, h3, h4, h5⟩ := h
 exact ⟨F', R', rfl, h1, h2, h3, t.trans h4 (fun k hk => Or.inl hk), fun k hk => (h5 k hk).imp id (fun q => Nat.le_trans t.size q)⟩
def PairRI (V w7 : World) (F : List Nat) (p : Value) (N : Nat) (S : List (Int × Tm)) (cb q K' : Nat) (ts1 ts2 : List Tm) (RES : URes) (j : Nat) (wr : World) : Prop :=
 ∃ F' R' S' c', IsR V F' wr p N R' ∧ Sync R' S' ∧ Resp N (fullB S') (fullB S) ∧ Box wr cb [.int .i64 (c' : Nat)] ∧ Touch (cb :: F) w7 wr ∧ (∀ k ∈ F', k ∈ F ∨ w7.heap.size ≤ k) ∧ (q ≤ c' ∧ c' ≤ 2000) ∧ uniL (uniT K') S' ((subL (fullB S) ts1).drop j) ((subL (fullB S) ts2).drop j) c' = RES
section
variable {V w : World} {F : List Nat} {p : Value} {N : Nat} {R S : List (Int × Tm)} {cb c K : Nat}
set_option maxHeartbeats 8000000 in
set_option maxRecDepth 100000 in
theorem rpair_step (ih : ∀ K', K = K' + 1 → PairR V K') : PairR V K := by
 intro w F p N R S cb c x y vx vy h hs hcb hcF hcV hx hy fx fy hc hK
 obtain ⟨hT, hN⟩ := h.tri
 obtain ⟨q, hq⟩ : ∃ q, c + 1 = q := ⟨_, rfl⟩
 have hsum : (c : Int) + 1 = (q : Int) := by omega
 have hwq : IntKind.i64.wrap (q : Int) = (q : Int) := by rw [IntKind.wrap_i64]; omega
 obtain ⟨kx, nx, sx, ax, mx, cx, rfl, f1, f2, f3, fv⟩ := four_of hx
 obtain ⟨ky, ny, sy, ay, my, cy, rfl, g1, g2, g3, gv⟩ := four_of hy
 obtain ⟨w1, e1, B1, z1, X1⟩ := box_new w #[.int .i64 kx, .int .i64 nx, .string sx, .slice ax mx cx] 54
 obtain ⟨w2, e2, B2, z2, X2⟩ := box_new w1 #[.int .i64 ky, .int .i64 ny, .string sy, .slice ay my cy] 54
 have hb2 := Ext.trans' B1 B2
 have X1 := X1.ext B2
 rw [z1] at X2
 have hcl := hcb.lt
 have HX3 := Lib.hid (And.intro X1 X2)
 have HI := Lib.hid (And.intro h (And.intro hs hcb))
 have HE := Lib.hid (And.intro e1 e2)
 have HB2 := Lib.hid hb2
 have HCF := Lib.hid (And.intro hcF (And.intro hcV (And.intro hx (And.intro hy (And.intro fx (And.intro fy hcl))))))
 have HC := Lib.hid (And.intro hc (And.intro hK (And.intro hq (And.intro hT hN))))
 have hq2 : q ≤ 2001 := by omega
 have hWX := Lib.hid (fun (wq : World) (hb : Below w.heap.size w wq) => RWalk_at (h.ext hb) hx (fitsB_true.1 fx).1 (fitsB_true.1 fx).2)
 have hWY := Lib.hid (fun (wq : World) (hb : Below w.heap.size w wq) => RWalk_at (h.ext hb) hy (fitsB_true.1 fy).1 (fitsB_true.1 fy).2)
 have IH := Lib.hid ih
 obtain ⟨RES, hRES⟩ : ∃ r, uniT K S x y c = r := ⟨_, rfl⟩
 rw [hRES]
 have HRES := Lib.hid hRES
 have hlt : w.heap.size < w2.heap.size ∧ w.heap.size + 1 < w2.heap.size := ⟨X1.lt, X2.lt⟩
 obtain ⟨x0, x1, x2, x3, _⟩ := X1.four
 clear ih hRES h hs hcb B1 B2 X1 X2 hb2 z1 z2 e1 e2 hcF hcV hx hy fx fy f1 f2 f3 fv g1 g2 g3 gv hT hN hc hK hq
 go_enter Try.func72, Try.ntmps72
 go_upto_region 1 with fail
 rw [HE.out.1, HE.out.2]
 refine g_begin (B := fun w' => (∀ j, w'.frozen? ⟨w.heap.size, j, none⟩ = false) ∧ (∀ j, w'.frozen? ⟨w.heap.size + 1, j, none⟩ = false)) (C := fun w' => w'.cell? ⟨w.heap.size + 1, 0, none⟩ = some (.int .i64 ky) ∧ w'.cell? ⟨w.heap.size + 1, 1, none⟩ = some (.int .i64 ny) ∧ w'.cell? ⟨w.heap.size + 1, 2, none⟩ = some (.string sy) ∧ w'.cell? ⟨w.heap.size + 1, 3, none⟩ = some (.slice ay my cy)) 7 (by kernel_rfl) ⟨HX3.out.1.fz, HX3.out.2.fz⟩ ⟨HX3.out.2.cells 0 _ rfl, HX3.out.2.cells 1 _ rfl, HX3.out.2.cells 2 _ rfl, HX3.out.2.cells 3 _ rfl⟩ (fun hHB hHC => ?_)
 refine g_tb (i := 0) ⟨hHB, fun _ => hHC⟩ ?_; apply Exists.intro; refine ⟨fun wq hq => ?_, ?_⟩; (focus ((try dsimp only at hq); go_simp; (first | done | with_reducible rfl | fail)))
 refine g_tb (i := 3) ⟨hHB, fun _ => hHC⟩ ?_; apply Exists.intro; refine ⟨fun wq hq => ?_, ?_⟩; (focus ((try dsimp only at hq); go_simp; (first | done | with_reducible rfl | fail)))
 refine g_tc (i := 4) ⟨hHB, fun _ => hHC⟩ ?_; apply Exists.intro; refine ⟨fun wq hq => ?_, ?_⟩; (focus ((try dsimp only at hq); go_simp; (first | done | with_reducible rfl | fail)))
 try simp only [Act.put, lay4]
 refine g_ready (rs := [1]) (by kernel_rfl) (by simp) ?_
 refine AllReadyG.cons (by simp only [ops3]; rfl) (fun K hK => ?_) AllReadyG.nil
 go_simp
 skip
 refine hK.out _ _ ⟨hHB, fun _ => hHC⟩ (fun hHeld => ?_)
 replace hHB := hHeld.1
 replace hHC := hHeld.2 (by kernel_rfl)
 dsimp only at hHB hHC
 clear hHeld hK K
 try simp only [Act.put, lay4]
 clear x0 x1 x2 x3
 try simp only [Act.put, lay4]
 refine g_ready (rs := [2]) (by kernel_rfl) (by simp) ?_
 refine AllReadyG.cons (by simp only [ops3]; rfl) (fun K hK => ?_) AllReadyG.nil
 go_simp
 (go_at_call 104; refine (hWX.out _ HB2.out.drew).mono ?_; rintro e w4 ⟨x', v4, rfl, hx', hwk, htop, b4⟩; obtain ⟨k1, n1, s1, ts1, a1, L1, c1, rfl, hL1, rfl, hTs1, hL1c, hc1m⟩ := shape_of hx'; have HX4 := Lib.hid (And.intro hx' (And.intro hwk (And.intro htop (And.intro hL1 hTs1)))); have HB4 := Lib.hid (show Below w2.heap.size w2 w4 from (Below.refl w2.heap.size w2).drew.trans (b4.mono (Below.refl w2.heap.size w2).drew.size)); have hb4 : Below w2.drew.heap.size w2.drew w4 := b4; clear hx' hwk htop hL1 hTs1 b4)
 refine hK.out _ _ ⟨⟨fun j => (hb4.frozen (p := ⟨w.heap.size, j, none⟩) hlt.1).trans (hHB.1 j), fun j => (hb4.frozen (p := ⟨w.heap.size + 1, j, none⟩) hlt.2).trans (hHB.2 j)⟩, fun _ => ⟨cell_later hb4 hHC.1, cell_later hb4 hHC.2.1, cell_later hb4 hHC.2.2.1, cell_later hb4 hHC.2.2.2⟩⟩ (fun hHeld => ?_)
 replace hHB := hHeld.1
 replace hHC := hHeld.2 (by kernel_rfl)
 dsimp only at hHB hHC
 clear hHeld hK K
 try simp only [Act.put, lay4]
 clear hb4
 try simp only [Act.put, lay4]
 refine g_ready (rs := [5]) (by kernel_rfl) (by simp) ?_
 refine AllReadyG.cons (by simp only [ops3]; rfl) (fun K hK => ?_) AllReadyG.nil
 go_simp
 (go_at_call 104; refine (hWY.out _ (HB2.out.trans (HB4.out.mono HB2.out.size))).mono ?_; rintro e w6 ⟨y', v6, rfl, hx', hwk, htop, hb6⟩; obtain ⟨k2, n2, s2, ts2, a2, L2, c2, rfl, hL1, rfl, hTs1, hL2c, hc2m⟩ := shape_of hx'; have HY6 := Lib.hid (And.intro hx' (And.intro hwk (And.intro htop (And.intro hL1 hTs1)))); have HB6 := Lib.hid (HB4.out.trans (hb6.mono HB4.out.size)); have hlt4 : w.heap.size < w4.heap.size ∧ w.heap.size + 1 < w4.heap.size := (by have := HB4.out.size; omega); clear hx' hwk htop hL1 hTs1)
 refine hK.out _ _ ⟨⟨fun j => (hb6.frozen (p := ⟨w.heap.size, j, none⟩) hlt4.1).trans (hHB.1 j), fun j => (hb6.frozen (p := ⟨w.heap.size + 1, j, none⟩) hlt4.2).trans (hHB.2 j)⟩, fun _ => ⟨cell_later hb6 hHC.1, cell_later hb6 hHC.2.1, cell_later hb6 hHC.2.2.1, cell_later hb6 hHC.2.2.2⟩⟩ (fun hHeld => ?_)
 replace hHB := hHeld.1
 replace hHC := hHeld.2 (by kernel_rfl)
 dsimp only at hHB hHC
 clear hHeld hK K
 try simp only [Act.put, lay4]
 clear hb6
 obtain ⟨x0, x1, x2, x3, _⟩ := (HX3.out.1.ext HB6.out).four
 have ne54 : w.heap.size + 1 ≠ w.heap.size := (by omega)
 try simp only [Act.put, lay4]
 refine g_ready (rs := [6]) (by kernel_rfl) (by simp) ?_
 refine AllReadyG.cons (by simp only [ops3]; rfl) (fun K hK => ?_) AllReadyG.nil
 go_simp
 skip
 refine hK.out _ _ ⟨⟨fun j => (four_froz _).trans (hHB.1 j), fun j => (four_froz _).trans (hHB.2 j)⟩, fun _ => ⟨(sfour_far ne54).trans hHC.1, (sfour_far ne54).trans hHC.2.1, (sfour_far ne54).trans hHC.2.2.1, (sfour_far ne54).trans hHC.2.2.2⟩⟩ (fun hHeld => ?_)
 replace hHB := hHeld.1
 replace hHC := hHeld.2 (by kernel_rfl)
 dsimp only at hHB hHC
 clear hHeld hK K
 try simp only [Act.put, lay4]
 clear x0 x1 x2 x3
 try simp only [Act.put, lay4]
 refine g_ready (rs := [7]) (by kernel_rfl) (by simp) ?_
 refine AllReadyG.cons (by simp only [ops3]; rfl) (fun K hK => ?_) AllReadyG.nil
 go_simp
 skip
 refine hK.out _ _ ⟨⟨fun j => (four_froz _).trans (hHB.1 j), fun j => (four_froz _).trans (hHB.2 j)⟩, (fun h => absurd h (by decide +kernel))⟩ (fun hHeld => ?_)
 replace hHB := hHeld.1
 dsimp only at hHB
 clear hHeld hK K
 try simp only [Act.put, lay4]
 refine g_done (by kernel_rfl) ?_ _
 obtain ⟨w7, e7⟩ : ∃ w7, set4 (set4 w6 w.heap.size (.int .i64 k1) (.int .i64 n1) (.string s1) (.slice a1 L1 c1)) (w.heap.size + 1) (.int .i64 k2) (.int .i64 n2) (.string s2) (.slice a2 L2 c2) = w7 := ⟨_, rfl⟩
 have hBw : Below w.heap.size w w6 := HB2.out.trans (HB6.out.mono HB2.out.size)
 have hcl := HCF.out.2.2.2.2.2.2
 have hb4 : Box w7 w.heap.size [.int .i64 k1, .int .i64 n1, .string s1, .slice a1 L1 c1] := by
  rw [← e7]
  exact (((((((((HX3.out.1.ext HB6.out).set (k := 0) (by simp)).set (k := 1) (by simp)).set (k := 2) (by simp)).set (k := 3) (by simp)).far (by omega)).far (by omega)).far (by omega)).far (by omega))
 have hb5 : Box w7 (w.heap.size + 1) [.int .i64 k2, .int .i64 n2, .string s2, .slice a2 L2 c2] := by
  rw [← e7]
  exact (((((((((HX3.out.2.ext HB6.out).far (by omega)).far (by omega)).far (by omega)).far (by omega)).set (k := 0) (by simp)).set (k := 1) (by simp)).set (k := 2) (by simp)).set (k := 3) (by simp))
 have hb7 : Box w7 cb [.int .i64 c] := by
  rw [← e7]
  exact (((((((((HI.out.2.2.ext hBw).far (by omega)).far (by omega)).far (by omega)).far (by omega)).far (by omega)).far (by omega)).far (by omega)).far (by omega))
 have t7 : Touch (cb :: F) w w7 := by
  rw [← e7]
  exact ((Touch.of_below hBw (cb :: F)).four (Nat.le_refl _) _ _ _ _).four (Nat.le_succ _) _ _ _ _
 have h7 : IsR V F w7 p N R := by
  have hA : ∀ k ∈ [w.heap.size, w.heap.size + 1], ¬ k ∈ F := fun k hk hm => by have := HI.out.1.lt _ hm; simp at hk; omega
  refine (HI.out.1.ext hBw).touch (T := [w.heap.size, w.heap.size + 1]) ?_ hA (Blind.new HI.out.1.see.1 (fun k hk => by simp at hk; omega))
  rw [← e7]
  exact ((touch_four w6 w.heap.size _ _ _ _).sub (fun k hk => by simp at hk; simp [hk])).trans (touch_four _ (w.heap.size + 1) _ _ _ _) (fun k hk => by simp at hk; simp [hk])
 have H7a := Lib.hid (And.intro h7 (And.intro hb7 (And.intro t7 (And.intro hb4 hb5))))
 dsimp only [set4, set3] at e7
 (try rw [e7])
 clear e7 h7 hb7 t7 hb4 hb5 hHB ne54 hlt hlt4 hBw
 go_upto_region 2 with fail
 have d1 := H7a.out.2.1.cells 0 _ rfl
 have df := H7a.out.2.1.fz
 obtain ⟨w8, e8⟩ : ∃ w8, w7.setCell ⟨cb, 0, none⟩ (.int .i64 q) = w8 := ⟨_, rfl⟩
 have hne4 : w.heap.size ≠ cb := by omega
 have hne5 : w.heap.size + 1 ≠ cb := by omega
 have H7 := Lib.hid (show IsR V F w8 p N R ∧ Box w8 cb [.int .i64 q] ∧ Touch (cb :: F) w w8 ∧ Box w8 w.heap.size [.int .i64 k1, .int .i64 n1, .string s1, .slice a1 L1 c1] ∧ Box w8 (w.heap.size + 1) [.int .i64 k2, .int .i64 n2, .string s2, .slice a2 L2 c2] from by
  rw [← e8]
  exact ⟨H7a.out.1.touch (touch_one w7 cb 0 _) (fun k hk hm => by simp at hk; subst hk; exact HCF.out.1 hm) HCF.out.2.1, H7a.out.2.1.set (k := 0) (by simp), H7a.out.2.2.1.trans (touch_one w7 cb 0 _) (fun k hk => by simp at hk; subst hk; exact Or.inl (by simp)), H7a.out.2.2.2.1.far hne4, H7a.out.2.2.2.2.far hne5⟩)
 have HE8 := Lib.hid e8
 go_upto_region 3 with fail
 (try rw [HE8.out])
 clear d1 df e8 H7a hne4 hne5 hcl
 have d1 := H7.out.2.1.cells 0 _ rfl
 obtain ⟨x0, x1, x2, x3, xf⟩ := H7.out.2.2.2.1.four
 obtain ⟨y0, y1, y2, y3, yf⟩ := H7.out.2.2.2.2.four
 by_cases hbig : 2000 < q
 ·have hbig2 : (2000 : Int) < q := by omega
  have hU : RES = ⟨false, S, q⟩ := by
   have hq := HC.out.2.2.1
   rw [← HRES.out]
   cases K with
   | zero => rw [uniT, hq]
   | succ K => rw [uniT, if_pos (by omega), hq]
  have HU := Lib.hid (show UniR V F w p N cb RES (.returned (.bool false)) w8 from by rw [hU]; exact ⟨F, R, rfl, H7.out.1, HI.out.2.1, H7.out.2.1, H7.out.2.2.1, fun k hk => Or.inl hk⟩)
  clear hU
  go_wp2
  go_ret
  exact HU.out
 ·have hbig2 : ¬ (2000 : Int) < q := by omega
  obtain ⟨K', rfl⟩ : ∃ K', K = K' + 1 := ⟨K - 1, by have := HC.out.1; have := HC.out.2.1; have := HC.out.2.2.1; omega⟩
  have IH := Lib.hid (IH.out K' rfl)
  have hU : RES = uniW (uniT K') S (.mk k1 n1 s1 (subL (fullB S) ts1)) (.mk k2 n2 s2 (subL (fullB S) ts2)) q := by
   have hq := HC.out.2.2.1
   rw [← HRES.out, uniT, if_neg (by omega), whole_top HI.out.2.1 HX4.out.2.1 HX4.out.2.2.1, whole_top HI.out.2.1 HY6.out.2.1 HY6.out.2.2.1, hq]
  have hq3 : q ≤ 2000 := by omega
  by_cases hk1 : k1 = 0
  ·subst hk1
   obtain ⟨rfl, rfl⟩ := var_parts HX4.out.2.1.good
   obtain rfl : L1 = 0 := HX4.out.2.2.2.1.symm
   have hr1 := HX4.out.2.1.rng n1 (by rw [occ_var]; simp)
   have hg1 : getB R n1 = none := HX4.out.2.2.1 rfl
   obtain ⟨u1, rfl⟩ : ∃ u1 : Nat, n1 = (u1 : Int) := ⟨n1.toNat, by omega⟩
   have hu1 : u1 < N := by omega
   rw [uniW, if_pos rfl] at hU
   by_cases hk2 : k2 = 0
   ·subst hk2
    rw [if_pos rfl] at hU
    obtain ⟨rfl, rfl⟩ := var_parts HY6.out.2.1.good
    obtain rfl : L2 = 0 := HY6.out.2.2.2.1.symm
    have hr2 := HY6.out.2.1.rng n2 (by rw [occ_var]; simp)
    have hg2 : getB R n2 = none := HY6.out.2.2.1 rfl
    obtain ⟨u2, rfl⟩ : ∃ u2 : Nat, n2 = (u2 : Int) := ⟨n2.toNat, by omega⟩
    have hu2 : u2 < N := by omega
    unfold joinB at hU
    by_cases heq : u1 = u2
    ·subst heq
     rw [if_pos rfl] at hU
     have HU := Lib.hid (show UniR V F w p N cb RES (.returned (.bool true)) w8 from by rw [hU]; exact ⟨F, R, rfl, H7.out.1, HI.out.2.1, H7.out.2.1, H7.out.2.2.1, fun k hk => Or.inl hk⟩)
     have hlt1 : ¬ (u1 : Int) < (u1 : Int) := by omega
     clear hU hr1 hr2 hg1 hg2 hu1 hu2
     go_wp2
     go_ret
     exact HU.out
    ·have hne : ¬ ((u1 : Int) = (u2 : Int)) := by omega
     rw [if_neg hne] at hU
     have hNN := HC.out.2.2.2.2
     by_cases hgt : u2 < u1
     ·have hgt2 : (u2 : Int) < (u1 : Int) := by omega
      have hgt3 : ¬ (u1 : Int) < (u2 : Int) := by omega
      rw [Int.max_eq_left (by omega), Int.min_eq_right (by omega)] at hU
      have hset : setB N R u1 (varV u2) = 0 := set_free (by omega) (by omega) (fits_var (by omega) (by omega) hNN) hg1 (by rw [sub_varV, free_full hg2, occ_varV]; simp; omega)
      have C := rbind_at H7.out.1 hu1 (x := varV (u2 : Int)) HY6.out.1 (Tri.setx H7.out.1.tri.1 hset)
      have HU := Lib.hid hU
      clear hU hr1 hr2 hg1 hg2 hu1 hu2 hset hne hNN
      (go_wp2_with fail; go_fit (C); rintro e w9 ⟨F9, rfl, i9, t9, in9⟩)
      have H9 := Lib.hid (show UniR V F w8 p N cb RES (.returned (.bool true)) w9 from by rw [HU.out]; exact ⟨F9, _, rfl, i9, HI.out.2.1.set rfl, t9.box HCF.out.1 H7.out.2.1, t9.sub (fun k hk => List.mem_cons_of_mem _ hk), in9⟩)
      clear i9 t9 in9 C
      go_wp2
      go_ret
      exact UniR.from H7.out.2.2.1 H9.out
     ·have hgt2 : (u1 : Int) < (u2 : Int) := by omega
      have hgt3 : ¬ (u2 : Int) < (u1 : Int) := by omega
      rw [Int.max_eq_right (by omega), Int.min_eq_left (by omega)] at hU
      have hset : setB N R u2 (varV u1) = 0 := set_free (by omega) (by omega) (fits_var (by omega) (by omega) hNN) hg2 (by rw [sub_varV, free_full hg1, occ_varV]; simp; omega)
      have C := rbind_at H7.out.1 hu2 (x := varV (u1 : Int)) HX4.out.1 (Tri.setx H7.out.1.tri.1 hset)
      have HU := Lib.hid hU
      clear hU hr1 hr2 hg1 hg2 hu1 hu2 hset hne hNN
      (go_wp2_with fail; go_fit (C); rintro e w9 ⟨F9, rfl, i9, t9, in9⟩)
      have H9 := Lib.hid (show UniR V F w8 p N cb RES (.returned (.bool true)) w9 from by rw [HU.out]; exact ⟨F9, _, rfl, i9, HI.out.2.1.set rfl, t9.box HCF.out.1 H7.out.2.1, t9.sub (fun k hk => List.mem_cons_of_mem _ hk), in9⟩)
      clear i9 t9 in9 C
      go_wp2
      go_ret
      exact UniR.from H7.out.2.2.1 H9.out
   ·rw [if_neg hk2] at hU
    have hk2' : (k2 == 0) = false := by simpa using hk2
    have C := rstands_at H7.out.1 HI.out.2.1 H7.out.2.1 HCF.out.1 HCF.out.2.1 hu1 hg1 HY6.out.1 HY6.out.2.1.good HY6.out.2.1.rng hq3
    rw [sub_not _ hk2] at C
    clear hr1 hg1 hu1
    rw [← hU] at C
    clear hU
    (go_wp2_with fail; go_fit (C); rintro e w9 ⟨F8, R8, rfl, i8, s8, b8, t8, in8⟩)
    have H8 := Lib.hid (show UniR V F w8 p N cb RES (.returned (.bool RES.ok)) w9 from ⟨F8, R8, rfl, i8, s8, b8, t8, in8⟩)
    clear i8 s8 b8 t8 in8 C
    go_wp2
    go_ret
    exact UniR.from H7.out.2.2.1 H8.out
  ·have hk1' : (k1 == 0) = false := by simpa using hk1
   rw [uniW, if_neg hk1] at hU
   by_cases hk2 : k2 = 0
   ·subst hk2
    rw [if_pos rfl] at hU
    obtain ⟨rfl, rfl⟩ := var_parts HY6.out.2.1.good
    obtain rfl : L2 = 0 := HY6.out.2.2.2.1.symm
    have hr2 := HY6.out.2.1.rng n2 (by rw [occ_var]; simp)
    have hg2 : getB R n2 = none := HY6.out.2.2.1 rfl
    obtain ⟨u2, rfl⟩ : ∃ u2 : Nat, n2 = (u2 : Int) := ⟨n2.toNat, by omega⟩
    have hu2 : u2 < N := by omega
    have C := rstands_at H7.out.1 HI.out.2.1 H7.out.2.1 HCF.out.1 HCF.out.2.1 hu2 hg2 HX4.out.1 HX4.out.2.1.good HX4.out.2.1.rng hq3
    rw [sub_not _ hk1] at C
    clear hr2 hg2 hu2
    rw [← hU] at C
    clear hU
    (go_wp2_with fail; go_fit (C); rintro e w9 ⟨F8, R8, rfl, i8, s8, b8, t8, in8⟩)
    have H8 := Lib.hid (show UniR V F w8 p N cb RES (.returned (.bool RES.ok)) w9 from ⟨F8, R8, rfl, i8, s8, b8, t8, in8⟩)
    clear i8 s8 b8 t8 in8 C
    go_wp2
    go_ret
    exact UniR.from H7.out.2.2.1 H8.out
   ·rw [if_neg hk2] at hU
    have hk2' : (k2 == 0) = false := by simpa using hk2
    have HNO := Lib.hid (show UniR V F w p N cb ⟨false, S, q⟩ (.returned (.bool false)) w8 from ⟨F, R, rfl, H7.out.1, HI.out.2.1, H7.out.2.1, H7.out.2.2.1, fun k hk => Or.inl hk⟩)
    by_cases g1 : k1 = k2
    ·subst g1
     by_cases g2 : n1 = n2
     ·subst g2
      by_cases g3 : s1 = s2
      ·subst g3
       by_cases g4 : L1 = L2
       ·subst g4
        rw [if_pos ⟨rfl, rfl, rfl, by rw [subL_len, subL_len, HX4.out.2.2.2.1, HY6.out.2.2.2.1]⟩] at hU
        have HTS := Lib.hid (And.intro HX4.out.2.2.2.2 HY6.out.2.2.2.2)
        have HLL := Lib.hid (And.intro HX4.out.2.2.2.1 HY6.out.2.2.2.1)
        have HFI := Lib.hid (show ∀ (z : Tm), z ∈ ts1 ∨ z ∈ ts2 → fitsB N z = true from fun z hz => hz.elim (fun h => fits_arg hk1 HX4.out.2.1.good HX4.out.2.1.rng h) (fun h => fits_arg hk1 HY6.out.2.1.good HY6.out.2.1.rng h))
        have HST := Lib.hid (show PairRI V w8 F p N S cb q K' ts1 ts2 RES 0 w8 from ⟨F, R, S, q, H7.out.1, HI.out.2.1, (OkS.of_tri HC.out.2.2.2.1 HC.out.2.2.2.2 HI.out.2.1).resp, H7.out.2.1, Touch.refl' _ _, fun k hk => Or.inl hk, ⟨Nat.le_refl _, hq3⟩, hU.symm⟩)
        have HKQ := Lib.hid (show 2000 ≤ K' + q ∧ c + 1 = q ∧ w.heap.size + 1 < w8.heap.size by have h1 := HC.out.2.1; have h2 := HC.out.2.2.1; have h3 := H7.out.2.2.2.2.lt; exact ⟨by omega, h2, h3⟩)
        clear hU HNO hbig hbig2 hsum hwq
        unfold maxLen at hc1m
        go_wp2_with fail
        go_loopw [9] (fun z wr => ∃ j : Nat, j ≤ L1 ∧ z = .int .i64 j ∧ Hid (PairRI V w8 F p N S cb q K' ts1 ts2 RES j wr)) (fun z _ => L1 - (RowKit.intOf z).toNat)
        case atStart => exact ⟨0, Nat.zero_le _, rfl, HST⟩
        case round =>
         obtain ⟨j, hj, rfl, HP⟩ := hrel
         clear HST x0 x1 x2 x3 y0 y1 y2 y3 xf yf
         obtain ⟨F', R', S', c', i8, s8, r8, b8, t8, in8, ⟨hc1, hc2⟩, hres⟩ := HP.out
         have hcl2 := HCF.out.2.2.2.2.2.2
         have hn : ∀ k, k < w8.heap.size → ¬ k ∈ F → k ≠ cb → ¬ k ∈ cb :: F' := fun k h1 h2 h3 hm => by
          rcases List.mem_cons.1 hm with e | hm
          ·exact h3 e
          ·rcases in8 k hm with h | h
           ·exact h2 h
           ·omega
         have hn4 := hn w.heap.size (by have := HKQ.out.2.2; omega) (fun hm => by have := HI.out.1.lt _ hm; omega) (by omega)
         have hn5 := hn (w.heap.size + 1) HKQ.out.2.2 (fun hm => by have := HI.out.1.lt _ hm; omega) (by omega)
         have hncb : ¬ cb ∈ F' := fun hm => (in8 _ hm).elim HCF.out.1 (fun h => by have := HKQ.out.2.2; omega)
         have hcF4 : ¬ w.heap.size ∈ cb :: F := fun hm => by
          rcases List.mem_cons.1 hm with e | hm
          ·omega
          ·have := HI.out.1.lt _ hm; omega
         have hcF5 : ¬ (w.heap.size + 1) ∈ cb :: F := fun hm => by
          rcases List.mem_cons.1 hm with e | hm
          ·omega
          ·have := HI.out.1.lt _ hm; omega
         have x3 := (t8.box hcF4 H7.out.2.2.2.1).cells 3 _ rfl
         have y3 := (t8.box hcF5 H7.out.2.2.2.2).cells 3 _ rfl
         by_cases hjL : j < L1
         ·have hjL2 : (j : Int) < L1 := by omega
          obtain ⟨xj, hxj⟩ : ∃ z, ts1[j]? = some z := ⟨_, List.getElem?_eq_getElem (by rw [HLL.out.1]; exact hjL)⟩
          obtain ⟨yj, hyj⟩ : ∃ z, ts2[j]? = some z := ⟨_, List.getElem?_eq_getElem (by rw [HLL.out.2]; exact hjL)⟩
          obtain ⟨ba, oa, ka, na, sa, va, rfl, _, _, _, _, p0, p1, p2, p3, _, ptm⟩ := HTS.out.1.get hxj
          obtain ⟨bb, ob, kb, nb, sb, vb, rfl, _, _, _, _, q0, q1, q2, q3, _, qtm⟩ := HTS.out.2.get hyj
          obtain ⟨r, hr⟩ : ∃ r, uniT K' S' xj yj c' = r := ⟨_, rfl⟩
          have fxj := HFI.out xj (Or.inl (List.mem_of_getElem? hxj))
          have fyj := HFI.out yj (Or.inr (List.mem_of_getElem? hyj))
          rw [sub_drop hxj, sub_drop hyj, uniL, uni_whole r8 (fits_in fxj).2 (fits_in fyj).2, hr] at hres
          have hpost := uni_post K' S' xj yj c' (OkS.of_tri i8.tri.1 i8.tri.2 s8) (fits_in fxj) (fits_in fyj) hc2 (by have := HKQ.out.1; omega)
          rw [hr] at hpost
          have HPO := Lib.hid hpost
          have HRS := Lib.hid hres
          have HPV := Lib.hid (And.intro p0 (And.intro p1 (And.intro p2 (And.intro p3 (And.intro q0 (And.intro q1 (And.intro q2 q3)))))))
          have HC9 := Lib.hid (fun (wq : World) (hb : Below wr.heap.size wr wq) => IH.out wq F' p N R' S' cb c' xj yj _ _ (i8.ext hb) s8 (b8.ext hb) hncb HCF.out.2.1 ptm qtm fxj fyj hc2 (by have := HKQ.out.1; omega))
          rw [hr] at HC9
          have a0 := i8.see.1.2 _ _ p0
          have a1 := i8.see.1.2 _ _ p1
          have a2 := i8.see.1.2 _ _ p2
          have a3 := i8.see.1.2 _ _ p3
          have b0 := i8.see.1.2 _ _ q0
          have b1 := i8.see.1.2 _ _ q1
          have b2 := i8.see.1.2 _ _ q2
          have b3 := i8.see.1.2 _ _ q3
          have HW := Lib.hid (And.intro i8 (And.intro s8 (And.intro r8 (And.intro t8 (And.intro in8 (And.intro hc1 hc2))))))
          have HNN := Lib.hid (And.intro hn4 hn5)
          clear hres hpost hr p0 p1 p2 p3 q0 q1 q2 q3 ptm qtm fxj fyj hxj hyj i8 s8 r8 b8 t8 in8 hc1 hc2 hn hn4 hn5 hncb hcF4 hcF5 HP hcl2
          go_wp2_with fail
          refine wp_region_held_drew (S := fun w' => w'.cell? ⟨w.heap.size, 3, none⟩ = some (.slice (some ⟨ba, oa, none⟩) L1 c1) ∧ w'.cell? ⟨w.heap.size + 1, 3, none⟩ = some (.slice (some ⟨bb, ob, none⟩) L1 c2) ∧ w'.cell? ⟨ba, oa + j * 4, none⟩ = some (.int .i64 ka) ∧ w'.cell? ⟨ba, oa + j * 4 + 1, none⟩ = some (.int .i64 na) ∧ w'.cell? ⟨ba, oa + j * 4 + 2, none⟩ = some (.string sa) ∧ w'.cell? ⟨ba, oa + j * 4 + 3, none⟩ = some va ∧ w'.cell? ⟨bb, ob + j * 4, none⟩ = some (.int .i64 kb) ∧ w'.cell? ⟨bb, ob + j * 4 + 1, none⟩ = some (.int .i64 nb) ∧ w'.cell? ⟨bb, ob + j * 4 + 2, none⟩ = some (.string sb) ∧ w'.cell? ⟨bb, ob + j * 4 + 3, none⟩ = some vb) (by kernel_rfl) ⟨x3, y3, a0, a1, a2, a3, b0, b1, b2, b3⟩ (fun hHeld => ?_)
          first | (refine held_t (i := 0) hHeld ?_; constructor; constructor; intro wq hq; focus ((try dsimp only at hq); go_simp; first | done | with_reducible rfl | fail)) | refine held_s (i := 0) hHeld ?_ | fail
          first | (refine held_t (i := 1) hHeld ?_; constructor; constructor; intro wq hq; focus ((try dsimp only at hq); go_simp; first | done | with_reducible rfl | fail)) | refine held_s (i := 1) hHeld ?_ | fail
          first | (refine held_t (i := 2) hHeld ?_; constructor; constructor; intro wq hq; focus ((try dsimp only at hq); go_simp; first | done | with_reducible rfl | fail)) | refine held_s (i := 2) hHeld ?_ | fail
          first | (refine held_t (i := 3) hHeld ?_; constructor; constructor; intro wq hq; focus ((try dsimp only at hq); go_simp; first | done | with_reducible rfl | fail)) | refine held_s (i := 3) hHeld ?_ | fail
          first | (refine held_t (i := 4) hHeld ?_; constructor; constructor; intro wq hq; focus ((try dsimp only at hq); go_simp; first | done | with_reducible rfl | fail)) | refine held_s (i := 4) hHeld ?_ | fail
          first | (refine held_t (i := 5) hHeld ?_; constructor; constructor; intro wq hq; focus ((try dsimp only at hq); go_simp; first | done | with_reducible rfl | fail)) | refine held_s (i := 5) hHeld ?_ | fail
          try simp only [Act.put, lay4]
          first | (refine held_t (i := 6) hHeld ?_; constructor; constructor; intro wq hq; focus ((try dsimp only at hq); go_simp; first | done | with_reducible rfl | fail)) | refine held_s (i := 6) hHeld ?_ | fail
          first | (refine held_t (i := 7) hHeld ?_; constructor; constructor; intro wq hq; focus ((try dsimp only at hq); go_simp; first | done | with_reducible rfl | fail)) | refine held_s (i := 7) hHeld ?_ | fail
          first | (refine held_t (i := 8) hHeld ?_; constructor; constructor; intro wq hq; focus ((try dsimp only at hq); go_simp; first | done | with_reducible rfl | fail)) | refine held_s (i := 8) hHeld ?_ | fail
          first | (refine held_t (i := 9) hHeld ?_; constructor; constructor; intro wq hq; focus ((try dsimp only at hq); go_simp; first | done | with_reducible rfl | fail)) | refine held_s (i := 9) hHeld ?_ | fail
          first | (refine held_t (i := 10) hHeld ?_; constructor; constructor; intro wq hq; focus ((try dsimp only at hq); go_simp; first | done | with_reducible rfl | fail)) | refine held_s (i := 10) hHeld ?_ | fail
          first | (refine held_t (i := 11) hHeld ?_; constructor; constructor; intro wq hq; focus ((try dsimp only at hq); go_simp; first | done | with_reducible rfl | fail)) | refine held_s (i := 11) hHeld ?_ | fail
          try simp only [Act.put, lay4]
          refine held_c 12 fun K hK => ?_
          go_simp
          (go_at_call 72; refine (HC9.out _ (Below.refl _ _).drew).mono ?_; rintro e w9 ⟨F9, R9, rfl, i9, s9, b9, t9, in9⟩; have H9 := Lib.hid (And.intro i9 (And.intro s9 (And.intro b9 (And.intro t9 in9)))))
          refine hK.out _ _ (⟨t9.cell HNN.out.1 hHeld.1, t9.cell HNN.out.2 hHeld.2.1, i9.see.1.2 _ _ HPV.out.1, i9.see.1.2 _ _ HPV.out.2.1, i9.see.1.2 _ _ HPV.out.2.2.1, i9.see.1.2 _ _ HPV.out.2.2.2.1, i9.see.1.2 _ _ HPV.out.2.2.2.2.1, i9.see.1.2 _ _ HPV.out.2.2.2.2.2.1, i9.see.1.2 _ _ HPV.out.2.2.2.2.2.2.1, i9.see.1.2 _ _ HPV.out.2.2.2.2.2.2.2⟩) (fun hHeld => ?_)
          clear hK K
          try simp only [Act.put, lay4]
          clear i9 s9 b9 t9 in9
          first | (refine held_t (i := 13) hHeld ?_; constructor; constructor; intro wq hq; focus ((try dsimp only at hq); go_simp; first | done | with_reducible rfl | fail)) | refine held_s (i := 13) hHeld ?_ | fail
          try simp only [Act.put, lay4]
          refine wpAnyH_done (by kernel_rfl) ?_ _
          clear hHeld x3 y3 a0 a1 a2 a3 b0 b1 b2 b3
          have hTT : Touch (cb :: F) w8 w9 := ((HW.out.2.2.2.1).then (Below.refl _ _).drew).trans H9.out.2.2.2.1 (fun k hk => by
           rcases List.mem_cons.1 hk with e | hk
           ·exact Or.inl (by rw [e]; simp)
           ·exact (HW.out.2.2.2.2.1 k hk).imp (fun h => List.mem_cons_of_mem _ h) id)
          have hin : ∀ k ∈ F9, k ∈ F ∨ w8.heap.size ≤ k := fun k hk => (H9.out.2.2.2.2 k hk).elim (HW.out.2.2.2.2.1 k) (fun h => Or.inr (Nat.le_trans HW.out.2.2.2.1.size h))
          have HTT := Lib.hid (And.intro hTT hin)
          clear hTT hin
          obtain ⟨ok, hok⟩ : ∃ ok, r.ok = ok := ⟨_, rfl⟩
          rw [hok]
          have HOK := Lib.hid hok
          clear hok
          cases ok
          ·have hE : RES = ⟨false, r.set, r.cost⟩ := by have := HRS.out; rw [if_neg (by rw [HOK.out]; simp)] at this; exact this.symm
           have HE9 := Lib.hid hE
           clear hE
           go_wp2
           go_ret
           rw [HE9.out]
           exact UniR.from H7.out.2.2.1 ⟨F9, R9, rfl, H9.out.1, H9.out.2.1, H9.out.2.2.1, HTT.out.1, HTT.out.2⟩
          ·have hE : uniL (uniT K') r.set ((subL (fullB S) ts1).drop (j + 1)) ((subL (fullB S) ts2).drop (j + 1)) r.cost = RES := by have := HRS.out; rw [if_pos HOK.out] at this; exact this
           have HPI := Lib.hid (show PairRI V w8 F p N S cb q K' ts1 ts2 RES (j + 1) w9 from ⟨F9, R9, r.set, r.cost, H9.out.1, H9.out.2.1, Resp.trans (OkS.of_tri HC.out.2.2.2.1 HC.out.2.2.2.2 HI.out.2.1) HPO.out.resp HW.out.2.2.1, H9.out.2.2.1, HTT.out.1, HTT.out.2, ⟨Nat.le_trans HW.out.2.2.2.2.2.1 HPO.out.cost, (HPO.out.made HOK.out).2⟩, hE⟩)
           clear hE
           go_wp2
           go_roundw
           case rel => exact ⟨j + 1, by omega, by go_num, HPI⟩
           case measure => simp [RowKit.intOf]; omega
         ·have hjL2 : j = L1 := by omega
          subst hjL2
          have hE : RES = ⟨true, S', c'⟩ := by
           rw [← hres, List.drop_eq_nil_of_le (by rw [subL_len, HLL.out.1]; exact Nat.le_refl _), List.drop_eq_nil_of_le (by rw [subL_len, HLL.out.2]; exact Nat.le_refl _), uniL]
           intro x r y q e; cases e
          have HE9 := Lib.hid (And.intro hE (show UniR V F w8 p N cb RES (.returned (.bool true)) wr from by rw [hE]; exact ⟨F', R', rfl, i8, s8, b8, t8, in8⟩))
          clear hE hres i8 s8 r8 b8 t8 in8 hc1 hc2 hn hn4 hn5 hncb hcF4 hcF5 HP hcl2
          go_wp2
          go_ret
          exact UniR.from H7.out.2.2.1 HE9.out.2
       ·rw [if_neg (fun e => g4 (by have := e.2.2.2; rw [subL_len, subL_len] at this; rw [← HX4.out.2.2.2.1, ← HY6.out.2.2.2.1]; exact this))] at hU; rw [← hU] at HNO; clear hU
        have g4' : ((L1 : Int) != L2) = true := by simp; omega
        have g4n : ¬ (L1 : Int) = L2 := by omega
        go_wp2
        go_ret
        exact HNO.out
      ·have hb : (s1.data.toList == s2.data.toList) = false := beq_false_of_ne (fun e => g3 (bytes_eq e))
       rw [if_neg (fun e => g3 (bytes_eq e.2.2.1))] at hU; rw [← hU] at HNO; clear hU
       have g3' : (s1.toList == s2.toList) = false := by rw [Lib.toList_data, Lib.toList_data]; exact hb
       have g3n : ¬ s1.toList = s2.toList := by rw [Lib.toList_data, Lib.toList_data]; exact fun e => g3 (bytes_eq e)
       clear hb
       go_wp2
       go_ret
       exact HNO.out
     ·rw [if_neg (fun e => g2 e.2.1)] at hU; rw [← hU] at HNO; clear hU
      have g2' : (n1 != n2) = true := by simpa using g2
      go_wp2
      go_ret
      exact HNO.out
    ·rw [if_neg (fun e => g1 e.1)] at hU; rw [← hU] at HNO; clear hU
     have g1' : (k1 != k2) = true := by simpa using g1
     go_wp2
     go_ret
     exact HNO.out
end
end Go.Proofs.Ytchbbaehdcmcfaa
/- The document's side of chapter 12: Both, walked. -/
namespace Go.Proofs.Ytchbbaehdcmcfaa
open Go.RowKit
set_option linter.unusedVariables false
theorem rpair_all (V : World) : ∀ K, PairR V K
 | 0 => rpair_step (fun K' h => by cases h)
 | K + 1 => rpair_step (fun K' h => by cases h; exact rpair_all V K)
def RBothP (V : World) (F : List Nat) (w : World) (p : Value) (N : Nat) (b : BRes) (e : Ending) (w' : World) : Prop :=
 ∃ F' R', e = .returned (.tuple #[.bool b.ok, .int .i64 b.cost, .int .i64 b.err]) ∧ IsR V F' w' p N R' ∧ Sync R' b.set ∧ Touch F w w' ∧ ∀ k ∈ F', k ∈ F ∨ w.heap.size ≤ k
section
variable {V w : World} {F : List Nat} {p : Value} {N : Nat} {R S : List (Int × Tm)} {cb c : Nat}
set_option maxHeartbeats 8000000 in
set_option maxRecDepth 100000 in
theorem RBoth_at (h : IsR V F w p N R) (hs : Sync R S) {x y : Tm} {vx vy : Value} (hx : TmV V x vx) (hy : TmV V y vy) : Calls Try.prog 35 #[p, vx, vy] w (RBothP V F w p N (bothB N S x y)) := by
 obtain ⟨bt, _, _, _, _, a3, c3, rfl, hbl, _, _, d2, _⟩ := h.open
 have HD2 := Lib.hid (And.intro hbl d2)
 clear d2 hbl
 obtain ⟨kx, nx, sx, ax, mx, cx, rfl, f1, f2, f3, fv⟩ := four_of hx
 obtain ⟨ky, ny, sy, ay, my, cy, rfl, g1, g2, g3, gv⟩ := four_of hy
 obtain ⟨w1, e1, B1, z1, X1⟩ := box_new w #[.int .i64 kx, .int .i64 nx, .string sx, .slice ax mx cx] 54
 obtain ⟨w2, e2, B2, z2, X2⟩ := box_new w1 #[.int .i64 ky, .int .i64 ny, .string sy, .slice ay my cy] 54
 have hb2 := Ext.trans' B1 B2
 have X1 := X1.ext B2
 rw [z1] at X2
 obtain ⟨x0, x1, x2, x3, _⟩ := X1.four
 obtain ⟨y0, y1, y2, y3, _⟩ := X2.four
 have HI := Lib.hid (And.intro h hs)
 have HE := Lib.hid (And.intro e1 e2)
 have HB2 := Lib.hid (And.intro hb2 (And.intro X1 X2))
 have HXY := Lib.hid (And.intro hx hy)
 have HFX := Lib.hid (fun (wq : World) (hb : Below w.heap.size w wq) => RKnown_at (h.ext hb) (TmV.stay (h.see.1.later hb) _ _ hx))
 have HFY := Lib.hid (fun (wq : World) (hb : Below w.heap.size w wq) => RKnown_at (h.ext hb) (TmV.stay (h.see.1.later hb) _ _ hy))
 clear h hs hx hy B1 B2 X1 X2 hb2 z1 z2 e1 e2 f1 f2 f3 fv g1 g2 g3 gv
 cases hfx : fitsB N x
 ·have hr : bothB N S x y = ⟨false, 0, 1, S⟩ := by unfold bothB; rw [hfx]; rfl
  rw [hr]
  rw [hfx] at HFX
  clear hr hfx
  go_enter Try.func35, Try.ntmps35
  go_upto_region 1 with fail
  (try rw [HE.out.1, HE.out.2])
  have C := HFX.out w2 HB2.out.1
  (go_wp2_with fail; go_fit (C); rintro e w3 ⟨rfl, b3⟩)
  have HB3 := Lib.hid (HB2.out.1.trans (b3.mono HB2.out.1.size))
  clear C b3
  go_wp2
  go_ret3
  exact ⟨F, R, rfl, HI.out.1.ext HB3.out, HI.out.2, Touch.of_below HB3.out F, fun k hk => Or.inl hk⟩
 ·rw [hfx] at HFX
  cases hfy : fitsB N y
  ·have hr : bothB N S x y = ⟨false, 0, 1, S⟩ := by unfold bothB; rw [hfx, hfy]; rfl
   rw [hr]
   rw [hfy] at HFY
   clear hr hfx hfy
   go_enter Try.func35, Try.ntmps35
   go_upto_region 1 with fail
   (try rw [HE.out.1, HE.out.2])
   have C := HFX.out w2 HB2.out.1
   (go_wp2_with fail; go_fit (C); rintro e w3 ⟨rfl, b3⟩)
   have HB3 := Lib.hid (HB2.out.1.trans (b3.mono HB2.out.1.size))
   obtain ⟨y0, y1, y2, y3, _⟩ := (HB2.out.2.2.ext b3).four
   have C := HFY.out w3 HB3.out
   clear b3
   (go_wp2_with fail; go_fit (C); rintro e w4 ⟨rfl, b4⟩)
   have HB4 := Lib.hid (HB3.out.trans (b4.mono HB3.out.size))
   clear C b4
   go_wp2
   go_ret3
   exact ⟨F, R, rfl, HI.out.1.ext HB4.out, HI.out.2, Touch.of_below HB4.out F, fun k hk => Or.inl hk⟩
  ·rw [hfy] at HFY
   have hT := HI.out.1.tri
   have hok := OkS.of_tri hT.1 hT.2 HI.out.2
   have hpost := uni_post 2000 S x y 0 hok (fits_in hfx) (fits_in hfy) (by omega) (by omega)
   obtain ⟨r, hr⟩ : ∃ r, uniT 2000 S x y 0 = r := ⟨_, rfl⟩
   rw [hr] at hpost
   have hbo : bothB N S x y = endB S r := by unfold bothB; rw [hfx, hfy, hr]; rfl
   rw [hbo]
   have HPO := Lib.hid (And.intro hpost (And.intro hr (And.intro hfx hfy)))
   have hRl : R.length = S.length := HI.out.2.len
   have HRL := Lib.hid hRl
   clear hpost hr hbo hfx hfy hok hT hRl
   go_enter Try.func35, Try.ntmps35
   go_upto_region 1 with fail
   (try rw [HE.out.1, HE.out.2])
   have C := HFX.out w2 HB2.out.1
   (go_wp2_with fail; go_fit (C); rintro e w3 ⟨rfl, b3⟩)
   have HB3 := Lib.hid (HB2.out.1.trans (b3.mono HB2.out.1.size))
   have HX3 := Lib.hid (And.intro (HB2.out.2.1.ext b3) (HB2.out.2.2.ext b3))
   clear x0 x1 x2 x3 y0 y1 y2 y3
   obtain ⟨y0, y1, y2, y3, _⟩ := HX3.out.2.four
   have C := HFY.out w3 HB3.out
   clear b3
   (go_wp2_with fail; go_fit (C); rintro e w4 ⟨rfl, b4⟩)
   have HB4 := Lib.hid (HB3.out.trans (b4.mono HB3.out.size))
   have HX4 := Lib.hid (And.intro (HX3.out.1.ext b4) (HX3.out.2.ext b4))
   clear C b4 y0 y1 y2 y3
   obtain ⟨L, hL⟩ : ∃ L, R.length = L := ⟨_, rfl⟩
   have d2 : w4.cell? ⟨bt, 2, none⟩ = some (.slice a3 L c3) := by rw [← hL]; exact cell_later HB4.out HD2.out.2
   have HLL := Lib.hid hL
   clear hL
   obtain ⟨w6, e6, b6, z6, x6⟩ := box_new w4 #[.int .i64 0] 3
   have HB6 := Lib.hid (HB4.out.trans (b6.mono HB4.out.size))
   have HX6 := Lib.hid (And.intro (HX4.out.1.ext b6) (And.intro (HX4.out.2.ext b6) x6))
   have HE6 := Lib.hid e6
   obtain ⟨x0, x1, x2, x3, _⟩ := HX6.out.1.four
   obtain ⟨y0, y1, y2, y3, _⟩ := HX6.out.2.1.four
   have hcF : ¬ w4.heap.size ∈ F := fun hm => by have := HI.out.1.lt _ hm; have := HB4.out.size; omega
   have C := rpair_all V 2000 w6 F _ N R S w4.heap.size 0 x y _ _ (HI.out.1.ext HB6.out) HI.out.2 HX6.out.2.2 hcF (Blind.new HI.out.1.see.1 (fun k hk => by simp at hk; have := HB4.out.size; omega)) HXY.out.1 HXY.out.2 HPO.out.2.2.1 HPO.out.2.2.2 (by omega) (by omega)
   rw [HPO.out.2.1] at C
   have HCF := Lib.hid hcF
   clear b6 z6 x6 e6 hcF
   go_upto_region 5 with fail
   (try rw [HE6.out])
   (go_wp2_with fail; go_fit (C); rintro e w7 ⟨F7, R7, rfl, i7, s7, b7, t7, in7⟩)
   have hb64 : w.heap.size ≤ w4.heap.size := HB4.out.size
   have H7 := Lib.hid (show IsR V F7 w7 (.pointer (some ⟨bt, 0, none⟩)) N R7 ∧ Sync R7 r.set ∧ Box w7 w4.heap.size [.int .i64 r.cost] ∧ Touch F w w7 ∧ (∀ k ∈ F7, k ∈ F ∨ w.heap.size ≤ k) ∧ ¬ w4.heap.size ∈ F7 from
    ⟨i7, s7, b7, (Touch.of_below HB6.out F).trans t7 (fun k hk => (List.mem_cons.1 hk).elim (fun e => Or.inr (by omega)) Or.inl), fun k hk => (in7 k hk).imp id (fun q => Nat.le_trans HB6.out.size q), fun hm => (in7 _ hm).elim HCF.out (fun q => by have := HX6.out.2.2.lt; omega)⟩)
   clear i7 s7 b7 t7 in7 C x0 x1 x2 x3 y0 y1 y2 y3 hb64
   obtain ⟨ok, hok⟩ : ∃ ok, r.ok = ok := ⟨_, rfl⟩
   obtain ⟨q, hq⟩ : ∃ q, r.cost = q := ⟨_, rfl⟩
   rw [hok]
   rw [hq] at H7
   have HOK := Lib.hid (And.intro hok hq)
   clear hok hq
   have d1 := H7.out.2.2.1.cells 0 _ rfl
   cases ok
   ·obtain ⟨D, hD⟩ := HPO.out.1.more
    have hl : R7.length = S.length + D.length := by rw [H7.out.2.1.len, hD, List.length_append, Nat.add_comm]
    have C := RUndo_yes H7.out.1 S.length D.length hl
    have hsy : Sync (R7.drop D.length) S := by
     have := H7.out.2.1.drop D.length
     rw [hD, List.drop_left] at this
     exact this
    have HSY := Lib.hid hsy
    rw [← HRL.out, HLL.out] at C
    clear hsy hl hD
    by_cases hbig : 2000 < q
    ·have hbig2 : (2000 : Int) < q := by omega
     have hE : endB S r = ⟨false, 0, 12, S⟩ := by unfold endB; rw [HOK.out.2, if_pos hbig]
     have HEE := Lib.hid hE
     clear hE
     go_upto_region 7 with fail
     (go_wp2_with fail; go_fit (C); rintro e w8 ⟨F8, rfl, i8, t8, in8⟩)
     have H8 := Lib.hid (And.intro i8 (And.intro (H7.out.2.2.2.1.trans t8 H7.out.2.2.2.2.1) (fun k hk => (in8 k hk).elim (H7.out.2.2.2.2.1 k) (fun q => Or.inr (Nat.le_trans H7.out.2.2.2.1.size q)) : ∀ k ∈ F8, k ∈ F ∨ w.heap.size ≤ k)))
     clear i8 t8 in8 C
     go_wp2
     go_ret3
     rw [HEE.out]
     exact ⟨F8, _, rfl, H8.out.1, HSY.out, H8.out.2.1, H8.out.2.2⟩
    ·have hbig2 : ¬ (2000 : Int) < q := by omega
     have hE : endB S r = ⟨false, q, 0, S⟩ := by unfold endB; rw [HOK.out.2, if_neg hbig, HOK.out.1]; rfl
     have HEE := Lib.hid hE
     clear hE
     go_upto_region 10 with fail
     (go_wp2_with fail; go_fit (C); rintro e w8 ⟨F8, rfl, i8, t8, in8⟩)
     have H8 := Lib.hid (And.intro i8 (And.intro (t8.box H7.out.2.2.2.2.2 H7.out.2.2.1) (And.intro (H7.out.2.2.2.1.trans t8 H7.out.2.2.2.2.1) (fun k hk => (in8 k hk).elim (H7.out.2.2.2.2.1 k) (fun q => Or.inr (Nat.le_trans H7.out.2.2.2.1.size q)) : ∀ k ∈ F8, k ∈ F ∨ w.heap.size ≤ k))))
     clear d1
     have d1 := H8.out.2.1.cells 0 _ rfl
     clear i8 t8 in8 C
     go_wp2_with fail
     go_quiet (fail)
     go_wp2
     go_ret3
     rw [HEE.out]
     exact ⟨F8, _, rfl, H8.out.1.ext (belN (Below.refl _ _) nq), HSY.out, H8.out.2.2.1.then (belN (Below.refl _ _) nq), H8.out.2.2.2⟩
   ·have hbig : ¬ 2000 < q := by have := (HPO.out.1.made HOK.out.1).2; rw [HOK.out.2] at this; omega
    have hbig2 : ¬ (2000 : Int) < q := by omega
    have hE : endB S r = ⟨true, q, 0, r.set⟩ := by unfold endB; rw [HOK.out.2, if_neg hbig, HOK.out.1]; rfl
    have HEE := Lib.hid hE
    clear hE
    go_wp2_with fail
    go_quiet (fail)
    go_wp2
    go_ret3
    rw [HEE.out]
    exact ⟨F7, _, rfl, H7.out.1.ext (belN (Below.refl _ _) nq), H7.out.2.1, H7.out.2.2.2.1.then (belN (Below.refl _ _) nq), H7.out.2.2.2.2.1⟩
end
end Go.Proofs.Ytchbbaehdcmcfaa
