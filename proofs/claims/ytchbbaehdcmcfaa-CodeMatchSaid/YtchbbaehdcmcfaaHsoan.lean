import Derived.Test.YtchbbaehdcmcfaaHsozz
import Derived.Test.YtchbbaehdcmcfaaHsoam
import Derived.Deep.RegionHeld3
import Derived.Test.YtchbbaehdcmcfaaHsoae
set_option linter.unusedVariables false
set_option linter.unusedSimpArgs false
/- Package unify: stand: a variable is let stand for a term, if it is not in it. -/
namespace Go.Proofs.Ytchbbaehdcmcfaa
open Go.RowKit
set_option linter.unusedVariables false
mutual
theorem hasF_max (n : Int) (M : Nat) : ∀ (t : Tm) (c : Nat), c ≤ M → (hasF n M t c).2 ≤ M + 1
 | .mk k m s ts, c, h => by
  rw [hasF]
  by_cases h1 : M < c + 1
  ·rw [if_pos h1]; show c + 1 ≤ M + 1; omega
  ·rw [if_neg h1]
   by_cases hk : k = 0
   ·rw [if_pos hk]
    by_cases hm : m = n
    ·rw [if_pos hm]; show c + 1 ≤ M + 1; omega
    ·rw [if_neg hm]; show c + 1 ≤ M + 1; omega
   ·rw [if_neg hk]
    exact hasL_max n M ts (c + 1) (by omega)
theorem hasL_max (n : Int) (M : Nat) : ∀ (ts : List Tm) (c : Nat), c ≤ M → (hasL n M ts c).2 ≤ M + 1
 | [], c, h => by rw [hasL]; show c ≤ M + 1; omega
 | x :: r, c, h => by
  rw [hasL]
  have h1 := hasF_max n M x c h
  by_cases hx : (hasF n M x c).1 = true
  ·rw [if_pos hx]; exact h1
  ·rw [if_neg hx]
   have h2 : hasF n M x c = (false, (hasF n M x c).2) := Prod.ext (by simpa using hx) rfl
   exact hasL_max n M r _ (hasF_false x c _ h2).1
end
section
variable {V w : World} {F : List Nat} {p : Value} {N : Nat} {R S : List (Int × Tm)} {cb c : Nat}
set_option maxHeartbeats 8000000 in
set_option maxRecDepth 100000 in
theorem stand_at (h : IsB V F w p N R) (hs : Sync R S) (hcb : Box w cb [p, .int .i64 c]) (hcF : ¬ cb ∈ F) (hcV : Blind V [cb]) {n : Nat} (hn : n < N) (gn : getB R n = none) (an : Option Addr) (cn : Nat) {y : Tm} {vy : Value} (hy : TmV V y vy) (hg : goodT y = true) (hr : ∀ m ∈ occT y, 0 ≤ m ∧ m < (N : Int)) (hc : c ≤ 2000) :
  Calls Try.prog 141 #[.pointer (some ⟨cb, 0, none⟩), .agg #[.int .i64 0, .int .i64 n, .string ⟨#[]⟩, .slice an 0 cn], vy] w (UniP V F w p N cb (standB S n (subT (fullB S) y) c)) := by
 obtain ⟨hT, hN⟩ := h.tri
 obtain ⟨M, hM⟩ : ∃ M, 2000 - c = M := ⟨_, rfl⟩
 have hsub : (2000 : Int) - (c : Int) = (M : Int) := by omega
 have hM2 : M ≤ 2000 := by omega
 have hwM : IntKind.i64.wrap (M : Int) = (M : Int) := by rw [IntKind.wrap_i64]; omega
 have hft : fitsB N y = true := fitsB_true.2 ⟨hg, hr⟩
 obtain ⟨b, m, hh⟩ : ∃ b m, hasF n M (subT (fullB S) y) 0 = (b, m) := ⟨_, _, rfl⟩
 have hhas : hasB N R n y M = (b, m) := by unfold hasB; rw [if_pos hft, hs.full, hh]
 have hml : m ≤ M + 1 := by
  have := hasF_max n M (subT (fullB S) y) 0 (by omega)
  rw [hh] at this
  exact this
 have hst : standB S n (subT (fullB S) y) c = ⟨!b, if b = true then S else ((n : Int), subT (fullB S) y) :: S, c + m⟩ := by
  unfold standB
  rw [hM, hh]
 rw [hst]
 have hfo := subfull_formed hN hT (good_parts hg).2.2 hr
 have hidem := full_idem hN hT (good_parts hg).2.2 hr
 rw [hs.full] at hfo hidem
 have hset : b = false → setB N R n y = 0 := fun hb => by
  subst hb
  have h1 := hasF_false _ 0 m hh
  have h2 := hasF_mem (n := n) (M := M) (subT (fullB S) y) 0 hfo
  rw [hh] at h2
  refine set_free (by omega) (by omega) hft gn fun q => ?_
  rw [hs.full] at q
  have := (h2 h1.1).2 q
  simp at this
 obtain ⟨q, hq⟩ : ∃ q, c + m = q := ⟨_, rfl⟩
 have hsum : (c : Int) + (m : Int) = (q : Int) := by omega
 rw [hq]
 obtain ⟨ky, ny, sy, ay, my, cy, rfl, fk, fn, fs, fv⟩ := four_of hy
 obtain ⟨w1, e1, B1, z1, X1⟩ := box_new w #[.int .i64 0, .int .i64 n, .string ⟨#[]⟩, .slice an 0 cn] 31
 obtain ⟨w2, e2, B2, z2, X2⟩ := box_new w1 #[.int .i64 ky, .int .i64 ny, .string sy, .slice ay my cy] 31
 have hb2 := Ext.trans' B1 B2
 have X1 := X1.ext B2
 rw [z1] at X2
 have hcb2 := hcb.ext hb2
 have HB2 := Lib.hid (And.intro hb2 (And.intro X1 (And.intro X2 hcb2)))
 have HI := Lib.hid (And.intro h (And.intro hs hcb))
 have HE := Lib.hid (And.intro e1 e2)
 have HSET := Lib.hid (And.intro hset hidem)
 have HQ := Lib.hid (And.intro hq (And.intro hM2 hml))
 have hq2 : q ≤ 4002 := by omega
 have hwq : IntKind.i64.wrap (q : Int) = (q : Int) := by rw [IntKind.wrap_i64]; omega
 have x1 := X1.cells 1 _ rfl
 obtain ⟨y0, y1, y2, y3, _⟩ := X2.four
 have d0 := hcb2.cells 0 _ rfl
 have d1 := hcb2.cells 1 _ rfl
 have hcl := hcb.lt
 have HCF := Lib.hid (And.intro hcF (And.intro hcV (And.intro hy hcl)))
 have HHA := Lib.hid (fun (wq : World) (hb : Below w.heap.size w wq) => Has_at (h.ext hb) (n := (n : Int)) (by unfold I64; omega) hy (most := (M : Int)) (by unfold I64; omega) (by omega))
 rw [Int.toNat_natCast, hhas] at HHA
 clear h hs hcb B1 B2 X1 X2 hb2 z1 z2 hcb2 e1 e2 hcF hcV fk fn fs fv hset hidem hfo hst hml hhas hh hft gn hg hr hT hM hq hcl hy
 go_enter Try.func141, Try.ntmps141
 go_upto_region 1 with fail
 rw [HE.out.1, HE.out.2]
 refine wp_region_held_drew (S := fun w' => w'.cell? ⟨cb, 0, none⟩ = some p ∧ w'.cell? ⟨cb, 1, none⟩ = some (.int .i64 c) ∧ w'.cell? ⟨w.heap.size, 1, none⟩ = some (.int .i64 n) ∧ w'.cell? ⟨w.heap.size + 1, 0, none⟩ = some (.int .i64 ky) ∧ w'.cell? ⟨w.heap.size + 1, 1, none⟩ = some (.int .i64 ny) ∧ w'.cell? ⟨w.heap.size + 1, 2, none⟩ = some (.string sy) ∧ w'.cell? ⟨w.heap.size + 1, 3, none⟩ = some (.slice ay my cy)) (by kernel_rfl) ⟨d0, d1, x1, y0, y1, y2, y3⟩ (fun hHeld => ?_)
 first | (refine held_t (i := 0) hHeld ?_; constructor; constructor; intro wq hq; focus ((try dsimp only at hq); go_simp; first | done | with_reducible rfl | fail)) | refine held_s (i := 0) hHeld ?_ | fail
 first | (refine held_t (i := 1) hHeld ?_; constructor; constructor; intro wq hq; focus ((try dsimp only at hq); go_simp; first | done | with_reducible rfl | fail)) | refine held_s (i := 1) hHeld ?_ | fail
 first | (refine held_t (i := 2) hHeld ?_; constructor; constructor; intro wq hq; focus ((try dsimp only at hq); go_simp; first | done | with_reducible rfl | fail)) | refine held_s (i := 2) hHeld ?_ | fail
 first | (refine held_t (i := 3) hHeld ?_; constructor; constructor; intro wq hq; focus ((try dsimp only at hq); go_simp; first | done | with_reducible rfl | fail)) | refine held_s (i := 3) hHeld ?_ | fail
 first | (refine held_t (i := 4) hHeld ?_; constructor; constructor; intro wq hq; focus ((try dsimp only at hq); go_simp; first | done | with_reducible rfl | fail)) | refine held_s (i := 4) hHeld ?_ | fail
 first | (refine held_t (i := 5) hHeld ?_; constructor; constructor; intro wq hq; focus ((try dsimp only at hq); go_simp; first | done | with_reducible rfl | fail)) | refine held_s (i := 5) hHeld ?_ | fail
 first | (refine held_t (i := 6) hHeld ?_; constructor; constructor; intro wq hq; focus ((try dsimp only at hq); go_simp; first | done | with_reducible rfl | fail)) | refine held_s (i := 6) hHeld ?_ | fail
 try simp only [Act.put, lay4]
 first | (refine held_t (i := 7) hHeld ?_; constructor; constructor; intro wq hq; focus ((try dsimp only at hq); go_simp; first | done | with_reducible rfl | fail)) | refine held_s (i := 7) hHeld ?_ | fail
 first | (refine held_t (i := 8) hHeld ?_; constructor; constructor; intro wq hq; focus ((try dsimp only at hq); go_simp; first | done | with_reducible rfl | fail)) | refine held_s (i := 8) hHeld ?_ | fail
 first | (refine held_t (i := 9) hHeld ?_; constructor; constructor; intro wq hq; focus ((try dsimp only at hq); go_simp; first | done | with_reducible rfl | fail)) | refine held_s (i := 9) hHeld ?_ | fail
 first | (refine held_t (i := 10) hHeld ?_; constructor; constructor; intro wq hq; focus ((try dsimp only at hq); go_simp; first | done | with_reducible rfl | fail)) | refine held_s (i := 10) hHeld ?_ | fail
 first | (refine held_t (i := 11) hHeld ?_; constructor; constructor; intro wq hq; focus ((try dsimp only at hq); go_simp; first | done | with_reducible rfl | fail)) | refine held_s (i := 11) hHeld ?_ | fail
 try simp only [Act.put, lay4]
 refine held_c 12 fun K hK => ?_
 go_simp
 (go_at_call 93; refine (HHA.out _ HB2.out.1.drew).mono ?_; rintro e w6 ⟨rfl, b6⟩; have HB6 := Lib.hid (HB2.out.1.drew.trans (b6.mono HB2.out.1.drew.size)); have hb6 := Ext.trans' (Below.refl w2.heap.size w2).drew b6; have HX6 := Lib.hid (And.intro (HB2.out.2.2.2.ext hb6) (And.intro (HB2.out.2.1.ext hb6) (HB2.out.2.2.1.ext hb6))); clear b6)
 refine hK.out _ _ (⟨cell_later hb6 hHeld.1, cell_later hb6 hHeld.2.1, cell_later hb6 hHeld.2.2.1, cell_later hb6 hHeld.2.2.2.1, cell_later hb6 hHeld.2.2.2.2.1, cell_later hb6 hHeld.2.2.2.2.2.1, cell_later hb6 hHeld.2.2.2.2.2.2⟩) (fun hHeld => ?_)
 clear hK K
 try simp only [Act.put, lay4]
 first | (refine held_t (i := 13) hHeld ?_; constructor; constructor; intro wq hq; focus ((try dsimp only at hq); go_simp; first | done | with_reducible rfl | fail)) | refine held_s (i := 13) hHeld ?_ | fail
 first | (refine held_t (i := 14) hHeld ?_; constructor; constructor; intro wq hq; focus ((try dsimp only at hq); go_simp; first | done | with_reducible rfl | fail)) | refine held_s (i := 14) hHeld ?_ | fail
 first | (refine held_t (i := 15) hHeld ?_; constructor; constructor; intro wq hq; focus ((try dsimp only at hq); go_simp; first | done | with_reducible rfl | fail)) | refine held_s (i := 15) hHeld ?_ | fail
 first | (refine held_t (i := 16) hHeld ?_; constructor; constructor; intro wq hq; focus ((try dsimp only at hq); go_simp; first | done | with_reducible rfl | fail)) | refine held_s (i := 16) hHeld ?_ | fail
 first | (refine held_t (i := 17) hHeld ?_; constructor; constructor; intro wq hq; focus ((try dsimp only at hq); go_simp; first | done | with_reducible rfl | fail)) | refine held_s (i := 17) hHeld ?_ | fail
 try simp only [Act.put, lay4]
 refine wpAnyH_done (by kernel_rfl) ?_ _
 clear hHeld d0 d1 x1 y0 y1 y2 y3 hb6
 have d0 := HX6.out.1.cells 0 _ rfl
 have d1 := HX6.out.1.cells 1 _ rfl
 have df := HX6.out.1.fz
 obtain ⟨w7, e7⟩ : ∃ w7, w6.setCell ⟨cb, 1, none⟩ (.int .i64 q) = w7 := ⟨_, rfl⟩
 have hb7 : Box w7 cb [p, .int .i64 q] := by rw [← e7]; exact HX6.out.1.set (k := 1) (by simp)
 have t7 : Touch [cb] w6 w7 := by rw [← e7]; exact touch_one w6 cb 1 _
 have hx7 : Box w7 w.heap.size [.int .i64 0, .int .i64 n, .string ⟨#[]⟩, .slice an 0 cn] := by rw [← e7]; exact HX6.out.2.1.far (by have := HCF.out.2.2.2; omega)
 have hy7 : Box w7 (w.heap.size + 1) [.int .i64 ky, .int .i64 ny, .string sy, .slice ay my cy] := by rw [← e7]; exact HX6.out.2.2.far (by have := HCF.out.2.2.2; omega)
 have h7 : IsB V F w7 p N R := (HI.out.1.ext HB6.out).touch t7 (fun k hk hm => by simp at hk; subst hk; exact HCF.out.1 hm) HCF.out.2.1
 have H7 := Lib.hid (And.intro h7 (And.intro hb7 (show Touch (cb :: F) w w7 from ((Touch.of_below HB6.out (cb :: F)).trans t7 (fun k hk => by simp at hk; subst hk; exact Or.inl (by simp))))))
 have HE7 := Lib.hid e7
 have HX7 := Lib.hid (And.intro hx7 hy7)
 clear hb7 t7 hx7 hy7 h7 e7
 cases b
 ·have hs0 := HSET.out.1 rfl
  have CS := Set_at H7.out.1 (n := (n : Int)) (by unfold I64; omega) HCF.out.2.2.1
  have HS0 := Lib.hid hs0
  have CS := Lib.hid CS
  clear hs0
  go_upto_region 3 with fail
  (try rw [HE7.out])
  clear d0 d1 df
  have d0 := H7.out.2.1.cells 0 _ rfl
  have x1 := HX7.out.1.cells 1 _ rfl
  obtain ⟨y0, y1, y2, y3, _⟩ := HX7.out.2.four
  refine wp_region_held_drew (S := fun w' => w'.cell? ⟨cb, 0, none⟩ = some p ∧ w'.cell? ⟨w.heap.size, 1, none⟩ = some (.int .i64 n) ∧ w'.cell? ⟨w.heap.size + 1, 0, none⟩ = some (.int .i64 ky) ∧ w'.cell? ⟨w.heap.size + 1, 1, none⟩ = some (.int .i64 ny) ∧ w'.cell? ⟨w.heap.size + 1, 2, none⟩ = some (.string sy) ∧ w'.cell? ⟨w.heap.size + 1, 3, none⟩ = some (.slice ay my cy)) (by kernel_rfl) ⟨d0, x1, y0, y1, y2, y3⟩ (fun hHeld => ?_)
  first | (refine held_t (i := 0) hHeld ?_; constructor; constructor; intro wq hq; focus ((try dsimp only at hq); go_simp; first | done | with_reducible rfl | fail)) | refine held_s (i := 0) hHeld ?_ | fail
  first | (refine held_t (i := 1) hHeld ?_; constructor; constructor; intro wq hq; focus ((try dsimp only at hq); go_simp; first | done | with_reducible rfl | fail)) | refine held_s (i := 1) hHeld ?_ | fail
  first | (refine held_t (i := 2) hHeld ?_; constructor; constructor; intro wq hq; focus ((try dsimp only at hq); go_simp; first | done | with_reducible rfl | fail)) | refine held_s (i := 2) hHeld ?_ | fail
  first | (refine held_t (i := 3) hHeld ?_; constructor; constructor; intro wq hq; focus ((try dsimp only at hq); go_simp; first | done | with_reducible rfl | fail)) | refine held_s (i := 3) hHeld ?_ | fail
  first | (refine held_t (i := 4) hHeld ?_; constructor; constructor; intro wq hq; focus ((try dsimp only at hq); go_simp; first | done | with_reducible rfl | fail)) | refine held_s (i := 4) hHeld ?_ | fail
  first | (refine held_t (i := 5) hHeld ?_; constructor; constructor; intro wq hq; focus ((try dsimp only at hq); go_simp; first | done | with_reducible rfl | fail)) | refine held_s (i := 5) hHeld ?_ | fail
  first | (refine held_t (i := 6) hHeld ?_; constructor; constructor; intro wq hq; focus ((try dsimp only at hq); go_simp; first | done | with_reducible rfl | fail)) | refine held_s (i := 6) hHeld ?_ | fail
  try simp only [Act.put, lay4]
  first | (refine held_t (i := 7) hHeld ?_; constructor; constructor; intro wq hq; focus ((try dsimp only at hq); go_simp; first | done | with_reducible rfl | fail)) | refine held_s (i := 7) hHeld ?_ | fail
  first | (refine held_t (i := 8) hHeld ?_; constructor; constructor; intro wq hq; focus ((try dsimp only at hq); go_simp; first | done | with_reducible rfl | fail)) | refine held_s (i := 8) hHeld ?_ | fail
  first | (refine held_t (i := 9) hHeld ?_; constructor; constructor; intro wq hq; focus ((try dsimp only at hq); go_simp; first | done | with_reducible rfl | fail)) | refine held_s (i := 9) hHeld ?_ | fail
  try simp only [Act.put, lay4]
  refine held_c 10 fun K hK => ?_
  go_simp
  (go_at_call 118; refine ((Set_at (H7.out.1.ext (Below.refl _ _).drew) (n := (n : Int)) (by unfold I64; omega) HCF.out.2.2.1)).mono ?_; rintro e w8 ⟨F8, R8, rfl, h8, t8, in8, hc8⟩; rw [HS0.out]; obtain ⟨y', rfl, hy'⟩ : ∃ y', R8 = ((n : Int), y') :: R ∧ subT (fullB R) y' = subT (fullB R) y := (by rcases hc8 with ⟨_, h⟩ | ⟨h, _⟩; exact h; exact absurd HS0.out h); have H8 := Lib.hid (And.intro h8 (And.intro t8 (And.intro in8 hy'))); clear h8 in8 hc8 hy')
  refine hK.out _ _ (⟨t8.cell HCF.out.1 hHeld.1, t8.cell (fun hm => absurd (HI.out.1.lt _ hm) (Nat.lt_irrefl _)) hHeld.2.1, t8.cell (fun hm => by have := HI.out.1.lt _ hm; omega) hHeld.2.2.1, t8.cell (fun hm => by have := HI.out.1.lt _ hm; omega) hHeld.2.2.2.1, t8.cell (fun hm => by have := HI.out.1.lt _ hm; omega) hHeld.2.2.2.2.1, t8.cell (fun hm => by have := HI.out.1.lt _ hm; omega) hHeld.2.2.2.2.2⟩) (fun hHeld => ?_)
  clear hK K
  try simp only [Act.put, lay4]
  first | (refine held_t (i := 11) hHeld ?_; constructor; constructor; intro wq hq; focus ((try dsimp only at hq); go_simp; first | done | with_reducible rfl | fail)) | refine held_s (i := 11) hHeld ?_ | fail
  first | (refine held_t (i := 12) hHeld ?_; constructor; constructor; intro wq hq; focus ((try dsimp only at hq); go_simp; first | done | with_reducible rfl | fail)) | refine held_s (i := 12) hHeld ?_ | fail
  first | (refine held_t (i := 13) hHeld ?_; constructor; constructor; intro wq hq; focus ((try dsimp only at hq); go_simp; first | done | with_reducible rfl | fail)) | refine held_s (i := 13) hHeld ?_ | fail
  try simp only [Act.put, lay4]
  refine wpAnyH_done (by kernel_rfl) ?_ _
  go_wp2
  go_ret
  refine ⟨F8, _, rfl, H8.out.1, ⟨HI.out.2.1, rfl, ?_⟩, H8.out.2.1.box HCF.out.1 (H7.out.2.1.ext (Below.refl _ _).drew), (H7.out.2.2.then (Below.refl _ _).drew).trans (H8.out.2.1.sub (F' := cb :: F) (fun k hk => List.mem_cons_of_mem _ hk)) (fun k hk => Or.inl hk), fun k hk => (H8.out.2.2.1 k hk).imp id (fun h => Nat.le_trans H7.out.2.2.size h)⟩
  show subT (fullB R) y' = subT (fullB S) (subT (fullB S) y)
  rw [H8.out.2.2.2, HSET.out.2, HI.out.2.1.full]
 ·go_upto_region 3 with fail
  (try rw [HE7.out])
  go_quiet (fail)
  go_wp2
  go_ret
  exact ⟨F, R, rfl, H7.out.1.ext (belN (Below.refl _ _) nq), HI.out.2.1, H7.out.2.1.ext (belN (Below.refl _ _) nq), H7.out.2.2.then (belN (Below.refl _ _) nq), fun k hk => Or.inl hk⟩
end
end Go.Proofs.Ytchbbaehdcmcfaa
/- A region that draws its order, walked while a condition B holds, and a condition C till operation l has come up: what l waits for may be taken first under C. Nothing here speaks of one program. -/
namespace Go
section
variable {P : Program} {md : Region.Mode} {ops : Array Oper} {Q : Exit → Act → World → Prop} {B C : World → Prop} {l : Nat}
def TillG (B C : World → Prop) (l : Nat) (listed : Array Bool) (w : World) : Prop := B w ∧ (listed.getD l true = false → C w)
def wpAnyG (P : Program) (md : Region.Mode) (ops : Array Oper) (Q : Exit → Act → World → Prop) (B C : World → Prop) (l : Nat) : Nat → Array Bool → Act → World → Prop
 | 0, listed, a, w => Region.ready md ops listed = [] ∧ Q .normal a w
 | fuel + 1, listed, a, w => (Region.ready md ops listed = [] → Q .normal a w) ∧
  ∀ i ∈ Region.ready md ops listed, wpOp P ops Q i (fun a' w' => TillG B C l (listed.setIfInBounds i true) w' ∧ wpAnyG P md ops Q B C l fuel (listed.setIfInBounds i true) a' w') a w
theorem wpAny_of_G : ∀ (fuel : Nat) (listed : Array Bool) (a : Act) (w : World), wpAnyG P md ops Q B C l fuel listed a w → wpAny P md ops Q fuel listed a w
 | 0, _, _, _, h => h
 | fuel + 1, _, _, _, h => ⟨h.1, fun i hi => wpOp_mono (fun a' w' h' => wpAny_of_G fuel _ a' w' h'.2) (h.2 i hi)⟩
theorem TillG.unset {i : Nat} {listed : Array Bool} {w : World} (hil : i ≠ l) : TillG B C l (listed.setIfInBounds i true) w ↔ TillG B C l listed w := by
 unfold TillG
 rw [getD_set_ne true hil]
theorem G_first {i : Nat} {oi : Oper} {v : Value} (hi : ops[i]? = some oi) (hsel : ∀ (j : Nat) (o : Oper) cs b, ops[j]? = some o → o.op ≠ .select cs b)
    (hQ : ∀ c a w, Q (.panic c) (a.put oi.dst v) w → Q (.panic c) a w) (hil : i ≠ l) (J : Array Bool → Prop) (E : World → Prop) (hE : ∀ listed w, J listed → TillG B C l listed w → E w)
    (hJ : ∀ listed j, J listed → i ∈ Region.ready md ops listed → j ∈ Region.ready md ops listed → j ≠ i → J (listed.setIfInBounds j true)) :
    ∀ (fuel : Nat) (listed : Array Bool) (a : Act) (w : World), J listed →
      (∀ j oj, ops[j]? = some oj → j ≠ i → listed.getD j true = false → (∀ e ∈ oj.after, Region.binds md e = true → e.on ≠ i) → oi.apart ops oj = true) →
      i ∈ Region.ready md ops listed → YieldsIf P ops E oi v a → TillG B C l listed w →
      wpAnyG P md ops Q B C l fuel (listed.setIfInBounds i true) (a.put oi.dst v) w → wpAnyG P md ops Q B C l (fuel + 1) listed a w := by
  intro fuel
  induction fuel with
  | zero =>
    intro listed a w hj _ hr hy hS H
    refine ⟨fun h => (by rw [h] at hr; cases hr), fun j hj' => ?_⟩
    by_cases hji : j = i
    · subst hji; exact hy.wpOp hi (hE _ _ hj hS) ⟨(TillG.unset hil).2 hS, H⟩
    · have := ready_mono hj' hji
      rw [H.1] at this
      cases this
  | succ fuel ih =>
    intro listed a w hj hfree hr hy hS H
    refine ⟨fun h => (by rw [h] at hr; cases hr), fun j hj' => ?_⟩
    by_cases hji : j = i
    · subst hji; exact hy.wpOp hi (hE _ _ hj hS) ⟨(TillG.unset hil).2 hS, H⟩
    · have h1 := H.2 j (ready_mono hj' hji)
      obtain ⟨hjun, oj, hoj, hall⟩ := mem_ready.1 hj'
      have hnot : ∀ e ∈ oj.after, Region.binds md e = true → e.on ≠ i := fun e he hb heq => by
        have h1 := hall e he hb
        have h0 := (mem_ready.1 hr).1
        rw [heq] at h1
        rcases Nat.lt_or_ge i listed.size with h' | h'
        · simp [h'] at h0 h1; rw [h0] at h1; cases h1
        · simp [Array.getElem?_eq_none h'] at h1
      have h2 := wpOp_putIf hoj (hfree j oj hoj hji hjun hnot) (fun cs b => hsel i oi cs b hi) (fun cs b => hsel j oj cs b hoj) hQ hy h1
      have hfree' : ∀ k ok, ops[k]? = some ok → k ≠ i → (listed.setIfInBounds j true).getD k true = false →
          (∀ e ∈ ok.after, Region.binds md e = true → e.on ≠ i) → oi.apart ops ok = true := fun k ok hk hki hun hno => by
        refine hfree k ok hk hki ?_ hno
        by_cases hjk : j = k
        · subst hjk; exact hjun
        · rw [getD_set_ne true hjk] at hun; exact hun
      refine wpOp_mono (fun a' w' h3 => ?_) h2
      have hcomm := Array.setIfInBounds_comm (xs := listed) true true hji
      obtain ⟨h4, h5, h6⟩ := h3
      rw [← hcomm] at h5 h6
      have h7 := (TillG.unset hil).1 h5
      exact ⟨h7, ih (listed.setIfInBounds j true) a' w' (hJ listed j hj hr hj' hji) hfree' (ready_mono hr (Ne.symm hji)) h4 h7 h6⟩
theorem g_tb {i : Nat} {oi : Oper} {fuel : Nat} {listed : Array Bool} {a : Act} {w : World} (hS : TillG B C l listed w)
  (h : ∃ v, (∀ w, B w → (execOp a.eval oi).run P w = .ok (.value v) w) ∧ wpAnyG P md ops Q B C l fuel (listed.setIfInBounds i true) (a.put oi.dst v) w)
  (hi : ops[i]? = some oi := by simp only [List.getElem?_toArray, List.getElem?_cons_zero, List.getElem?_cons_succ]; rfl) (hil : i ≠ l := by decide)
  (hs : Region.noSelect ops = true := by kernel_rfl) (hf : Region.free md ops listed i = true := by kernel_rfl) (hr : (Region.ready md ops listed).contains i = true := by kernel_rfl) (hw : Region.wanted oi (yielded ops a.tmps) = true := by rfl)
  (hQ : ∀ v c a w, Q (.panic c) (a.put oi.dst v) w → Q (.panic c) a w := by exact fun _ _ _ _ h => h) : wpAnyG P md ops Q B C l (fuel + 1) listed a w := by
 obtain ⟨v, h1, h2⟩ := h
 exact G_first hi (Region.noSelect_spec hs) (hQ v) hil (fun _ => True) B (fun _ _ _ h => h.1) (fun _ _ _ _ _ _ => trivial) fuel listed a w trivial (Region.free_spec hi hf) (by simpa using hr) (Or.inl ⟨hw, h1⟩) hS h2
theorem g_tc {i : Nat} {oi ol : Oper} {fuel : Nat} {listed : Array Bool} {a : Act} {w : World} (hS : TillG B C l listed w)
  (h : ∃ v, (∀ w, C w → (execOp a.eval oi).run P w = .ok (.value v) w) ∧ wpAnyG P md ops Q B C l fuel (listed.setIfInBounds i true) (a.put oi.dst v) w)
  (hi : ops[i]? = some oi := by simp only [List.getElem?_toArray, List.getElem?_cons_zero, List.getElem?_cons_succ]; rfl) (hol : ops[l]? = some ol := by simp only [List.getElem?_toArray, List.getElem?_cons_zero, List.getElem?_cons_succ]; rfl)
  (hwt : (ol.after.any fun e => Region.binds md e && e.on == i) = true := by kernel_rfl) (hul : listed.getD l true = false := by kernel_rfl) (hil : i ≠ l := by decide)
  (hs : Region.noSelect ops = true := by kernel_rfl) (hf : Region.free md ops listed i = true := by kernel_rfl) (hr : (Region.ready md ops listed).contains i = true := by kernel_rfl) (hw : Region.wanted oi (yielded ops a.tmps) = true := by rfl)
  (hQ : ∀ v c a w, Q (.panic c) (a.put oi.dst v) w → Q (.panic c) a w := by exact fun _ _ _ _ h => h) : wpAnyG P md ops Q B C l (fuel + 1) listed a w := by
 obtain ⟨v, h1, h2⟩ := h
 refine G_first hi (Region.noSelect_spec hs) (hQ v) hil (fun x => x.getD l true = false) C (fun _ _ hj h => h.2 hj) (fun x j hj hri hrj hji => ?_) fuel listed a w hul (Region.free_spec hi hf) (by simpa using hr) (Or.inl ⟨hw, h1⟩) hS h2
 have hjl : j ≠ l := fun e => by
  subst e
  obtain ⟨_, oj, hoj, hall⟩ := mem_ready.1 hrj
  rw [hol] at hoj
  cases hoj
  obtain ⟨e, he, hb⟩ := Array.any_eq_true'.1 hwt
  simp only [Bool.and_eq_true, beq_iff_eq] at hb
  have h3 := hall e he hb.1
  have h0 := (mem_ready.1 hri).1
  rw [hb.2] at h3
  rcases Nat.lt_or_ge i x.size with h' | h'
  ·simp [h'] at h0 h3; rw [h0] at h3; cases h3
  ·simp [Array.getElem?_eq_none h'] at h3
 show (x.setIfInBounds j true).getD l true = false
 rw [getD_set_ne true hjl]
 exact hj
def AllReadyG (P : Program) (md : Region.Mode) (ops : Array Oper) (Q : Exit → Act → World → Prop) (B C : World → Prop) (l fuel : Nat) (listed : Array Bool) (a : Act) (w : World) (rs : List Nat) : Prop :=
 ∀ i ∈ rs, wpOp P ops Q i (fun a' w' => TillG B C l (listed.setIfInBounds i true) w' ∧ wpAnyG P md ops Q B C l fuel (listed.setIfInBounds i true) a' w') a w
theorem AllReadyG.nil {fuel : Nat} {listed : Array Bool} {a : Act} {w : World} : AllReadyG P md ops Q B C l fuel listed a w [] := fun _ h => by cases h
theorem AllReadyG.cons {fuel : Nat} {listed : Array Bool} {a : Act} {w : World} {i : Nat} {o : Oper} {rs : List Nat} (ho : ops[i]? = some o)
  (h : ∀ K' : Act → World → Prop, Shut (∀ a w, TillG B C l (listed.setIfInBounds i true) w → (TillG B C l (listed.setIfInBounds i true) w → wpAnyG P md ops Q B C l fuel (listed.setIfInBounds i true) a w) → K' a w) → if Region.wanted o (yielded ops a.tmps) = true then Oper.wp P o a w K' Q else K' (a.put o.dst undef) w)
  (hs : AllReadyG P md ops Q B C l fuel listed a w rs) : AllReadyG P md ops Q B C l fuel listed a w (i :: rs) := fun j hj => by
 rcases List.mem_cons.1 hj with rfl | hj
 ·exact wpOp_step ho (fun K' hK => h K' (fun a w hS hW => hK a w ⟨hS, hW hS⟩))
 ·exact hs j hj
theorem g_ready {rs : List Nat} {fuel : Nat} {listed : Array Bool} {a : Act} {w : World} (hr : Region.ready md ops listed = rs) (hne : rs ≠ [])
  (h : AllReadyG P md ops Q B C l fuel listed a w rs) : wpAnyG P md ops Q B C l (fuel + 1) listed a w := ⟨fun h0 => absurd (hr ▸ h0) hne, hr ▸ h⟩
theorem g_done {listed : Array Bool} {a : Act} {w : World} (hr : Region.ready md ops listed = []) (h : Q .normal a w) : ∀ fuel, wpAnyG P md ops Q B C l fuel listed a w
 | 0 => ⟨hr, h⟩
 | _ + 1 => ⟨fun _ => h, by rw [hr]; simp⟩
theorem g_begin {id : Nat} {a : Act} {w : World} (l : Nat) (hm : P.follows .mixedOrders = true) (hB : B w.drew) (hC : C w.drew)
  (h : B w.drew → C w.drew → wpAnyG P .any ops Q B C l ops.size (Array.replicate ops.size false) a w.drew) : (Code.region id ops true).wp P Q a w :=
 wp_region_any hm (wpAny_of_G _ _ _ _ (h hB hC))
end
end Go
