import Derived.Test.YtchbbaehdcmcfaaHsozz
import Derived.Test.YtchbbaehdcmcfaaHsoah
import Derived.Test.YtchbbaehdcmcfaaHsoac
import Derived.Lib.Strings
import Derived.Test.YtchbbaehdcmcfaaHsoae
import Derived.Deep.QuietTactic
import Derived.Test.YtchbbaehdcmcfaaHsoaf
set_option linter.unusedVariables false
set_option linter.unusedSimpArgs false
/- Package bind: Set, walked. -/
namespace Go.Proofs.Ytchbbaehdcmcfaa
open Go.RowKit
set_option linter.unusedVariables false
section
variable {V w : World} {F : List Nat} {p : Value} {N : Nat} {R : List (Int × Tm)}
theorem far5 {w : World} {b j g o : Nat} {v : Value} (a0 a1 a2 a3 a4 : Value) (h : w.cell? ⟨b, j, none⟩ = some v) (hne : b ≠ g) : (put5 w g o a0 a1 a2 a3 a4).cell? ⟨b, j, none⟩ = some v := by
 rw [far_cell hne, far_cell hne, far_cell hne, far_cell hne, far_cell hne]; exact h
theorem IsB.apart (h : IsB V F w p N R) {bt g c : Nat} (hp : p = .pointer (some ⟨bt, 0, none⟩)) (hc : w.cell? ⟨bt, 0, none⟩ = some (.slice (some ⟨g, 0, none⟩) N c)) : bt ≠ g := by
 obtain ⟨bt', v, q, G, sl, rfl, rfl, h1, h2, h3, h4, _⟩ := h
 cases hp
 have : w.cell? ⟨bt, 0, none⟩ = some v := by simp [blk_cell h4]
 rw [hc] at this
 cases this
 exact fun e => h1 (by rw [e]; rfl)
def SetPost (V : World) (F : List Nat) (w : World) (p : Value) (N : Nat) (R : List (Int × Tm)) (n : Int) (x : Tm) (e : Ending) (w' : World) : Prop :=
 ∃ F' R', e = .returned (.int .i64 (setB N R n x)) ∧ IsB V F' w' p N R' ∧ Touch F w w' ∧ (∀ k ∈ F', k ∈ F ∨ w.heap.size ≤ k) ∧ ((setB N R n x = 0 ∧ ∃ y, R' = (n, y) :: R ∧ subT (fullB R) y = subT (fullB R) x) ∨ (¬ setB N R n x = 0 ∧ R' = R))
theorem SetPost.no (h : IsB V F w p N R) {n : Int} {x : Tm} {c : Int} (hc : setB N R n x = c) (h0 : ¬ c = 0) {w' : World} (hb : Below w.heap.size w w') : SetPost V F w p N R n x (.returned (.int .i64 c)) w' :=
 ⟨F, R, by rw [hc], h.ext hb, Touch.of_below hb F, fun k hk => Or.inl hk, Or.inr ⟨by rw [hc]; exact h0, rfl⟩⟩
set_option maxHeartbeats 8000000 in
set_option maxRecDepth 100000 in
theorem Set_at (h : IsB V F w p N R) {n : Int} (hn : I64 n) {x : Tm} {v : Value} (hv : TmV V x v) :
  Calls Try.prog 118 #[p, .int .i64 n, v] w (SetPost V F w p N R n x) := by
 obtain ⟨hT, hN⟩ := h.tri
 have HI := Lib.hid h
 have GI := fun (w1 : World) (hb : Below w.heap.size w w1) => given_at (h.ext hb) n hn
 have FI := fun (w1 : World) (hb : Below w.heap.size w w1) => fits_at' (h.ext hb) (TmV.stay (h.see.1.later hb) _ _ hv)
 obtain ⟨bt, av, cv, bs, rfl, hblt, hbc0, hbc1, hNc, hcm, hslots⟩ := h.open
 have HV := Lib.hid hv
 obtain ⟨kx, nx, sx, ax, mx, cx, rfl⟩ := hv.full
 obtain ⟨w1, e1, B1, z1, X1⟩ := box_new w #[.int .i64 kx, .int .i64 nx, .string sx, .slice ax mx cx] 31
 obtain ⟨a0, a1, a2, a3, af⟩ := X1.four
 have HB1 := Lib.hid (And.intro B1 X1)
 have G1 := GI w1 B1
 have F1 := FI w1 B1
 have HGI := Lib.hid GI
 have HFI := Lib.hid FI
 have HT := Lib.hid (And.intro hT hN)
 have HS := Lib.hid (And.intro hbc0 (And.intro hblt hslots))
 unfold maxLen at hcm
 unfold I64 at hn
 cases hgv : (decide (0 ≤ n) && decide (n < (N : Int)))
 ·have hc : setB N R n x = 1 := by unfold setB; rw [hgv]; rfl
  rw [hgv] at G1
  have HC := Lib.hid hc
  clear h hv hT hN B1 X1 GI FI F1 hslots hbc0 hbc1 hgv hc z1
  go_enter Try.func118, Try.ntmps118
  (go_wp2_with fail; go_fit (G1); rintro e w2 ⟨rfl, rfl⟩)
  go_wp2
  go_ret
  exact SetPost.no HI.out HC.out (by omega) HB1.out.1
 rw [hgv] at G1
 cases hft : fitsB N x
 ·have hc : setB N R n x = 1 := by unfold setB; rw [hgv, hft]; rfl
  rw [hft] at F1
  have HC := Lib.hid hc
  clear h hv hT hN B1 X1 GI FI hslots hbc0 hbc1 hgv hc hft z1
  go_enter Try.func118, Try.ntmps118
  (go_wp2_with fail; go_fit (G1); rintro e w2 ⟨rfl, rfl⟩)
  (go_wp2_with fail; go_fit (F1); rintro e w2 ⟨rfl, b2⟩)
  have HB2 := Lib.hid (HB1.out.1.trans (b2.mono HB1.out.1.size))
  clear b2
  go_wp2
  go_ret
  exact SetPost.no HI.out HC.out (by omega) HB2.out
 rw [hft] at F1
 have hn2 : 0 ≤ n ∧ n < (N : Int) := by simpa using hgv
 obtain ⟨i, hi⟩ : ∃ i : Nat, n = (i : Int) := ⟨n.toNat, by omega⟩
 subst hi
 have hiN : i < N := by omega
 obtain ⟨g, rfl, hsl⟩ := hslots i hiN
 rcases hsl with ⟨hfree, s0⟩ | ⟨t, tk, tm, ts, ta, tl, tc, hset, s0, _⟩
 ·have hok := fitsB_true.1 hft
  have RI := fun (w2 : World) (hb : Below w.heap.size w w2) => reaches_at (h.ext hb) hv hok.1 hok.2 hfree (A := decide ((i : Int) ∈ occT (subT (fullB R) x))) (by simp)
  have HRI := Lib.hid RI
  by_cases hocc : (i : Int) ∈ occT (subT (fullB R) x)
  ·have hc : setB N R i x = 5 := by unfold setB; rw [hgv, hft, hfree]; simp [hocc]
   have hdt : decide ((i : Int) ∈ occT (subT (fullB R) x)) = true := by simpa using hocc
   rw [hdt] at HRI
   have HC := Lib.hid hc
   have HS0 := Lib.hid (And.intro hbc0 s0)
   clear h hv hT hN B1 X1 GI FI hslots hbc0 hbc1 hgv hc hft s0 z1 hfree hocc hdt RI
   go_enter Try.func118, Try.ntmps118
   (go_wp2_with fail; go_fit (G1); rintro e w2 ⟨rfl, rfl⟩)
   (go_wp2_with fail; go_fit (F1); rintro e w2 ⟨rfl, b2⟩)
   have HB2 := Lib.hid (HB1.out.1.trans (b2.mono HB1.out.1.size))
   have d0 := cell_later HB2.out HS0.out.1
   have d1 := cell_later HB2.out HS0.out.2
   obtain ⟨x0, x1, x2, x3, xf⟩ := (HB1.out.2.ext b2).four
   clear b2
   (go_wp2_with fail; go_fit (HRI.out w2 HB2.out); rintro e w3 ⟨rfl, b3⟩)
   have HB3 := Lib.hid (HB2.out.trans (b3.mono HB2.out.size))
   clear b3
   go_wp2
   go_ret
   exact SetPost.no HI.out HC.out (by omega) HB3.out
  ·have hc : setB N R i x = 0 := by unfold setB; rw [hgv, hft, hfree]; simp [hocc]
   have hdt : decide ((i : Int) ∈ occT (subT (fullB R) x)) = false := by simpa using hocc
   rw [hdt] at HRI
   have WK := Lib.hid (fun (w3 : World) (hb : Below w.heap.size w w3) => Walk_at (h.ext hb) hv hok.1 hok.2)
   have HC := Lib.hid hc
   have HS0 := Lib.hid (And.intro hbc0 s0)
   have HNO := Lib.hid (And.intro hfree hocc)
   have HLT := Lib.hid h.lt
   have HNE := Lib.hid (And.intro (h.apart rfl hbc0) trivial)
   clear h hv hT hN B1 X1 GI FI hslots hbc0 hbc1 hgv hc hft s0 z1 hfree hocc hdt RI hok
   go_enter Try.func118, Try.ntmps118
   (go_wp2_with fail; go_fit (G1); rintro e w2 ⟨rfl, rfl⟩)
   (go_wp2_with fail; go_fit (F1); rintro e w2 ⟨rfl, b2⟩)
   have HB2 := Lib.hid (HB1.out.1.trans (b2.mono HB1.out.1.size))
   have d0 := cell_later HB2.out HS0.out.1
   have d1 := cell_later HB2.out HS0.out.2
   obtain ⟨x0, x1, x2, x3, xf⟩ := (HB1.out.2.ext b2).four
   have HX2 := Lib.hid (HB1.out.2.ext b2)
   clear b2
   (go_wp2_with fail; go_fit (HRI.out w2 HB2.out); rintro e w3 ⟨rfl, b3⟩)
   have HB3 := Lib.hid (HB2.out.trans (b3.mono HB2.out.size))
   clear x0 x1 x2 x3 xf d0 d1
   obtain ⟨x0, x1, x2, x3, xf⟩ := (HX2.out.ext b3).four
   have d0 := cell_later HB3.out HS0.out.1
   clear b3
   go_wp2_with fail
   refine wp_region_held_drew (S := fun w' => w'.cell? ⟨bt, 0, none⟩ = some (.slice (some ⟨g, 0, none⟩) N cv) ∧ w'.cell? ⟨w.heap.size, 0, none⟩ = some (.int .i64 kx) ∧ w'.cell? ⟨w.heap.size, 1, none⟩ = some (.int .i64 nx) ∧ w'.cell? ⟨w.heap.size, 2, none⟩ = some (.string sx) ∧ w'.cell? ⟨w.heap.size, 3, none⟩ = some (.slice ax mx cx)) (by kernel_rfl) ⟨d0, x0, x1, x2, x3⟩ (fun hHeld => ?_)
   first | (refine held_t (i := 0) hHeld ?_; constructor; constructor; intro wq hq; focus ((try dsimp only at hq); go_simp; first | done | with_reducible rfl | fail)) | refine held_s (i := 0) hHeld ?_ | fail
   first | (refine held_t (i := 1) hHeld ?_; constructor; constructor; intro wq hq; focus ((try dsimp only at hq); go_simp; first | done | with_reducible rfl | fail)) | refine held_s (i := 1) hHeld ?_ | fail
   first | (refine held_t (i := 2) hHeld ?_; constructor; constructor; intro wq hq; focus ((try dsimp only at hq); go_simp; first | done | with_reducible rfl | fail)) | refine held_s (i := 2) hHeld ?_ | fail
   first | (refine held_t (i := 3) hHeld ?_; constructor; constructor; intro wq hq; focus ((try dsimp only at hq); go_simp; first | done | with_reducible rfl | fail)) | refine held_s (i := 3) hHeld ?_ | fail
   first | (refine held_t (i := 4) hHeld ?_; constructor; constructor; intro wq hq; focus ((try dsimp only at hq); go_simp; first | done | with_reducible rfl | fail)) | refine held_s (i := 4) hHeld ?_ | fail
   first | (refine held_t (i := 5) hHeld ?_; constructor; constructor; intro wq hq; focus ((try dsimp only at hq); go_simp; first | done | with_reducible rfl | fail)) | refine held_s (i := 5) hHeld ?_ | fail
   first | (refine held_t (i := 6) hHeld ?_; constructor; constructor; intro wq hq; focus ((try dsimp only at hq); go_simp; first | done | with_reducible rfl | fail)) | refine held_s (i := 6) hHeld ?_ | fail
   try simp only [Act.put, lay4]
   refine held_c 7 fun K hK => ?_
   go_simp
   (go_at_call 99; refine (WK.out _ HB3.out.drew).mono ?_; rintro e w4 ⟨y, v4, rfl, hy, hwk, htop, b4⟩; obtain ⟨k, m, s, a, l, c, rfl, fk, fn, fs, fv⟩ := four_of hy; clear fv fk fn fs; have hb4 := HB3.out.drew.trans (b4.mono HB3.out.drew.size); obtain ⟨bt', g', bs', cv', G, hp, _, hgl, hgF, hbF, q0, q1, _, _, hex, hfz, hst, hc1, htF, hfin⟩ := (HI.out.ext hb4).store hiN HNO.out.1 hy hwk.good hwk.rng (by rw [hwk.same]; exact HNO.out.2); cases hp; have hgg := (q0.symm.trans (cell_later b4 hHeld.1)); simp only [Option.some.injEq, Value.slice.injEq, Addr.mk.injEq, and_true, true_and] at hgg; obtain ⟨rfl, rfl⟩ := hgg; obtain ⟨u0, k0⟩ := hex 0 (by omega); obtain ⟨u1, k1⟩ := hex 1 (by omega); obtain ⟨u2, k2⟩ := hex 2 (by omega); obtain ⟨u3, k3⟩ := hex 3 (by omega); obtain ⟨u4, k4⟩ := hex 4 (by omega); rw [Nat.add_zero] at k0; have hgl2 := HLT.out _ hgF; have HST := Lib.hid (And.intro hst (And.intro hc1 (And.intro htF (And.intro hfin (And.intro hwk.same (And.intro hwk.good hwk.rng)))))); have HB4 := Lib.hid hb4; clear hst hc1 htF hfin hex hwk htop hy q0 q1 hbF hgF hb4)
   refine hK.out _ _ (⟨cell_later b4 hHeld.1, cell_later b4 hHeld.2.1, cell_later b4 hHeld.2.2.1, cell_later b4 hHeld.2.2.2.1, cell_later b4 hHeld.2.2.2.2⟩) (fun hHeld => ?_)
   clear hK K
   try simp only [Act.put, lay4]
   first | (refine held_t (i := 8) hHeld ?_; constructor; constructor; intro wq hq; focus ((try dsimp only at hq); go_simp; first | done | with_reducible rfl | fail)) | refine held_s (i := 8) hHeld ?_ | fail
   first | (refine held_t (i := 9) hHeld ?_; constructor; constructor; intro wq hq; focus ((try dsimp only at hq); go_simp; first | done | with_reducible rfl | fail)) | refine held_s (i := 9) hHeld ?_ | fail
   try simp only [Act.put, lay4]
   refine held_c 10 fun K hK => ?_
   go_simp
   skip
   refine hK.out _ _ (⟨far5 _ _ _ _ _ hHeld.1 HNE.out.1, far5 _ _ _ _ _ hHeld.2.1 (by omega), far5 _ _ _ _ _ hHeld.2.2.1 (by omega), far5 _ _ _ _ _ hHeld.2.2.2.1 (by omega), far5 _ _ _ _ _ hHeld.2.2.2.2 (by omega)⟩) (fun hHeld => ?_)
   clear hK K
   try simp only [Act.put, lay4]
   refine wpAnyH_done (by kernel_rfl) ?_ _
   obtain ⟨w5, e5⟩ : ∃ w5, put5 w4 g' (i * 5) (.bool true) (.int .i64 k) (.int .i64 m) (.string s) (.slice a l c) = w5 := ⟨_, rfl⟩
   rw [e5] at HST
   have q1 := HST.out.2.1
   unfold put5 at e5
   (try rw [e5])
   clear e5 k0 k1 k2 k3 k4 x0 x1 x2 x3 d0 hHeld
   obtain ⟨hst, hc1, htF, hfin, hsame, hgood, hrng⟩ := HST.out
   have hlen : R.length + 1 ≤ 65536 := by
    have := dom_len (show Tri N (((i : Int), y) :: R) from ⟨HT.out.1, by omega, by omega, get_none.1 HNO.out.1, hgood, hrng, by rw [hsame]; exact HNO.out.2⟩)
    have := HT.out.2
    simp at *
    omega
   have hb6 := bel1' w5 (.cells #[.int .i64 i] 2)
   have C := push_yesL (hst.ext hb6) (some ⟨w5.heap.size, 0, none⟩) 1 1 [.int .i64 i] rfl (Or.inr ⟨_, rfl, fun j u hu => cell_new w5 #[.int .i64 i] 2 j u hu⟩) (fun u hu => by simp at hu; subst hu; rfl) (by rw [show (trailV R).length = R.length by simp [trailV]]; exact hlen)
   have HFI2 := Lib.hid (fun w8 G' h1 h2 h3 => hfin (w5.alloc (.cells #[.int .i64 i] 2)) w8 G' (hb6.mono (by have := htF.size; exact this)) h1 h2 h3)
   have HSM := Lib.hid hsame
   clear hst hc1 htF hfin hsame hgood hrng hlen hb6
   go_wp2_with fail
   go_fit (C)
   rintro e w8 ⟨rfl, G', hs8, ht8, hG8⟩
   obtain ⟨F', hI8, hT8, hin8⟩ := HFI2.out w8 G' hs8 ht8 hG8
   have HFIN := Lib.hid (show SetPost V F w (.pointer (some ⟨bt, 0, none⟩)) N R i x (.returned (.int .i64 0)) w8 from ⟨F', _, by rw [HC.out], hI8, (Touch.of_below HB4.out F).trans hT8 (fun k hk => Or.inl hk), fun k hk => (hin8 k hk).imp id (fun h => by have := HB4.out.size; omega), Or.inl ⟨HC.out, y, rfl, HSM.out⟩⟩)
   clear hs8 ht8 hG8 hI8 hT8 hin8 C
   go_wp2
   go_ret
   exact HFIN.out
 ·have hc : setB N R i x = 8 := by unfold setB; rw [hgv, hft, hset]; rfl
  have HC := Lib.hid hc
  have HS0 := Lib.hid (And.intro hbc0 s0)
  clear h hv hT hN B1 X1 GI FI hslots hbc0 hbc1 hgv hc hft s0 z1 hset
  go_enter Try.func118, Try.ntmps118
  (go_wp2_with fail; go_fit (G1); rintro e w2 ⟨rfl, rfl⟩)
  (go_wp2_with fail; go_fit (F1); rintro e w2 ⟨rfl, b2⟩)
  have HB2 := Lib.hid (HB1.out.1.trans (b2.mono HB1.out.1.size))
  have d0 := cell_later HB2.out HS0.out.1
  have d1 := cell_later HB2.out HS0.out.2
  clear b2
  go_wp2
  go_ret
  exact SetPost.no HI.out HC.out (by omega) HB2.out
end
end Go.Proofs.Ytchbbaehdcmcfaa
/- Terms: how deep one is asked of. -/
namespace Go.Proofs.Ytchbbaehdcmcfaa
open Go.RowKit
set_option linter.unusedVariables false
mutual
def deepT : Tm → Int → Bool
 | .mk _ _ _ ts, left => if left < 1 ∨ 12 < ts.length then true else deepsT ts (left - 1)
def deepsT : List Tm → Int → Bool
 | [], _ => false
 | x :: r, left => deepT x left || deepsT r left
end
end Go.Proofs.Ytchbbaehdcmcfaa
/- Stage 11's laws: awake. -/
namespace Go.Proofs.Ytchbbaehdcmcfaa
open Go.RowKit
set_option linter.unusedVariables false
theorem Touch.own {F : List Nat} {W w w' : World} (hb : Below W.heap.size W w) (ht : Touch F w w') (hF : ∀ k ∈ F, W.heap.size ≤ k) : Below W.heap.size W w' := hb.trans (ht.below hb.size hF)
end Go.Proofs.Ytchbbaehdcmcfaa
/- Package bind: a variable that stands for nothing is answered as it came; what is read beside a Binds. -/
namespace Go.Proofs.Ytchbbaehdcmcfaa
open Go.RowKit
set_option linter.unusedVariables false
section
variable {V w : World} {F : List Nat} {p : Value} {N : Nat} {R : List (Int × Tm)}
def awayB (F : List Nat) : Nat → Bool := fun k => decide (k ∈ F)
theorem IsB.rebase (h : IsB V F w p N R) : IsB (hide (awayB F) w) F w p N R := by
 obtain ⟨hs, hb⟩ := h.see
 refine h.from ⟨by rw [hide_size]; exact hs.1, fun a v hv => ?_⟩ (Stays.unhide _ _) (fun a ha => hide_gone _ _ _ (by simp [awayB, ha]))
 have hn : ¬ a.block ∈ F := fun hm => by rw [hb a hm] at hv; cases hv
 rw [hide_cell _ _ _ (by simp [awayB, hn])]
 exact hs.2 a v hv
theorem TmV.away {n : Nat} {x : Tm} {v : Value} (hF : ∀ k ∈ F, k < n) (h : TmV (hide (under n) w) x v) : TmV (hide (awayB F) w) x v :=
 TmV.stay (Stays.less fun k hk => by
  have hk' : n ≤ k := by simpa using hk
  simp only [awayB, decide_eq_false_iff_not]
  intro hm
  have := hF k hm
  omega) _ _ h
end
end Go.Proofs.Ytchbbaehdcmcfaa
/- Stage 11's laws: BindWhole. -/
namespace Go.Proofs.Ytchbbaehdcmcfaa
open Go.RowKit
set_option linter.unusedVariables false
mutual
theorem mem_vars {n : Int} : ∀ (t : Tm) (l : List Int), n ∈ varsT t l ↔ n ∈ l ∨ n ∈ occT t
 | .mk k m s ts, l => by
  rw [varsT, occT]
  by_cases hk : k = 0
  ·rw [if_pos hk, if_pos hk]
   by_cases hm : l.contains m = true
   ·rw [if_pos hm]
    have hm' : m ∈ l := by simpa using hm
    constructor
    ·exact Or.inl
    ·rintro (h | h)
     ·exact h
     ·simp at h; subst h; exact hm'
   ·rw [if_neg hm]
    simp
  ·rw [if_neg hk, if_neg hk]
   exact mem_varss ts l
theorem mem_varss {n : Int} : ∀ (ts : List Tm) (l : List Int), n ∈ varsL ts l ↔ n ∈ l ∨ n ∈ occL ts
 | [], l => by simp [varsL, occL]
 | x :: r, l => by
  rw [varsL, occL, mem_varss r, mem_vars x, List.mem_append, or_assoc]
end
theorem six : ∀ i : Nat, i < 6 → i < 65536 := by omega
end Go.Proofs.Ytchbbaehdcmcfaa
/- Terms: the document's Size, Depth. -/
namespace Go.Proofs.Ytchbbaehdcmcfaa
open Go.RowKit
set_option linter.unusedVariables false
theorem sizes_drop : ∀ {ts : List Tm} {i : Nat} {y : Tm}, ts[i]? = some y → sizesN (ts.take (i + 1)) = sizesN (ts.take i) + sizeN y
 | x :: r, 0, y, h => by
  simp at h; subst h
  simp [sizesN]
 | x :: r, i + 1, y, h => by
  have := sizes_drop (ts := r) (i := i) (y := y) (by simpa using h)
  simp only [List.take_succ_cons, sizesN, this]
  omega
 | [], i, y, h => by simp at h
theorem depths_drop : ∀ {ts : List Tm} {i : Nat} {y : Tm}, ts[i]? = some y → depthsN (ts.take (i + 1)) = max (depthsN (ts.take i)) (depthN y)
 | x :: r, 0, y, h => by
  simp at h; subst h
  simp [depthsN]
 | x :: r, i + 1, y, h => by
  have := depths_drop (ts := r) (i := i) (y := y) (by simpa using h)
  simp only [List.take_succ_cons, depthsN, this]
  omega
 | [], i, y, h => by simp at h
theorem sizes_take (ts : List Tm) (i : Nat) : sizesN (ts.take i) ≤ sizesN ts := by
 induction ts generalizing i with
 | nil => simp
 | cons x r ih =>
  cases i with
  | zero => simp [sizesN]
  | succ i =>
   simp only [List.take_succ_cons, sizesN]
   have := ih i
   omega
set_option maxHeartbeats 2000000 in
set_option maxRecDepth 100000 in
theorem rsize_at : ∀ (N : Nat) (x : Tm), sizeN x ≤ N → ∀ (q : Nat), q ≤ 1000000 → ∀ (w : World) (v : Value), TmV w x v →
  Calls Try.prog 76 #[v, .int .i64 q] w fun e w' => e = .returned (.int .i64 (min (sizeN x) (q + 1) : Nat)) ∧ Below w.heap.size w w'
 | 0, x, h, q, hq, w, v, hv => by have := size_pos x; omega
 | N + 1, .mk k n s ts, h, q, hq, w, v, hv => by
  obtain ⟨u, rfl, hs, hk, hn, hu⟩ := tmV_iff.1 hv
  obtain ⟨a, c, rfl, h1, h2, h3⟩ := hu.len
  unfold BIG at h3
  obtain ⟨m, hm⟩ : ∃ m, ts.length = m := ⟨_, rfl⟩
  have IH := Lib.hid (fun (y : Tm) (hy : y ∈ ts) => rsize_at N y (mem_size h hy))
  have HU := Lib.hid hu
  have HM := Lib.hid hm
  rw [hm] at h1 h3 hu HU ⊢
  obtain ⟨r, hr⟩ : ∃ r, min (sizeN (.mk k n s ts)) (q + 1) = r := ⟨_, rfl⟩
  rw [hr]
  have HR := Lib.hid (show min (sizesN ts + 1) (q + 1) = r by rw [← hr, sizeN])
  clear hv hu hm hr h
  go_enter Try.func76, Try.ntmps76
  go_wp2_with fail
  go_loopw [5, 6] (fun z v wr => ∃ i t : Nat, i ≤ m ∧ v = .int .i64 i ∧ z = .int .i64 t ∧ Hid (t = min (sizesN (ts.take i) + 1) (q + 1)) ∧ t ≤ q + 1 ∧ Hid (Below (w.alloc (.cells #[.int .i64 k, .int .i64 n, .string s, .slice a m c] 54)).heap.size (w.alloc (.cells #[.int .i64 k, .int .i64 n, .string s, .slice a m c] 54)) wr)) (fun _ v _ => m - (RowKit.intOf v).toNat)
  case atStart => exact ⟨0, 1, Nat.zero_le _, rfl, rfl, Lib.hid (by simp [sizesN]), by omega, Lib.hid (Below.refl _ _)⟩
  case round =>
   obtain ⟨i, t, hi, rfl, rfl, HT, ht, HB⟩ := hrel
   obtain ⟨e0, e1, e2, e3⟩ := box_cells w 54 _ _ _ _ HB.out
   have HBW := Lib.hid (Ext.trans' (bel1' w _) HB.out)
   by_cases hil : i < m
   ·obtain ⟨y, hy⟩ : ∃ y, ts[i]? = some y := ⟨_, List.getElem?_eq_getElem (by rw [HM.out]; exact hil)⟩
    have hst := sizes_take ts (i + 1)
    have hds := sizes_drop hy
    by_cases htq : t ≤ q
    ·obtain ⟨b, off, k', n', s', u', rfl, hbb, _, _, _, c0, c1, c2, c3, _, hty⟩ := (HU.out.ext HBW.out).get hy
     obtain ⟨d, hd⟩ : ∃ d, q - t = d := ⟨_, rfl⟩
     have hqt : (q : Int) - t = d := by omega
     have ih := IH.out y (List.mem_of_getElem? hy) d (by omega) wr _ hty
     obtain ⟨z, hz⟩ : ∃ z, min (sizeN y) (d + 1) = z := ⟨_, rfl⟩
     rw [hz] at ih
     have HN : Hid (t + z = min (sizesN (ts.take (i + 1)) + 1) (q + 1)) := Lib.hid (by
      have := HT.out
      rw [hds]
      omega)
     have hzd : z ≤ d + 1 := by omega
     have hzq : t + z ≤ q + 1 := by omega
     clear hst hds hz hy hty hd HT
     (go_wp2_with fail; go_fit (ih); rintro e w2 ⟨rfl, b2⟩)
     have B2 := Lib.hid (Ext.trans' HB.out b2)
     clear b2
     go_wp2
     go_roundw
     case rel => exact ⟨i + 1, t + z, by omega, by go_num, by go_num, HN, hzq, B2⟩
     case measure => simp [RowKit.intOf]; omega
    ·have hrt : t = r := by
      have a1 := HT.out
      have a2 := HR.out
      have a3 := sizes_take ts i
      omega
     subst hrt
     clear hst hds hy
     go_wp2
     go_ret
     exact ⟨rfl, HBW.out⟩
   ·have hrt : t = r := by
     have a1 := HT.out
     have a2 := HR.out
     rw [List.take_of_length_le (by rw [HM.out]; omega)] at a1
     omega
    subst hrt
    go_wp2
    go_ret
    exact ⟨rfl, HBW.out⟩
set_option maxHeartbeats 2000000 in
set_option maxRecDepth 100000 in
theorem rdepth_at : ∀ (q : Nat) (x : Tm), q ≤ 1000000 → ∀ (w : World) (v : Value), TmV w x v →
  Calls Try.prog 77 #[v, .int .i64 q] w fun e w' => e = .returned (.int .i64 (min (depthN x) (q + 1) : Nat)) ∧ Below w.heap.size w w'
 | 0, .mk k n s ts, hq, w, v, hv => by
  obtain ⟨u, rfl, hs, hk, hn, hu⟩ := tmV_iff.1 hv
  rw [show min (depthN (.mk k n s ts)) (0 + 1) = 1 by have := depth_pos (.mk k n s ts); omega]
  go_enter Try.func77, Try.ntmps77
  go_wp2
  go_ret
  exact ⟨rfl, bel1' _ _⟩
 | q + 1, .mk k n s ts, hq, w, v, hv => by
  obtain ⟨u, rfl, hs, hk, hn, hu⟩ := tmV_iff.1 hv
  obtain ⟨a, c, rfl, h1, h2, h3⟩ := hu.len
  unfold BIG at h3
  obtain ⟨m, hm⟩ : ∃ m, ts.length = m := ⟨_, rfl⟩
  have IH := Lib.hid (fun (y : Tm) => rdepth_at q y (by omega))
  have HU := Lib.hid hu
  have HM := Lib.hid hm
  rw [hm] at h1 h3 hu HU ⊢
  obtain ⟨r, hr⟩ : ∃ r, min (depthN (.mk k n s ts)) (q + 1 + 1) = r := ⟨_, rfl⟩
  rw [hr]
  have HR := Lib.hid (show min (depthsN ts + 1) (q + 2) = r by rw [← hr, depthN])
  clear hv hu hm hr
  obtain ⟨Q, hQ⟩ : ∃ Q : Int, ((q + 1 : Nat) : Int) = Q := ⟨_, rfl⟩
  rw [hQ]
  have hq1 : Q - 1 = q := by omega
  have hQ0 : ¬ Q ≤ 0 := by omega
  have hQb : Q ≤ 1000000 := by omega
  clear hQ
  go_enter Try.func77, Try.ntmps77
  go_wp2_with fail
  go_loopw [5, 6] (fun z v wr => ∃ i t : Nat, i ≤ m ∧ v = .int .i64 i ∧ z = .int .i64 t ∧ Hid (t = min (depthsN (ts.take i)) (q + 1)) ∧ t ≤ q + 1 ∧ Hid (Below (w.alloc (.cells #[.int .i64 k, .int .i64 n, .string s, .slice a m c] 54)).heap.size (w.alloc (.cells #[.int .i64 k, .int .i64 n, .string s, .slice a m c] 54)) wr)) (fun _ v _ => m - (RowKit.intOf v).toNat)
  case atStart => exact ⟨0, 0, Nat.zero_le _, rfl, rfl, Lib.hid (by simp [depthsN]), by omega, Lib.hid (Below.refl _ _)⟩
  case round =>
   obtain ⟨i, t, hi, rfl, rfl, HT, ht, HB⟩ := hrel
   obtain ⟨e0, e1, e2, e3⟩ := box_cells w 54 _ _ _ _ HB.out
   have HBW := Lib.hid (Ext.trans' (bel1' w _) HB.out)
   by_cases hil : i < m
   ·obtain ⟨y, hy⟩ : ∃ y, ts[i]? = some y := ⟨_, List.getElem?_eq_getElem (by rw [HM.out]; exact hil)⟩
    have hds := depths_drop hy
    obtain ⟨b, off, k', n', s', u', rfl, hbb, _, _, _, c0, c1, c2, c3, _, hty⟩ := (HU.out.ext HBW.out).get hy
    have ih := IH.out y wr _ hty
    obtain ⟨z, hz⟩ : ∃ z, min (depthN y) (q + 1) = z := ⟨_, rfl⟩
    rw [hz] at ih
    have HN : Hid (max t z = min (depthsN (ts.take (i + 1))) (q + 1)) := Lib.hid (by
     have := HT.out
     rw [hds]
     omega)
    have hzd : z ≤ q + 1 := by omega
    clear hds hz hy hty HT
    by_cases htz : t < z
    ·have HM2 := Lib.hid (show max t z = z by omega)
     (go_wp2_with fail; go_fit (ih); rintro e w2 ⟨rfl, b2⟩)
     have B2 := Lib.hid (Ext.trans' HB.out b2)
     clear b2
     go_wp2
     go_roundw
     case rel => exact ⟨i + 1, z, by omega, by go_num, rfl, Lib.hid (by rw [← HN.out, HM2.out]), hzd, B2⟩
     case measure => simp [RowKit.intOf]; omega
    ·have HM2 := Lib.hid (show max t z = t by omega)
     (go_wp2_with fail; go_fit (ih); rintro e w2 ⟨rfl, b2⟩)
     have B2 := Lib.hid (Ext.trans' HB.out b2)
     clear b2
     go_wp2
     go_roundw
     case rel => exact ⟨i + 1, t, by omega, by go_num, rfl, Lib.hid (by rw [← HN.out, HM2.out]), ht, B2⟩
     case measure => simp [RowKit.intOf]; omega
   ·have hrt : t + 1 = r := by
     have a1 := HT.out
     have a2 := HR.out
     rw [List.take_of_length_le (by rw [HM.out]; omega)] at a1
     omega
    subst hrt
    go_wp2
    go_ret
    exact ⟨ret_int (by omega), HBW.out⟩
end Go.Proofs.Ytchbbaehdcmcfaa
/- Terms: which the document's own calls good. -/
namespace Go.Proofs.Ytchbbaehdcmcfaa
open Go.RowKit
set_option linter.unusedVariables false
theorem formed_mk (k n : Int) (s : ByteArray) (ts : List Tm) : formedT (.mk k n s ts) = (plainT k n s.data.toList ts.length && formedL ts) := by rw [formedT]
theorem formed_no {k n : Int} {s : ByteArray} {ts : List Tm} (h : plainT k n s.data.toList ts.length = false) : formedT (.mk k n s ts) = false := by rw [formed_mk, h]; rfl
theorem formed_leaf {k n : Int} {s : ByteArray} (h : plainT k n s.data.toList 0 = true) : formedT (.mk k n s []) = true := by rw [formed_mk]; show (plainT k n s.data.toList 0 && formedL []) = true; rw [h, formedL]; rfl
theorem isEmpty_size (s : ByteArray) : s.data.toList.isEmpty = decide (s.size = 0) := by
 have h : s.data.toList.length = s.size := rfl
 cases hq : s.data.toList with
 | nil => rw [hq] at h; simp at h; simp [← h]
 | cons a r =>
  rw [hq, List.length_cons] at h
  rw [decide_eq_false (by omega)]
  rfl
theorem toList_empty {s : ByteArray} (h : s.size = 0) : s.toList.isEmpty = true := by rw [Lib.toList_data, isEmpty_size]; simpa using h
theorem toList_some {s : ByteArray} (h : ¬ s.size = 0) : s.toList.isEmpty = false := by rw [Lib.toList_data, isEmpty_size]; simpa using h
theorem letter_eq : ∀ c : UInt8, letterB c = (((c.toNat : Int) == 9) || ((c.toNat : Int) == 10) || (!decide ((c.toNat : Int) < 32) && !decide (126 < (c.toNat : Int)))) := by
 intro c
 have h : ((List.range 256).all fun n => letterB (UInt8.ofNat n) == ((((UInt8.ofNat n).toNat : Int) == 9) || (((UInt8.ofNat n).toNat : Int) == 10) || (!decide (((UInt8.ofNat n).toNat : Int) < 32) && !decide (126 < ((UInt8.ofNat n).toNat : Int))))) = true := by decide +kernel
 have h1 := List.all_eq_true.1 h c.toNat (List.mem_range.2 c.toNat_lt)
 have e : UInt8.ofNat c.toNat = c := by simp
 rw [e] at h1
 exact eq_of_beq h1
set_option maxHeartbeats 4000000 in
set_option maxRecDepth 100000 in
theorem rformed_two {s : ByteArray} {ts : List Tm} {w : World} {a : Option Addr} {m c : Nat} (hs : s.size ≤ 140737488351232) (h1 : m ≤ c) (h2 : c ≤ maxLen) (h3 : m * 56 ≤ 140737488351232) (g2 : ¬ 64 < s.size) (g3 : ¬ 8 < m) (HM : Hid (ts.length = m)) (HU : Hid (Tms w (.slice a m c) ts))
  (HP : Hid (formedT (.mk 2 0 s ts) = (s.data.toList.all letterB && formedL ts)))
  (IH : Hid (∀ y ∈ ts, ∀ (w : World) (v : Value), TmV w y v → Calls Try.prog 78 #[v] w fun e w' => e = .returned (.bool (formedT y)) ∧ Below w.heap.size w w')) :
  Calls Try.prog 78 #[.agg #[.int .i64 2, .int .i64 0, .string s, .slice a m c]] w fun e w' => e = .returned (.bool (formedT (.mk 2 0 s ts))) ∧ Below w.heap.size w w' := by
 obtain ⟨r, hr⟩ : ∃ r, formedT (.mk 2 0 s ts) = r := ⟨_, rfl⟩
 rw [hr]
 have HR := Lib.hid (HP.out.symm.trans hr)
 clear hr HP
 go_enter Try.func78, Try.ntmps78
 go_wp2_with fail
 go_loopw [3] (fun z wr => ∃ i : Nat, i ≤ s.size ∧ z = .int .i64 i ∧ Hid (∀ j (hj : j < s.size), j < i → letterB s[j] = true) ∧ wr = w.alloc (.cells #[.int .i64 2, .int .i64 0, .string s, .slice a m c] 54)) (fun z _ => s.size - (RowKit.intOf z).toNat)
 case atStart => exact ⟨0, Nat.zero_le _, rfl, Lib.hid (fun j _ h => by omega), rfl⟩
 case round =>
  obtain ⟨i, hi, rfl, HL, rfl⟩ := hrel
  by_cases hil : i < s.size
  ·cases hq : letterB s[i]
   ·have hlq := letter_eq s[i]
    rw [hq] at hlq
    have hall : s.data.toList.all letterB = false := by
     rw [List.all_eq_false]
     exact ⟨s.data.toList[i]'hil, List.getElem_mem _, by show ¬ letterB s[i] = true; rw [hq]; simp⟩
    have hrf : r = false := by rw [← HR.out, hall]; rfl
    subst hrf
    obtain ⟨z, hz⟩ : ∃ z : Int, (s[i].toNat : Int) = z := ⟨_, rfl⟩
    rw [hz] at hlq
    have e9 : (z == 9) = false := by
     cases h : (z == 9)
     ·rfl
     ·rw [h] at hlq; cases hlq
    have e10 : (z == 10) = false := by
     cases h : (z == 10)
     ·rfl
     ·rw [h, Bool.or_true] at hlq; cases hlq
    rw [e9, e10, Bool.false_or, Bool.false_or] at hlq
    have n9 : (z != 9) = true := by unfold bne; rw [e9]; rfl
    have n10 : (z != 10) = true := by unfold bne; rw [e10]; rfl
    clear e9 e10
    clear hall hq HR HL
    by_cases h32 : z < 32
    ·clear hlq
     go_wp2
     go_ret
     exact ⟨rfl, bel1' _ _⟩
    ·have h126 : 126 < z := by
      simp [h32] at hlq
      omega
     clear hlq
     go_wp2
     go_ret
     exact ⟨rfl, bel1' _ _⟩
   ·have hlq := letter_eq s[i]
    rw [hq] at hlq
    have HN : Hid (∀ j (hj : j < s.size), j < i + 1 → letterB s[j] = true) := Lib.hid (fun j hj h => by
     by_cases e : j = i
     ·subst e; exact hq
     ·exact HL.out j hj (by omega))
    obtain ⟨z, hz⟩ : ∃ z : Int, (s[i].toNat : Int) = z := ⟨_, rfl⟩
    rw [hz] at hlq
    clear hq HL
    by_cases e9 : z = 9
    ·subst e9
     clear hlq
     go_wp2
     go_roundw
     case rel => exact ⟨i + 1, by omega, by go_num, HN, trivial⟩
     case measure => simp [RowKit.intOf]; omega
    have e9' : (z == 9) = false := beq_false_of_ne e9
    by_cases e10 : z = 10
    ·subst e10
     clear hlq
     go_wp2
     go_roundw
     case rel => exact ⟨i + 1, by omega, by go_num, HN, trivial⟩
     case measure => simp [RowKit.intOf]; omega
    have e10' : (z == 10) = false := beq_false_of_ne e10
    rw [e9', e10'] at hlq
    have h32 : ¬ z < 32 := fun hh => by simp [hh] at hlq
    have h126 : ¬ 126 < z := fun hh => by simp [hh] at hlq
    have n9 : (z != 9) = true := by unfold bne; rw [e9']; rfl
    have n10 : (z != 10) = true := by unfold bne; rw [e10']; rfl
    clear hlq e9 e10 e9' e10'
    go_wp2
    go_roundw
    case rel => exact ⟨i + 1, by omega, by go_num, HN, trivial⟩
    case measure => simp [RowKit.intOf]; omega
  ·have hall : s.data.toList.all letterB = true := by
    rw [List.all_eq_true]
    intro x hx
    obtain ⟨j, hj, rfl⟩ := List.getElem_of_mem hx
    exact HL.out j hj (by have : j < s.size := hj; omega)
   have HR2 := Lib.hid (show formedL ts = r by rw [← HR.out, hall]; rfl)
   clear hall HR HL
   go_wp2_with fail
   go_loopw [5] (fun v wr => ∃ i : Nat, i ≤ m ∧ v = .int .i64 i ∧ Hid (formedL (ts.drop i) = r) ∧ Hid (Below (w.alloc (.cells #[.int .i64 2, .int .i64 0, .string s, .slice a m c] 54)).heap.size (w.alloc (.cells #[.int .i64 2, .int .i64 0, .string s, .slice a m c] 54)) wr)) (fun v _ => m - (RowKit.intOf v).toNat)
   case atStart => exact ⟨0, Nat.zero_le _, rfl, Lib.hid (by rw [List.drop_zero]; exact HR2.out), Lib.hid (Below.refl _ _)⟩
   case round =>
    obtain ⟨i, hi, rfl, HD, HB⟩ := hrel
    obtain ⟨e0, e1, e2, e3⟩ := box_cells w 54 _ _ _ _ HB.out
    by_cases hil : i < m
    ·obtain ⟨y, hy⟩ : ∃ y, ts[i]? = some y := ⟨_, List.getElem?_eq_getElem (by rw [HM.out]; exact hil)⟩
     have hdr : ts.drop i = y :: ts.drop (i + 1) := by
      obtain ⟨hlt', rfl⟩ := List.getElem?_eq_some_iff.1 hy
      exact List.drop_eq_getElem_cons hlt'
     have hd := HD.out
     rw [hdr, formedL] at hd
     have HBW := Lib.hid (Ext.trans' (bel1' w _) HB.out)
     obtain ⟨b, off, k', n', s', u', rfl, hbb, _, _, _, c0, c1, c2, c3, _, ht⟩ := (HU.out.ext HBW.out).get hy
     have ih := IH.out y (List.mem_of_getElem? hy) wr _ ht
     clear hdr HD ht
     cases hq : formedT y
     ·rw [hq, Bool.false_and] at hd
      rw [hq] at ih
      subst hd
      clear hq hy HR2
      (go_wp2_with fail; go_fit (ih); rintro e w2 ⟨rfl, b2⟩)
      have B2 := Lib.hid (Ext.trans' HBW.out b2)
      clear b2
      go_wp2
      go_ret
      exact ⟨rfl, B2.out⟩
     ·rw [hq, Bool.true_and] at hd
      rw [hq] at ih
      have HD := Lib.hid hd
      clear hq hd hy
      (go_wp2_with fail; go_fit (ih); rintro e w2 ⟨rfl, b2⟩)
      have B2 := Lib.hid (Ext.trans' HB.out b2)
      clear b2
      go_wp2
      go_roundw
      case rel => exact ⟨i + 1, by omega, by go_num, HD, B2⟩
      case measure => simp [RowKit.intOf]; omega
    ·have hd := HD.out
     rw [List.drop_eq_nil_of_le (by rw [HM.out]; omega), formedL] at hd
     subst hd
     clear HR2 HD
     go_wp2
     go_ret
     exact ⟨rfl, Ext.trans' (bel1' w _) HB.out⟩
end Go.Proofs.Ytchbbaehdcmcfaa
/- Terms: which the document's own calls good: all of it. -/
namespace Go.Proofs.Ytchbbaehdcmcfaa
open Go.RowKit
set_option linter.unusedVariables false
set_option maxHeartbeats 4000000 in
set_option maxRecDepth 100000 in
theorem rformed_at : ∀ (N : Nat) (x : Tm), sizeN x ≤ N → ∀ (w : World) (v : Value), TmV w x v →
  Calls Try.prog 78 #[v] w fun e w' => e = .returned (.bool (formedT x)) ∧ Below w.heap.size w w'
 | 0, x, h, w, v, hv => by have := size_pos x; omega
 | N + 1, .mk k n s ts, h, w, v, hv => by
  obtain ⟨u, rfl, hs, hk, hn, hu⟩ := tmV_iff.1 hv
  obtain ⟨a, c, rfl, h1, h2, h3⟩ := hu.len
  unfold BIG at h3 hs
  obtain ⟨m, hm⟩ : ∃ m, ts.length = m := ⟨_, rfl⟩
  by_cases k0 : k = 0
  ·subst k0
   have hp : plainT 0 n s.data.toList ts.length = (decide (0 ≤ n) && decide (n < 2147483648) && decide (s.size = 0) && decide (m = 0)) := by
    unfold plainT; rw [if_pos rfl, isEmpty_size, hm]
   by_cases g1 : 0 ≤ n
   ·by_cases g2 : n < 2147483648
    ·by_cases g3 : s.size = 0
     ·have g3' := toList_empty g3
      by_cases g4 : m = 0
      ·obtain rfl : ts = [] := List.length_eq_zero_iff.1 (by rw [hm, g4])
       rw [formed_leaf (by rw [List.length_nil] at hp; rw [hp]; simp [g1, g2, g3, g4])]
       rw [g4] at hm
       clear hp hv hu hm g3
       go_enter Try.func78, Try.ntmps78
       go_wp2
       go_ret
       exact ⟨rfl, bel1' _ _⟩
      ·rw [formed_no (by rw [hp]; simp [g4])]
       have g4' : ((m : Int) == 0) = false := by apply beq_false_of_ne; omega
       rw [hm] at h1 h3 ⊢
       clear hp hv hu hm g3 h
       go_enter Try.func78, Try.ntmps78
       go_wp2
       go_ret
       exact ⟨rfl, bel1' _ _⟩
     ·rw [formed_no (by rw [hp]; simp [g3])]
      have g3' := toList_some g3
      clear hp hv hu h
      go_enter Try.func78, Try.ntmps78
      go_wp2
      go_ret
      exact ⟨rfl, bel1' _ _⟩
    ·rw [formed_no (by rw [hp]; simp [g2])]
     clear hp hv hu h
     go_enter Try.func78, Try.ntmps78
     go_wp2
     go_ret
     exact ⟨rfl, bel1' _ _⟩
   ·rw [formed_no (by rw [hp]; simp [g1])]
    clear hp hv hu h
    go_enter Try.func78, Try.ntmps78
    go_wp2
    go_ret
    exact ⟨rfl, bel1' _ _⟩
  by_cases k1 : k = 1
  ·subst k1
   have hp : plainT 1 n s.data.toList ts.length = (decide (s.size = 0) && decide (m = 0)) := by
    unfold plainT; rw [if_neg (by decide), if_pos rfl, isEmpty_size, hm]
   by_cases g3 : s.size = 0
   ·have g3' := toList_empty g3
    by_cases g4 : m = 0
    ·obtain rfl : ts = [] := List.length_eq_zero_iff.1 (by rw [hm, g4])
     rw [formed_leaf (by rw [List.length_nil] at hp; rw [hp]; simp [g3, g4])]
     clear hp hv hu hm g3
     go_enter Try.func78, Try.ntmps78
     go_wp2
     go_ret
     exact ⟨rfl, bel1' _ _⟩
    ·rw [formed_no (by rw [hp]; simp [g4])]
     have g4' : ((m : Int) == 0) = false := by apply beq_false_of_ne; omega
     rw [hm] at h1 h3 ⊢
     clear hp hv hu hm g3 h
     go_enter Try.func78, Try.ntmps78
     go_wp2
     go_ret
     exact ⟨rfl, bel1' _ _⟩
   ·rw [formed_no (by rw [hp]; simp [g3])]
    have g3' := toList_some g3
    clear hp hv hu h
    go_enter Try.func78, Try.ntmps78
    go_wp2
    go_ret
    exact ⟨rfl, bel1' _ _⟩
  have k0' : (k == 0) = false := beq_false_of_ne k0
  have k1' : (k == 1) = false := beq_false_of_ne k1
  by_cases k2 : k = 2
  ·subst k2
   have hp : plainT 2 n s.data.toList ts.length = (decide (n = 0) && decide (s.size ≤ 64) && decide (m ≤ 8) && s.data.toList.all letterB) := by
    unfold plainT; rw [if_neg (by decide), if_neg (by decide), if_pos rfl, hm]; rfl
   by_cases g1 : n = 0
   ·subst g1
    by_cases g2 : 64 < s.size
    ·rw [formed_no (by rw [hp]; simp; omega)]
     clear hp hv hu h k0 k1 k0' k1'
     go_enter Try.func78, Try.ntmps78
     go_wp2
     go_ret
     exact ⟨rfl, bel1' _ _⟩
    ·by_cases g3 : 8 < m
     ·rw [formed_no (by rw [hp]; simp; omega)]
      rw [hm] at h1 h3 ⊢
      clear hp hv hu hm h k0 k1 k0' k1'
      go_enter Try.func78, Try.ntmps78
      go_wp2
      go_ret
      exact ⟨rfl, bel1' _ _⟩
     ·have IH := Lib.hid (fun (y : Tm) (hy : y ∈ ts) => rformed_at N y (mem_size h hy))
      have HP := Lib.hid (show formedT (.mk 2 0 s ts) = (s.data.toList.all letterB && formedL ts) by
       rw [formed_mk, hp]
       have e1 : decide (s.size ≤ 64) = true := decide_eq_true (by omega)
       have e2 : decide (m ≤ 8) = true := decide_eq_true (by omega)
       rw [e1, e2]
       simp)
      rw [hm] at h1 h3 hu ⊢
      exact rformed_two hs h1 h2 h3 g2 g3 (Lib.hid hm) (Lib.hid hu) HP IH
   ·rw [formed_no (by rw [hp]; simp [g1])]
    have g1' : (n == 0) = false := beq_false_of_ne g1
    clear hp hv hu h k0 k1 k0' k1'
    go_enter Try.func78, Try.ntmps78
    go_wp2
    go_ret
    exact ⟨rfl, bel1' _ _⟩
  ·rw [formed_no (by unfold plainT; rw [if_neg k0, if_neg k1, if_neg k2])]
   have k2' : (k == 2) = false := beq_false_of_ne k2
   clear hv hu h k0 k1 k2
   go_enter Try.func78, Try.ntmps78
   go_wp2
   go_ret
   exact ⟨rfl, bel1' _ _⟩
theorem rgood_at (x : Tm) (w : World) (v : Value) (hv : TmV w x v) : Calls Try.prog 39 #[v] w fun e w' => e = .returned (.bool (goodT x)) ∧ Below w.heap.size w w' := by
 obtain ⟨k, n, s, ts, rfl⟩ : ∃ k n s ts, x = .mk k n s ts := by cases x; exact ⟨_, _, _, _, rfl⟩
 obtain ⟨u, rfl, _, _, _, _⟩ := tmV_iff.1 hv
 obtain ⟨x, hxe⟩ : ∃ x, Tm.mk k n s ts = x := ⟨_, rfl⟩
 rw [hxe] at hv ⊢
 clear hxe
 obtain ⟨v, hve⟩ : ∃ v, Value.agg #[.int .i64 k, .int .i64 n, .string s, u] = v := ⟨_, rfl⟩
 have S := fun w (h : TmV w x v) => rsize_at _ x (Nat.le_refl _) 2000 (by omega) w v h
 have D := fun w (h : TmV w x v) => rdepth_at 64 x (by omega) w v h
 have F := fun w (h : TmV w x v) => rformed_at _ x (Nat.le_refl _) w v h
 rw [← hve] at S D F
 subst hve
 have hg : goodT x = (decide (sizeN x ≤ 2000) && decide (depthN x ≤ 64) && formedT x) := rfl
 have HG := Lib.hid hg
 clear hg
 generalize formedT x = f at F HG
 obtain ⟨p, hp⟩ : ∃ p, min (sizeN x) (2000 + 1) = p := ⟨_, rfl⟩
 obtain ⟨q, hq⟩ : ∃ q, min (depthN x) (64 + 1) = q := ⟨_, rfl⟩
 rw [hp] at S
 rw [hq] at D
 have hP := Lib.hid (show (sizeN x ≤ 2000) ↔ p ≤ 2000 by omega)
 have hQ := Lib.hid (show (depthN x ≤ 64) ↔ q ≤ 64 by omega)
 clear hp hq
 by_cases h1 : p ≤ 2000
 ·by_cases h2 : q ≤ 64
  ·have hr : goodT x = f := by rw [HG.out, decide_eq_true (hP.out.2 h1), decide_eq_true (hQ.out.2 h2)]; rfl
   rw [hr]
   clear hr HG hP hQ
   go_enter Try.func39, Try.ntmps39
   have hv0 := TmV.ext (bel1' w (.cells #[.int .i64 k, .int .i64 n, .string s, u] 54)) _ _ hv
   (go_wp2_with fail; go_fit (S _ hv0); rintro e w1 ⟨rfl, b1⟩)
   obtain ⟨e0, e1, e2, e3⟩ := box_cells w 54 _ _ _ _ b1
   have hv1 := TmV.ext b1 _ _ hv0
   (go_wp2_with fail; go_fit (D _ hv1); rintro e w2 ⟨rfl, b2⟩)
   have e0 := cell_later b2 e0
   have e1 := cell_later b2 e1
   have e2 := cell_later b2 e2
   have e3 := cell_later b2 e3
   (go_wp2_with fail; go_fit (F _ (TmV.ext b2 _ _ hv1)); rintro e w3 ⟨rfl, b3⟩)
   have B3 := Lib.hid (Ext.trans' (bel1' w _) (Ext.trans' b1 (Ext.trans' b2 b3)))
   clear b1 b2 b3
   go_wp2
   go_ret
   exact ⟨rfl, B3.out⟩
  ·have hr : goodT x = false := by rw [HG.out, decide_eq_false (fun h => h2 (hQ.out.1 h))]; simp
   rw [hr]
   clear hr HG hP hQ
   go_enter Try.func39, Try.ntmps39
   have hv0 := TmV.ext (bel1' w (.cells #[.int .i64 k, .int .i64 n, .string s, u] 54)) _ _ hv
   (go_wp2_with fail; go_fit (S _ hv0); rintro e w1 ⟨rfl, b1⟩)
   obtain ⟨e0, e1, e2, e3⟩ := box_cells w 54 _ _ _ _ b1
   have hv1 := TmV.ext b1 _ _ hv0
   (go_wp2_with fail; go_fit (D _ hv1); rintro e w2 ⟨rfl, b2⟩)
   have e0 := cell_later b2 e0
   have e1 := cell_later b2 e1
   have e2 := cell_later b2 e2
   have e3 := cell_later b2 e3
   have B3 := Lib.hid (Ext.trans' (bel1' w _) (Ext.trans' b1 b2))
   clear b1 b2
   go_wp2
   go_ret
   exact ⟨rfl, B3.out⟩
 ·have hr : goodT x = false := by rw [HG.out, decide_eq_false (fun h => h1 (hP.out.1 h))]; rfl
  rw [hr]
  clear hr HG hP hQ
  go_enter Try.func39, Try.ntmps39
  have hv0 := TmV.ext (bel1' w (.cells #[.int .i64 k, .int .i64 n, .string s, u] 54)) _ _ hv
  (go_wp2_with fail; go_fit (S _ hv0); rintro e w1 ⟨rfl, b1⟩)
  obtain ⟨e0, e1, e2, e3⟩ := box_cells w 54 _ _ _ _ b1
  have B3 := Lib.hid (Ext.trans' (bel1' w _) b1)
  clear b1
  go_wp2
  go_ret
  exact ⟨rfl, B3.out⟩
end Go.Proofs.Ytchbbaehdcmcfaa
/- Terms: the document's Same; two rows of numbers alike. -/
namespace Go.Proofs.Ytchbbaehdcmcfaa
open Go.RowKit
set_option linter.unusedVariables false
theorem same_mk (k n k' n' : Int) (s s' : ByteArray) (ts ts' : List Tm) : sameT (.mk k n s ts) (.mk k' n' s' ts') = (k == k' && n == n' && s.data.toList == s'.data.toList && sameL ts ts') := by rw [sameT]
theorem sames_len : ∀ {a b : List Tm}, ¬ a.length = b.length → sameL a b = false
 | [], [], h => absurd rfl h
 | x :: r, y :: q, h => by
  rw [sameL, sames_len (a := r) (b := q) (by simpa using h), Bool.and_false]
 | [], y :: q, _ => by simp [sameL]
 | x :: r, [], _ => by simp [sameL]
theorem sames_step {a b : List Tm} {i : Nat} {x y : Tm} (hx : a[i]? = some x) (hy : b[i]? = some y) : sameL (a.drop i) (b.drop i) = (sameT x y && sameL (a.drop (i + 1)) (b.drop (i + 1))) := by
 obtain ⟨h1, rfl⟩ := List.getElem?_eq_some_iff.1 hx
 obtain ⟨h2, rfl⟩ := List.getElem?_eq_some_iff.1 hy
 rw [List.drop_eq_getElem_cons h1, List.drop_eq_getElem_cons h2, sameL]
set_option maxHeartbeats 4000000 in
set_option maxRecDepth 100000 in
theorem rsame_args {k n : Int} {s : ByteArray} {ts ts' : List Tm} {w : World} {a a' : Option Addr} {m c c' : Nat} (h1 : m ≤ c) (h2 : c ≤ maxLen) (h1' : m ≤ c') (h2' : c' ≤ maxLen) (h3 : m * 56 ≤ 140737488351232)
  (HM : Hid (ts.length = m)) (HM' : Hid (ts'.length = m)) (HU : Hid (Tms w (.slice a m c) ts)) (HU' : Hid (Tms w (.slice a' m c') ts'))
  (IH : Hid (∀ x ∈ ts, ∀ (y : Tm) (w : World) (va vb : Value), TmV w x va → TmV w y vb → Calls Try.prog 67 #[va, vb] w fun e w' => e = .returned (.bool (sameT x y)) ∧ Below w.heap.size w w')) :
  Calls Try.prog 67 #[.agg #[.int .i64 k, .int .i64 n, .string s, .slice a m c], .agg #[.int .i64 k, .int .i64 n, .string s, .slice a' m c']] w fun e w' => e = .returned (.bool (sameL ts ts')) ∧ Below w.heap.size w w' := by
 obtain ⟨r, hr⟩ : ∃ r, sameL ts ts' = r := ⟨_, rfl⟩
 rw [hr]
 have HR := Lib.hid hr
 clear hr
 have HW := Lib.hid (show Below w.heap.size w ((w.alloc (box4 k n s (.slice a m c) 54)).alloc (box4 k n s (.slice a' m c') 54)) from (bel1' w _).alloc (by simp) _)
 go_enter Try.func67, Try.ntmps67
 go_wp2_with fail
 go_loopw [5] (fun v wr => ∃ i : Nat, i ≤ m ∧ v = .int .i64 i ∧ Hid (sameL (ts.drop i) (ts'.drop i) = r) ∧ Hid (Below ((w.alloc (box4 k n s (.slice a m c) 54)).alloc (box4 k n s (.slice a' m c') 54)).heap.size ((w.alloc (box4 k n s (.slice a m c) 54)).alloc (box4 k n s (.slice a' m c') 54)) wr)) (fun v _ => m - (RowKit.intOf v).toNat)
 case atStart => exact ⟨0, Nat.zero_le _, rfl, Lib.hid (by rw [List.drop_zero, List.drop_zero]; exact HR.out), Lib.hid (Below.refl _ _)⟩
 case round =>
  obtain ⟨i, hi, rfl, HD, HB⟩ := hrel
  have e3 : wr.cell? ⟨w.heap.size, 3, none⟩ = some (.slice a m c) := cell_later HB.out (by simp)
  have f3 : wr.cell? ⟨w.heap.size + 1, 3, none⟩ = some (.slice a' m c') := cell_later HB.out (by simp)
  have HBW := Lib.hid (Ext.trans' HW.out HB.out)
  by_cases hil : i < m
  ·obtain ⟨x, hx⟩ : ∃ x, ts[i]? = some x := ⟨_, List.getElem?_eq_getElem (by rw [HM.out]; exact hil)⟩
   obtain ⟨y, hy⟩ : ∃ y, ts'[i]? = some y := ⟨_, List.getElem?_eq_getElem (by rw [HM'.out]; exact hil)⟩
   have hd := HD.out
   rw [sames_step hx hy] at hd
   obtain ⟨b, off, k1, n1, s1, u1, rfl, hbb, _, _, _, c0, c1, c2, c3, _, ht⟩ := (HU.out.ext HBW.out).get hx
   obtain ⟨b', off', k2, n2, s2, u2, rfl, hbb', _, _, _, d0, d1, d2, d3, _, ht'⟩ := (HU'.out.ext HBW.out).get hy
   have ih := fun wq (hq : Below wr.heap.size wr wq) => IH.out x (List.mem_of_getElem? hx) y wq _ _ (TmV.ext hq _ _ ht) (TmV.ext hq _ _ ht')
   clear HD ht ht' hx hy
   cases hq : sameT x y
   ·rw [hq, Bool.false_and] at hd
    rw [hq] at ih
    have IHQ := Lib.hid ih
    subst hd
    clear hq ih HR
    go_wp2_with fail
    (refine wp_region_class (fun w' => (w'.cell? ⟨w.heap.size, 3, none⟩ = some (.slice (some ⟨b, off, none⟩) m c) ∧ w'.cell? ⟨w.heap.size + 1, 3, none⟩ = some (.slice (some ⟨b', off', none⟩) m c') ∧ w'.cell? ⟨b, off + i * 4, none⟩ = some (.int .i64 k1) ∧ w'.cell? ⟨b, off + i * 4 + 1, none⟩ = some (.int .i64 n1) ∧ w'.cell? ⟨b, off + i * 4 + 2, none⟩ = some (.string s1) ∧ w'.cell? ⟨b, off + i * 4 + 3, none⟩ = some u1 ∧ w'.cell? ⟨b', off' + i * 4, none⟩ = some (.int .i64 k2) ∧ w'.cell? ⟨b', off' + i * 4 + 1, none⟩ = some (.int .i64 n2) ∧ w'.cell? ⟨b', off' + i * 4 + 2, none⟩ = some (.string s2) ∧ w'.cell? ⟨b', off' + i * 4 + 3, none⟩ = some u2) ∧ Below wr.heap.size wr w') (by kernel_rfl) (by kernel_rfl) (⟨⟨e3, f3, c0, c1, c2, c3, d0, d1, d2, d3⟩, (Below.refl _ _).drew⟩) ?_; (repeat (first | go_big_quiet_skip | (go_big_quiet_want; refine quiet_of ?_; apply Exists.intro; refine ⟨fun wq hq => ?_, ?_⟩; (focus ((try dsimp only at hq); go_simp; (first | done | with_reducible rfl | ((go_at_call 67; refine (IHQ.out wq hq.2).mono ?_; rintro e w6 ⟨rfl, h6⟩; exact ⟨rfl, ⟨cell_later h6 hq.1.1, cell_later h6 hq.1.2.1, cell_later h6 hq.1.2.2.1, cell_later h6 hq.1.2.2.2.1, cell_later h6 hq.1.2.2.2.2.1, cell_later h6 hq.1.2.2.2.2.2.1, cell_later h6 hq.1.2.2.2.2.2.2.1, cell_later h6 hq.1.2.2.2.2.2.2.2.1, cell_later h6 hq.1.2.2.2.2.2.2.2.2.1, cell_later h6 hq.1.2.2.2.2.2.2.2.2.2⟩, Below.trans hq.2 (h6.mono hq.2.size)⟩)) | fail))); try simp only [Act.put, lay4]; go_big_quiet_on) | fail)); refine wpQuiet_nil ?_; intro wz hz)
    go_wp2
    go_ret
    exact ⟨rfl, Ext.trans' HBW.out hz.2⟩
   ·rw [hq, Bool.true_and] at hd
    rw [hq] at ih
    have IHQ := Lib.hid ih
    have HD := Lib.hid hd
    clear hq ih hd
    go_wp2_with fail
    (refine wp_region_class (fun w' => (w'.cell? ⟨w.heap.size, 3, none⟩ = some (.slice (some ⟨b, off, none⟩) m c) ∧ w'.cell? ⟨w.heap.size + 1, 3, none⟩ = some (.slice (some ⟨b', off', none⟩) m c') ∧ w'.cell? ⟨b, off + i * 4, none⟩ = some (.int .i64 k1) ∧ w'.cell? ⟨b, off + i * 4 + 1, none⟩ = some (.int .i64 n1) ∧ w'.cell? ⟨b, off + i * 4 + 2, none⟩ = some (.string s1) ∧ w'.cell? ⟨b, off + i * 4 + 3, none⟩ = some u1 ∧ w'.cell? ⟨b', off' + i * 4, none⟩ = some (.int .i64 k2) ∧ w'.cell? ⟨b', off' + i * 4 + 1, none⟩ = some (.int .i64 n2) ∧ w'.cell? ⟨b', off' + i * 4 + 2, none⟩ = some (.string s2) ∧ w'.cell? ⟨b', off' + i * 4 + 3, none⟩ = some u2) ∧ Below wr.heap.size wr w') (by kernel_rfl) (by kernel_rfl) (⟨⟨e3, f3, c0, c1, c2, c3, d0, d1, d2, d3⟩, (Below.refl _ _).drew⟩) ?_; (repeat (first | go_big_quiet_skip | (go_big_quiet_want; refine quiet_of ?_; apply Exists.intro; refine ⟨fun wq hq => ?_, ?_⟩; (focus ((try dsimp only at hq); go_simp; (first | done | with_reducible rfl | ((go_at_call 67; refine (IHQ.out wq hq.2).mono ?_; rintro e w6 ⟨rfl, h6⟩; exact ⟨rfl, ⟨cell_later h6 hq.1.1, cell_later h6 hq.1.2.1, cell_later h6 hq.1.2.2.1, cell_later h6 hq.1.2.2.2.1, cell_later h6 hq.1.2.2.2.2.1, cell_later h6 hq.1.2.2.2.2.2.1, cell_later h6 hq.1.2.2.2.2.2.2.1, cell_later h6 hq.1.2.2.2.2.2.2.2.1, cell_later h6 hq.1.2.2.2.2.2.2.2.2.1, cell_later h6 hq.1.2.2.2.2.2.2.2.2.2⟩, Below.trans hq.2 (h6.mono hq.2.size)⟩)) | fail))); try simp only [Act.put, lay4]; go_big_quiet_on) | fail)); refine wpQuiet_nil ?_; intro wz hz)
    go_wp2
    go_roundw
    case rel => exact ⟨i + 1, by omega, by go_num, HD, Lib.hid (Ext.trans' HB.out hz.2)⟩
    case measure => simp [RowKit.intOf]; omega
  ·have hd := HD.out
   rw [List.drop_eq_nil_of_le (by rw [HM.out]; omega), List.drop_eq_nil_of_le (by rw [HM'.out]; omega), sameL] at hd
   subst hd
   clear HR HD
   go_wp2
   go_ret
   exact ⟨rfl, HBW.out⟩
end Go.Proofs.Ytchbbaehdcmcfaa
/- Terms: the document's Same, whole. -/
namespace Go.Proofs.Ytchbbaehdcmcfaa
open Go.RowKit
set_option linter.unusedVariables false
set_option maxHeartbeats 4000000 in
theorem rsame_at : ∀ (N : Nat) (x : Tm), sizeN x ≤ N → ∀ (y : Tm) (w : World) (va vb : Value), TmV w x va → TmV w y vb →
  Calls Try.prog 67 #[va, vb] w fun e w' => e = .returned (.bool (sameT x y)) ∧ Below w.heap.size w w'
 | 0, x, h, y, w, va, vb, hv, hv' => by have := size_pos x; omega
 | N + 1, .mk k n s ts, h, .mk k' n' s' ts', w, va, vb, hv, hv' => by
  obtain ⟨u, rfl, hs, hk, hn, hu⟩ := tmV_iff.1 hv
  obtain ⟨u', rfl, hs', hk', hn', hu'⟩ := tmV_iff.1 hv'
  obtain ⟨a, c, rfl, h1, h2, h3⟩ := hu.len
  obtain ⟨a', c', rfl, h1', h2', h3'⟩ := hu'.len
  unfold BIG at h3 h3' hs hs'
  have IH := Lib.hid (fun (x : Tm) (hx : x ∈ ts) => rsame_at N x (mem_size h hx))
  obtain ⟨m, hm⟩ : ∃ m, ts.length = m := ⟨_, rfl⟩
  obtain ⟨m', hm'⟩ : ∃ m', ts'.length = m' := ⟨_, rfl⟩
  have hmk := same_mk k n k' n' s s' ts ts'
  have HW := Lib.hid (show Below w.heap.size w ((w.alloc (box4 k n s (.slice a ts.length c) 54)).alloc (box4 k' n' s' (.slice a' ts'.length c') 54)) from (bel1' w _).alloc (by simp) _)
  by_cases g1 : k = k'
  ·subst g1
   by_cases g2 : n = n'
   ·subst g2
    by_cases g3 : s = s'
    ·subst g3
     by_cases g4 : m = m'
     ·subst g4
      rw [hmk, beq_self_eq_true, beq_self_eq_true, beq_self_eq_true, Bool.true_and, Bool.true_and, Bool.true_and]
      rw [hm] at h1 h3 hu ⊢
      rw [hm'] at h1' h3' hu' ⊢
      exact rsame_args h1 h2 h1' h2' h3 (Lib.hid hm) (Lib.hid hm') (Lib.hid hu) (Lib.hid hu') IH
     ·have hr : sameT (.mk k n s ts) (.mk k n s ts') = false := by rw [hmk, sames_len (by rw [hm, hm']; exact g4), Bool.and_false]
      rw [hr]
      rw [hm] at h1 h3 HW ⊢
      rw [hm'] at h1' h3' HW ⊢
      have g4' : ((m : Int) != m') = true := by simp; omega
      have g4n : ¬ (m : Int) = m' := by omega
      clear hr hmk hm hm' hv hv' hu hu' IH h
      go_enter Try.func67, Try.ntmps67
      go_wp2
      go_ret
      exact ⟨rfl, HW.out⟩
    ·have hb : (s.data.toList == s'.data.toList) = false := beq_false_of_ne (fun e => g3 (bytes_eq e))
     have hr : sameT (.mk k n s ts) (.mk k n s' ts') = false := by rw [hmk, hb]; simp
     rw [hr]
     have g3' : (s.toList == s'.toList) = false := by rw [Lib.toList_data, Lib.toList_data]; exact hb
     have g3n : ¬ s.toList = s'.toList := by rw [Lib.toList_data, Lib.toList_data]; exact fun e => g3 (bytes_eq e)
     clear hr hmk hm hm' hv hv' hu hu' IH h hb
     go_enter Try.func67, Try.ntmps67
     go_wp2
     go_ret
     exact ⟨rfl, HW.out⟩
   ·have hr : sameT (.mk k n s ts) (.mk k n' s' ts') = false := by rw [hmk, beq_false_of_ne g2]; simp
    rw [hr]
    have g2' : (n != n') = true := by simpa using g2
    clear hr hmk hm hm' hv hv' hu hu' IH h
    go_enter Try.func67, Try.ntmps67
    go_wp2
    go_ret
    exact ⟨rfl, HW.out⟩
  ·have hr : sameT (.mk k n s ts) (.mk k' n' s' ts') = false := by rw [hmk, beq_false_of_ne g1]; simp
   rw [hr]
   have g1' : (k != k') = true := by simpa using g1
   clear hr hmk hm hm' hv hv' hu hu' IH h
   go_enter Try.func67, Try.ntmps67
   go_wp2
   go_ret
   exact ⟨rfl, HW.out⟩
end Go.Proofs.Ytchbbaehdcmcfaa
/- Terms: the document's Vars. -/
namespace Go.Proofs.Ytchbbaehdcmcfaa
open Go.RowKit
set_option linter.unusedVariables false
set_option maxHeartbeats 4000000 in
theorem rvars_var {W w : World} {k n : Int} {s : ByteArray} {u lv : Value} {l : List Int} (hk : k = 0) (hb : Below W.heap.size W w) (hr : RowN w W.heap.size lv l) (hl : l.length ≤ 1000000) :
  Calls Try.prog 103 #[.agg #[.int .i64 k, .int .i64 n, .string s, u], lv] w fun e w' => ∃ r, e = .returned r ∧ RowN w' W.heap.size r (if l.contains n then l else l ++ [n]) ∧ Below W.heap.size W w' ∧ Kept w w' lv.ownBlock ∧ (r.ownBlock = lv.ownBlock ∨ ∀ k, r.ownBlock = some k → w.heap.size ≤ k) := by
 subst hk
 obtain ⟨a, c, rfl, h1⟩ := row_formk hr
 obtain ⟨m, hm⟩ : ∃ m, l.length = m := ⟨_, rfl⟩
 obtain ⟨R, hR⟩ : ∃ R, (if l.contains n then l else l ++ [n]) = R := ⟨_, rfl⟩
 rw [hR]
 have HR := Lib.hid hR
 have HROW := Lib.hid hr
 have HM := Lib.hid hm
 rw [hm] at h1 hl hr HROW ⊢
 have HBW := Lib.hid hb
 have hWs : W.heap.size ≤ w.heap.size := hb.size
 obtain ⟨i0, hi0, hz0, hs0, hb0⟩ := info_parts infoI64
 clear hr hm hR hb
 go_enter Try.func103, Try.ntmps103
 go_wp2_with fail
 go_loopw [5] (fun v wr => ∃ i : Nat, i ≤ m ∧ v = .int .i64 i ∧ Hid (¬ n ∈ l.take i) ∧ Hid (Below (w.alloc (box4 0 n s u 54)).heap.size (w.alloc (box4 0 n s u 54)) wr)) (fun v _ => m - (RowKit.intOf v).toNat)
 case atStart => exact ⟨0, Nat.zero_le _, rfl, Lib.hid (by simp), Lib.hid (Below.refl _ _)⟩
 case round =>
  obtain ⟨i, hi, rfl, HT, HB⟩ := hrel
  obtain ⟨e0, e1, e2, e3⟩ := box_cells w 54 _ _ _ _ HB.out
  have HBB := Lib.hid (Ext.trans' (bel1' w _) HB.out)
  by_cases hil : i < m
  ·obtain ⟨x, hx⟩ : ∃ x, l[i]? = some x := ⟨_, List.getElem?_eq_getElem (by rw [HM.out]; exact hil)⟩
   have hnums : Nums w (.slice a m c) l := by have := HROW.out.nums; exact this
   obtain ⟨b, off, rfl, _, c0⟩ := (hnums.ext HBB.out).get hx
   by_cases hxn : x = n
   ·subst hxn
    have hrl : R = l := by rw [← HR.out, if_pos (by simpa using List.mem_of_getElem? hx)]
    subst hrl
    clear hx HT HR hnums
    go_wp2_with fail
    go_quiet (fail)
    go_wp2
    go_ret
    exact ⟨_, rfl, row_ext HROW.out (bel_drewN HBB.out _), bel_drewN (Ext.trans' HBW.out HBB.out) _, Kept.of (bel_drewN HBB.out _) _, Or.inl rfl⟩
   ·have HT2 : Hid (¬ n ∈ l.take (i + 1)) := Lib.hid (by
     rw [List.take_add_one, hx]
     intro hmem
     rcases List.mem_append.1 hmem with hh | hh
     ·exact HT.out hh
     ·simp at hh
      exact hxn hh.symm)
    have hxn' : (x == n) = false := beq_false_of_ne hxn
    clear hx HT hnums
    go_wp2_with fail
    go_quiet (fail)
    go_wp2
    go_roundw
    case rel => exact ⟨i + 1, by omega, by go_num, HT2, Lib.hid (bel_drewN HB.out _)⟩
    case measure => simp [RowKit.intOf]; omega
  ·have hrl : R = l ++ [n] := by
    rw [← HR.out, if_neg]
    have := HT.out
    rw [List.take_of_length_le (by rw [HM.out]; omega)] at this
    simpa using this
   subst hrl
   have HROW2 : Hid (wr.ownsRow W.heap.size 2 1 (.slice a m c) m (l.flatMap numCells)) := Lib.hid (by have := row_ext HROW.out HBB.out; rw [HM.out] at this; exact this)
   have hsz : W.heap.size ≤ wr.heap.size := Nat.le_trans hWs HBB.out.size
   clear HR HT
   go_wp2_with (at_builtin; refine wpList_append_k rfl _ _ 57 rfl W.heap.size 2 i0 (.int .i64 0) 1 8 Try.underlying57 hi0 hz0 hs0 (by decide) hb0 rfl (.slice a m c) m (l.flatMap numCells) rfl (HROW2.out.alloc _) _ 1 1 [.int .i64 n] rfl rfl (Or.inr ⟨_, rfl, fun j u hu => cell_new _ _ _ j u hu⟩) (fun u hu => by simp at hu; subst hu; rfl) (by unfold maxLen; omega) (by omega) (by simp; omega) (m + 1) ((l ++ [n]).flatMap numCells) rfl (by rw [List.flatMap_append]; rfl) ?_; intro a4 c4 w4 hown4 hgrow4 hat4)
   go_ret
   refine ⟨_, rfl, ?_, ((Ext.trans' HBW.out HBB.out).alloc hsz _).grown hgrow4 (by simp; omega) (fun q hq => (HROW2.out.lt q hq).1), Kept.trans (Kept.of (HBB.out.alloc HBB.out.size _) _) ⟨hgrow4.size, fun k hk hne => hgrow4.block k hk (Ne.symm hne)⟩ (Or.inl rfl), ?_⟩
   rotate_left
   ·rcases hat4 with h | h
    ·exact Or.inl h
    ·refine Or.inr (fun k hk => ?_)
     have hk' : (Value.slice a4 (m + 1) c4).ownBlock = some k := hk
     rw [h] at hk'
     cases hk'
     have := HBB.out.size
     simp
     omega
   unfold RowN
   rw [List.length_append, HM.out]
   exact hown4
end Go.Proofs.Ytchbbaehdcmcfaa
