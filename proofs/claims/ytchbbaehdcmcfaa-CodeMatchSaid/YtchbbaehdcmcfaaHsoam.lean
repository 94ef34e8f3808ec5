import Derived.Test.YtchbbaehdcmcfaaHsozz
import Derived.Test.YtchbbaehdcmcfaaHsoaj
import Derived.Test.YtchbbaehdcmcfaaHsoak
import Derived.Test.YtchbbaehdcmcfaaHsoal
import Derived.Test.YtchbbaehdcmcfaaHsoag
import Derived.Test.YtchbbaehdcmcfaaHsoaa
import Derived.Test.YtchbbaehdcmcfaaHsoai
import Derived.Test.YtchbbaehdcmcfaaHsoab
set_option linter.unusedVariables false
set_option linter.unusedSimpArgs false
/- Package bind: search's run, walked. -/
namespace Go.Proofs.Ytchbbaehdcmcfaa
open Go.RowKit Go.Maps
set_option linter.unusedVariables false
section
variable {V W w : World} {F : List Nat} {N : Nat} {R : List (Int × Tm)} {sb : Nat} {pb : Value} {n : Int} {M c : Nat} {pl : List PlP} {f : Int → Option Nat} {cnt : Nat}
theorem look_any (h : IsS W w sb pb n M c pl f cnt) (hB : IsB V F W pb N R) {x : Tm} {v : Value} (hv : TmV V x v) (hg : goodT x = true) (ho : ∀ m ∈ occT x, 0 ≤ m ∧ m < N) (hM : M ≤ 100000) (hc : c ≤ M) (hpl : pl.length ≤ 2000000) (hkn : ∀ v k, f v = some k → k ≤ 200000) :
  Calls Try.prog 142 #[.pointer (some ⟨sb, 0, none⟩), v] w fun e w' => ∃ b c' pl', e = .returned (.bool b) ∧ IsS W w' sb pb n M c' pl' f cnt ∧ LookR V N R n M c f x b c' pl pl' := by
 by_cases hk : x.k = 0
 ·cases hf : f x.n with
  | none => exact look_var h hB hv hg ho hk hf hM hc hpl
  | some k =>
   have hN := hB.tri.2
   obtain ⟨xk, xn, xs, xt⟩ := x
   cases (show xk = 0 from hk)
   have hx := (formed_var (good_parts hg).2.2).1
   have hr := ho xn (by rw [occ_var]; simp)
   obtain ⟨i, hi⟩ : ∃ i : Nat, xn = (i : Int) := ⟨xn.toNat, by omega⟩
   obtain ⟨u, rfl, _, _, _, hU⟩ := tmV_iff.1 hv
   obtain ⟨a', c', rfl, _⟩ := hU.len
   unfold varV at hx
   injection hx with _ _ h1 h2
   subst h1 h2 hi
   have hf' : f (i : Int) = some k := hf
   refine (look_known h i (by omega) a' c' hf' hM hc (hkn _ _ hf')).mono ?_
   rintro e w' ⟨rfl, h6⟩
   exact ⟨_, _, _, rfl, h6, Or.inl ⟨rfl, k, hf', rfl, rfl, rfl⟩⟩
 ·exact look_not h hB hv hg ho hk hM hc hpl
def RunI (V W : World) (N : Nat) (R : List (Int × Tm)) (n : Int) (M : Nat) (RES : Bool × Nat) (sb : Nat) (pb : Value) (wr : World) (g : Nat) : Prop :=
 ∃ pl c f cnt, IsS W wr sb pb n M c pl f cnt ∧ c ≤ M ∧ (∀ q ∈ pl, PlOk V N q) ∧ EO (fullB R) n c False (pl.reverse.map PlP.pl) ∧ (∀ v k, f v = some k → ¬ n ∈ occT (fullB R v) ∧ k = sizeN (fullB R v) ∧ k ≤ M) ∧
  hasL n M (pendL (fullB R) (pl.reverse.map PlP.pl)) c = RES ∧ g = (M - c) * 10 + pl.length ∧ cnt + g ≤ 1000001
theorem rev_snoc (pl : List PlP) (q : PlP) : (pl ++ [q]).reverse.map PlP.pl = q.pl :: pl.reverse.map PlP.pl := by
 rw [List.reverse_append]; rfl
theorem RunI.ends {RES : Bool × Nat} {q : PlP} {c' : Nat} {pl' : List PlP} (hN : N ≤ 65536) (hT : Tri N R) (hc : c ≤ M) (hq : PlOk V N q) (hqe : q.ends = false) (hkn : ∀ v k, f v = some k → ¬ n ∈ occT (fullB R v) ∧ k = sizeN (fullB R v) ∧ k ≤ M)
  (hres : hasL n M (pendL (fullB R) (q.pl :: pl.reverse.map PlP.pl)) c = RES) (hl : LookR V N R n M c f q.t.1 true c' pl pl') : RES = (true, c') := by
 have hp : pendL (fullB R) (q.pl :: pl.reverse.map PlP.pl) = subT (fullB R) q.t.1 :: pendL (fullB R) (pl.reverse.map PlP.pl) := by
  rw [pendL, if_neg (by show ¬ q.ends = true; rw [hqe]; simp)]
  rfl
 rw [hp] at hres
 rcases hl with ⟨hk, k, hf, hb, rfl, _⟩ | ⟨_, y, news, hw, ht, hb, rfl, _⟩
 ·obtain ⟨h1, h2, h3⟩ := hkn _ _ hf
  have hT2 : subT (fullB R) q.t.1 = fullB R q.t.1.n := by
   obtain ⟨⟨⟨xk, xn, xs, xt⟩, u⟩, _, _⟩ := q
   cases (show xk = 0 from hk)
   rw [sub_var]; rfl
  have hlt : M < c + k := by simpa using hb.symm
  rw [← hres, hasL, hT2, hasF_not _ c (by rw [← hT2]; exact subfull_formed hN hT (good_parts hq.2.1).2.2 hq.2.2) h1 hc, ← h2, if_neg (show ¬ c + k ≤ M by omega), cntN, if_pos hlt]
  simp
 ·rw [← hres, look_into hN hT hw ht hc _ hb, if_pos rfl]
theorem RunI.goes {RES : Bool × Nat} {q : PlP} {c' g : Nat} {pl' : List PlP} {wr : World} (hN : N ≤ 65536) (hT : Tri N R) (hc : c ≤ M) (hq : PlOk V N q) (hqe : q.ends = false) (hpl : ∀ q ∈ pl, PlOk V N q) (hkn : ∀ v k, f v = some k → ¬ n ∈ occT (fullB R v) ∧ k = sizeN (fullB R v) ∧ k ≤ M)
  (heo : EO (fullB R) n c False (q.pl :: pl.reverse.map PlP.pl)) (hres : hasL n M (pendL (fullB R) (q.pl :: pl.reverse.map PlP.pl)) c = RES) (hl : LookR V N R n M c f q.t.1 false c' pl pl') (hS : IsS W wr sb pb n M c' pl' f cnt) (hgg : g = (M - c) * 10 + (pl.length + 1)) (hcg : cnt + g ≤ 1000001) :
  ∃ g', g' < g ∧ RunI V W N R n M RES sb pb wr g' := by
 have hpd : pendL (fullB R) (q.pl :: pl.reverse.map PlP.pl) = subT (fullB R) q.t.1 :: pendL (fullB R) (pl.reverse.map PlP.pl) := by
  rw [pendL, if_neg (by show ¬ q.ends = true; rw [hqe]; simp)]
  rfl
 rw [hpd] at hres
 rcases hl with ⟨hk, k, hf, hb, rfl, rfl⟩ | ⟨_, y, news, hw, ht, hb, rfl, rfl, hnw, hnr⟩
 ·obtain ⟨h1, h2, h3⟩ := hkn _ _ hf
  have hT2 : subT (fullB R) q.t.1 = fullB R q.t.1.n := by
   obtain ⟨⟨⟨xk, xn, xs, xt⟩, u⟩, _, _⟩ := q
   cases (show xk = 0 from hk)
   rw [sub_var]; rfl
  have hlt : ¬ M < c + k := by simpa using hb.symm
  have hcn : cntN M c k = c + k := if_neg hlt
  rw [hcn] at hS
  have hk1 : 1 ≤ k := by rw [h2]; exact size_pos _
  refine ⟨(M - (c + k)) * 10 + pl'.length, by omega, pl', c + k, f, cnt, hS, by omega, hpl, ?_, hkn, ?_, rfl, by omega⟩
  ·have h5 := heo.2 hqe
   have h6 : sizeN (subT (fullB R) q.pl.t) = k := by show sizeN (subT (fullB R) q.t.1) = k; rw [hT2, h2]
   rw [h6] at h5
   refine h5.weak (fun e => e.elim id (fun e => ?_))
   have e : n ∈ occT (subT (fullB R) q.t.1) := e
   rw [hT2] at e
   exact h1 e
  ·rw [← hres, hasL, hT2, hasF_not _ c (by rw [← hT2]; exact subfull_formed hN hT (good_parts hq.2.1).2.2 hq.2.2) h1 hc, ← h2, if_pos (show c + k ≤ M by omega)]
   simp
 ·have hb' := hb.symm
  simp only [Bool.or_eq_false_iff, decide_eq_false_iff_not, Bool.and_eq_false_iff] at hb'
  have hcn : cntN M c 1 = c + 1 := if_neg hb'.1
  rw [hcn] at hS
  clear hcn
  have hnl : news.length ≤ 9 := by
   have h1 := congrArg List.length hnr
   have h2 := good_len hw.good
   have h3 : (placesOf c q.t.1 y).length ≤ y.args.length + 1 := by unfold placesOf; split <;> simp
   simp at h1
   omega
  refine ⟨(M - (c + 1)) * 10 + (pl ++ news).length, by rw [List.length_append]; omega, pl ++ news, c + 1, f, cnt, hS, by omega, fun r hr => (List.mem_append.1 hr).elim (hpl r) (hnw r), ?_, hkn, ?_, rfl, by rw [List.length_append]; omega⟩
  ·rw [List.reverse_append, List.map_append, hnr]
   refine EO.into hw ht hq.2.1 ?_ (fun e => ?_)
   ·refine ⟨fun e => (by cases e), fun _ => ?_⟩
    exact heo.2 hqe
   ·rcases hb'.2 with h | h
    ·exact h e.1
    ·exact h e.2
  ·rw [List.reverse_append, List.map_append, hnr, pend_app, pend_places, ← hres, look_into hN hT hw ht hc _ hb, if_neg (by simp)]
end
end Go.Proofs.Ytchbbaehdcmcfaa
/- Package bind: search's run, the walk. -/
namespace Go.Proofs.Ytchbbaehdcmcfaa
open Go.RowKit Go.Maps
set_option linter.unusedVariables false
section
variable {V W w : World} {F : List Nat} {N : Nat} {R : List (Int × Tm)} {sb : Nat} {pb : Value} {n : Int} {M : Nat}
theorem KnM.not_cell {w : World} {bm : Nat} {f : Int → Option Nat} {cnt : Nat} (h : KnM w bm f cnt) {b j : Nat} {v : Value} (hc : w.cell? ⟨b, j, none⟩ = some v) : b ≠ bm := by
 rintro rfl
 obtain ⟨D, ⟨es, clock, h1, h2⟩, _⟩ := h
 simp [World.cell?, h1] at hc
set_option maxHeartbeats 16000000 in
set_option maxRecDepth 100000 in
theorem run_at {RES : Bool × Nat} {g0 : Nat} (h : RunI V W N R n M RES sb pb w g0) (hB : IsB V F W pb N R) (hM : M ≤ 100000) :
  Calls Try.prog 116 #[.pointer (some ⟨sb, 0, none⟩)] w fun e w' => e = .returned (.tuple #[.bool RES.1, .int .i64 (RES.2 : Nat)]) ∧ Below W.heap.size W w' := by
 have H0 := Lib.hid h
 have HBB := Lib.hid hB
 obtain ⟨hT, hN⟩ := hB.tri
 have HT := Lib.hid (And.intro hT hN)
 clear h hB hT hN
 go_enter Try.func116, Try.ntmps116
 go_wp2_with fail
 go_loopg [] g0 (fun g wr => Hid (RunI V W N R n M RES sb pb wr g))
 case atStart => exact H0
 case round =>
  obtain ⟨pl, c, f, cnt, hS, hc, hpl, heo, hkn, hres, hg, hcg⟩ := hrel.out
  clear hrel
  obtain ⟨ap, cv, bm, hlt, c0, c1, c2, c3, c4, c5, fz, hpc, hpm, _⟩ := hS.open
  rcases List.eq_nil_or_concat pl with rfl | ⟨pl', q, rfl⟩
  ·have hr2 : RES = (false, c) := by rw [← hres]; rfl
   subst hr2
   have HS := Lib.hid hS.bel
   rw [List.length_nil] at c4
   clear hS hpl heo hkn hres hg hcg hpc hpm fz
   go_wp2_with fail
   go_quiet (fail)
   go_wp2
   go_ret2
   exact ⟨rfl, belN HS.out _⟩
  ·rw [List.concat_eq_append] at hS hpl heo hres hg hpc c4
   obtain ⟨k, hk⟩ : ∃ k, pl'.length = k := ⟨_, rfl⟩
   obtain ⟨m, hm⟩ : ∃ m, (pl' ++ [q]).length = m := ⟨_, rfl⟩
   have hmk : m = k + 1 := by rw [← hm, List.length_append, hk]; rfl
   rw [hm] at c4 hpc hg
   rw [rev_snoc] at heo hres
   have hmb : m ≤ 2000000 := by omega
   have hm0 : (0 : Int) < m := by omega
   have hm1 : (m : Int) - 1 = (k : Int) := by omega
   have hkm : k < m := by omega
   have c4k := c4
   rw [hmk] at c4k
   have hpop := fun (w2 : World) (hb : Below wr.heap.size wr w2) => (hS.ext hb).pop hk (cell_later hb c4k)
   obtain ⟨_, g, rfl, hcells⟩ := hpop wr (Below.refl _ _)
   obtain ⟨⟨t, tu⟩, qe, qf⟩ := q
   have hqk := hpl _ (List.mem_append_right _ (List.mem_singleton_self _))
   obtain ⟨tk, tn, ts, ta, tl, tc, hv, f1, f2, f3, fv⟩ := four_of hqk.1
   simp only [pVal, Value.agg.injEq] at hv
   have hv' := congrArg Array.toList hv
   simp only [List.cons.injEq, and_true] at hv'
   obtain ⟨e1, e2, e3, rfl⟩ := hv'
   have k0 := hcells 0 _ rfl
   have k1 := hcells 1 _ rfl
   have k2 := hcells 2 _ rfl
   have k3 := hcells 3 _ rfl
   have k4 := hcells 4 _ rfl
   have k5 := hcells 5 _ rfl
   simp only [e1, e2, e3] at k0 k1 k2 k3
   rw [Nat.add_zero] at k0
   have hmm : m - 1 = k := by omega
   have HK6 : Hid (wr.cell? ⟨g, k * 6, none⟩ = some (.int .i64 tk) ∧ wr.cell? ⟨g, k * 6 + 1, none⟩ = some (.int .i64 tn) ∧ wr.cell? ⟨g, k * 6 + 2, none⟩ = some (.string ts) ∧ wr.cell? ⟨g, k * 6 + 3, none⟩ = some (.slice ta tl tc) ∧ wr.cell? ⟨g, k * 6 + 4, none⟩ = some (.bool qe) ∧ wr.cell? ⟨g, k * 6 + 5, none⟩ = some (.int .i64 qf)) := Lib.hid ⟨k0, k1, k2, k3, k4, k5⟩
   have HS := Lib.hid hS
   have HP := Lib.hid hpop
   have HG := Lib.hid (And.intro hg hcg)
   have HF := Lib.hid (And.intro hc hkn)
   have HEO := Lib.hid (And.intro heo (And.intro hres hqk))
   have HPL := Lib.hid hpl
   have HE3 := Lib.hid (And.intro f1 (And.intro f2 f3))
   clear hS hpop hg hcg hc hkn heo hres hqk hpl f1 f2 f3 fv hv hm c0 c1 c2 c3 c5 fz hpm hcells k0 k1 k2 k3 k4 k5 e1 e2 e3 c4k
   obtain ⟨k0, k1, k2, k3, k4, k5⟩ := HK6.out
   have hwr : IntKind.i64.wrap (k : Int) = (k : Int) := by rw [IntKind.wrap_i64]; omega
   have hk0 : (0 : Int) ≤ k := by omega
   have hkmi : (k : Int) < (m : Int) := by omega
   have hkcv : (k : Int) ≤ cv := by omega
   have hkm2 : ((k : Int) < (k : Int) + 1) := by omega
   have HM := Lib.hid (And.intro hmk hmb)
   clear hmk
   go_wp2_with fail
   go_upto_region 2 with fail
   refine wp_region_held_drew (S := fun w' => (w'.cell? ⟨sb, 4, none⟩ = some (.slice (some ⟨g, 0, none⟩) m cv) ∧ w'.cell? ⟨g, k * 6, none⟩ = some (.int .i64 tk) ∧ w'.cell? ⟨g, k * 6 + 1, none⟩ = some (.int .i64 tn) ∧ w'.cell? ⟨g, k * 6 + 2, none⟩ = some (.string ts) ∧ w'.cell? ⟨g, k * 6 + 3, none⟩ = some (.slice ta tl tc) ∧ w'.cell? ⟨g, k * 6 + 4, none⟩ = some (.bool qe) ∧ w'.cell? ⟨g, k * 6 + 5, none⟩ = some (.int .i64 qf)) ∧ Below wr.heap.size wr w') (by kernel_rfl) ⟨⟨c4, k0, k1, k2, k3, k4, k5⟩, (Below.refl _ _).drew⟩ (fun hHeld => ?_)
   first | (refine held_t (i := 0) hHeld ?_; constructor; constructor; intro wq hq; focus ((try dsimp only at hq); go_simp; first | done | with_reducible rfl | fail)) | refine held_s (i := 0) hHeld ?_ | fail
   first | (refine held_t (i := 1) hHeld ?_; constructor; constructor; intro wq hq; focus ((try dsimp only at hq); go_simp; first | done | with_reducible rfl | fail)) | refine held_s (i := 1) hHeld ?_ | fail
   first | (refine held_t (i := 2) hHeld ?_; constructor; constructor; intro wq hq; focus ((try dsimp only at hq); go_simp; first | done | with_reducible rfl | fail)) | refine held_s (i := 2) hHeld ?_ | fail
   first | (refine held_t (i := 3) hHeld ?_; constructor; constructor; intro wq hq; focus ((try dsimp only at hq); go_simp; first | done | with_reducible rfl | fail)) | refine held_s (i := 3) hHeld ?_ | fail
   first | (refine held_t (i := 4) hHeld ?_; constructor; constructor; intro wq hq; focus ((try dsimp only at hq); go_simp; first | done | with_reducible rfl | fail)) | refine held_s (i := 4) hHeld ?_ | fail
   first | (refine held_t (i := 5) hHeld ?_; constructor; constructor; intro wq hq; focus ((try dsimp only at hq); go_simp; first | done | with_reducible rfl | fail)) | refine held_s (i := 5) hHeld ?_ | fail
   first | (refine held_t (i := 6) hHeld ?_; constructor; constructor; intro wq hq; focus ((try dsimp only at hq); go_simp; first | done | with_reducible rfl | fail)) | refine held_s (i := 6) hHeld ?_ | fail
   first | (refine held_t (i := 7) hHeld ?_; constructor; constructor; intro wq hq; focus ((try dsimp only at hq); go_simp; first | done | with_reducible rfl | fail)) | refine held_s (i := 7) hHeld ?_ | fail
   first | (refine held_t (i := 8) hHeld ?_; constructor; constructor; intro wq hq; focus ((try dsimp only at hq); go_simp; first | done | with_reducible rfl | fail)) | refine held_s (i := 8) hHeld ?_ | fail
   first | (refine held_t (i := 9) hHeld ?_; constructor; constructor; intro wq hq; focus ((try dsimp only at hq); go_simp; first | done | with_reducible rfl | fail)) | refine held_s (i := 9) hHeld ?_ | fail
   try simp only [Act.put, lay4]
   first | (refine held_t (i := 10) hHeld ?_; constructor; constructor; intro wq hq; focus ((try dsimp only at hq); go_simp; first | done | with_reducible rfl | fail)) | refine held_s (i := 10) hHeld ?_ | fail
   first | (refine held_t (i := 11) hHeld ?_; constructor; constructor; intro wq hq; focus ((try dsimp only at hq); go_simp; first | done | with_reducible rfl | fail)) | refine held_s (i := 11) hHeld ?_ | fail
   try simp only [Act.put, lay4]
   have HS4 := Lib.hid hHeld
   have HK4 := Lib.hid c4
   refine held_c 12 fun K hK => ?_
   go_simp
   skip
   refine hK.out _ _ (⟨⟨cell_later (bel1' _ _) hHeld.1.1, cell_later (bel1' _ _) hHeld.1.2.1, cell_later (bel1' _ _) hHeld.1.2.2.1, cell_later (bel1' _ _) hHeld.1.2.2.2.1, cell_later (bel1' _ _) hHeld.1.2.2.2.2.1, cell_later (bel1' _ _) hHeld.1.2.2.2.2.2.1, cell_later (bel1' _ _) hHeld.1.2.2.2.2.2.2⟩, Ext.trans' hHeld.2 (bel1' _ _)⟩) (fun hHeld => ?_)
   clear hK K
   try simp only [Act.put, lay4]
   refine held_c 13 fun K hK => ?_
   go_simp
   skip
   refine hK.out _ _ (⟨⟨cell_later (bel1' _ _) HS4.out.1.1, cell_later (bel1' _ _) HS4.out.1.2.1, cell_later (bel1' _ _) HS4.out.1.2.2.1, cell_later (bel1' _ _) HS4.out.1.2.2.2.1, cell_later (bel1' _ _) HS4.out.1.2.2.2.2.1, cell_later (bel1' _ _) HS4.out.1.2.2.2.2.2.1, cell_later (bel1' _ _) HS4.out.1.2.2.2.2.2.2⟩, Ext.trans' HS4.out.2 (bel1' _ _)⟩) (fun hHeld => ?_)
   clear hK K
   try simp only [Act.put, lay4]
   obtain ⟨w1, e1, b1, z1, x1⟩ := box_new wr #[.int .i64 tk, .int .i64 tn, .string ts, .slice ta tl tc, .bool qe, .int .i64 qf] 175
   obtain ⟨w2, e2⟩ : ∃ w2, w1.drew = w2 := ⟨_, rfl⟩
   have hb2 : Below wr.heap.size wr w2 := e2 ▸ b1.drew
   have x2 := e2 ▸ x1.ext (Below.refl _ _).drew
   have z2 : w2.heap.size = wr.heap.size + 1 := by rw [← e2]; exact z1
   clear HS4 hHeld b1 x1 z1
   refine wpAnyH_done (by kernel_rfl) ?_ _
   rw [e1, e2]
   clear e1 e2 w1 c4 k0 k1 k2 k3 k4 k5
   have h2 := (HP.out w2 hb2).1
   have HS2 := Lib.hid (HS.out.ext hb2)
   have HX2 := Lib.hid x2
   have HZ2 := Lib.hid (And.intro hb2 z2)
   obtain ⟨_, _, bm', _, c0, c1, c2, c3, c4, c5, fz, _⟩ := (HS.out.ext hb2).open
   have hb4 := cell_later hb2 (show wr.cell? ⟨sb, 4, none⟩ = some (.slice (some ⟨g, 0, none⟩) m cv) from HK4.out)
   rw [hb4] at c4
   clear c4 c0 c1 c2 c3 c5
   have fz4 := fz 4
   clear fz
   go_wp2_with fail
   go_upto_region 3 with fail
   go_cut [] from 23 to 36 (fun wx => Hid (IsS W wx sb pb n M c pl' f cnt ∧ Box wx wr.heap.size [.int .i64 tk, .int .i64 tn, .string ts, .slice ta tl tc, .bool qe, .int .i64 qf]))
   case first =>
    have HEND := Lib.hid (show IsS W (w2.setCell ⟨sb, 4, none⟩ (.slice (some ⟨g, 0, none⟩) k cv)).drew sb pb n M c pl' f cnt ∧ Box (w2.setCell ⟨sb, 4, none⟩ (.slice (some ⟨g, 0, none⟩) k cv)).drew wr.heap.size [.int .i64 tk, .int .i64 tn, .string ts, .slice ta tl tc, .bool qe, .int .i64 qf] from
     ⟨(HP.out w2 hb2).1.ext (Below.refl _ _).drew, ((HX2.out).far (by omega)).ext (Below.refl _ _).drew⟩)
    clear h2 x2
    refine wp_region_held_drew (S := fun w' => w'.frozen? ⟨sb, 4, none⟩ = false) (by kernel_rfl) (by exact fz4) (fun hHeld => ?_)
    first | (refine held_t (i := 0) hHeld ?_; constructor; constructor; intro wq hq; focus ((try dsimp only at hq); go_simp; first | done | with_reducible rfl | fail)) | refine held_s (i := 0) hHeld ?_ | fail
    first | (refine held_t (i := 1) hHeld ?_; constructor; constructor; intro wq hq; focus ((try dsimp only at hq); go_simp; first | done | with_reducible rfl | fail)) | refine held_s (i := 1) hHeld ?_ | fail
    first | (refine held_t (i := 2) hHeld ?_; constructor; constructor; intro wq hq; focus ((try dsimp only at hq); go_simp; first | done | with_reducible rfl | fail)) | refine held_s (i := 2) hHeld ?_ | fail
    first | (refine held_t (i := 3) hHeld ?_; constructor; constructor; intro wq hq; focus ((try dsimp only at hq); go_simp; first | done | with_reducible rfl | fail)) | refine held_s (i := 3) hHeld ?_ | fail
    first | (refine held_t (i := 5) hHeld ?_; constructor; constructor; intro wq hq; focus ((try dsimp only at hq); go_simp; first | done | with_reducible rfl | fail)) | refine held_s (i := 5) hHeld ?_ | fail
    first | (refine held_t (i := 6) hHeld ?_; constructor; constructor; intro wq hq; focus ((try dsimp only at hq); go_simp; first | done | with_reducible rfl | fail)) | refine held_s (i := 6) hHeld ?_ | fail
    first | (refine held_t (i := 7) hHeld ?_; constructor; constructor; intro wq hq; focus ((try dsimp only at hq); go_simp; first | done | with_reducible rfl | fail)) | refine held_s (i := 7) hHeld ?_ | fail
    try simp only [Act.put, lay4]
    refine wpAnyH_ready (rs := [4, 8]) (by kernel_rfl) (by simp) ?_
    refine AllReadyH.cons (by simp only [ops3]; rfl) (fun K hK => ?_) (AllReadyH.cons (by simp only [ops3]; rfl) (fun K hK => ?_) AllReadyH.nil)
    ·go_simp
     skip
     refine hK.out _ _ (hHeld) (fun hHeld => ?_)
     clear hK K
     try simp only [Act.put, lay4]
     refine held_c 8 fun K hK => ?_
     go_simp
     skip
     refine hK.out _ _ (hHeld) (fun hHeld => ?_)
     clear hK K
     try simp only [Act.put, lay4]
     first | (refine held_t (i := 9) hHeld ?_; constructor; constructor; intro wq hq; focus ((try dsimp only at hq); go_simp; first | done | with_reducible rfl | fail)) | refine held_s (i := 9) hHeld ?_ | fail
     first | (refine held_t (i := 10) hHeld ?_; constructor; constructor; intro wq hq; focus ((try dsimp only at hq); go_simp; first | done | with_reducible rfl | fail)) | refine held_s (i := 10) hHeld ?_ | fail
     try simp only [Act.put, lay4]
     first | (refine held_t (i := 11) hHeld ?_; constructor; constructor; intro wq hq; focus ((try dsimp only at hq); go_simp; first | done | with_reducible rfl | fail)) | refine held_s (i := 11) hHeld ?_ | fail
     first | (refine held_t (i := 12) hHeld ?_; constructor; constructor; intro wq hq; focus ((try dsimp only at hq); go_simp; first | done | with_reducible rfl | fail)) | refine held_s (i := 12) hHeld ?_ | fail
     first | (refine held_t (i := 13) hHeld ?_; constructor; constructor; intro wq hq; focus ((try dsimp only at hq); go_simp; first | done | with_reducible rfl | fail)) | refine held_s (i := 13) hHeld ?_ | fail
     try simp only [Act.put, lay4]
     refine held_c 14 fun K hK => ?_
     go_simp
     skip
     refine hK.out _ _ ((by (show (w2.setCell ⟨sb, 4, none⟩ (.slice (some ⟨g, 0, none⟩) k cv)).frozen? ⟨sb, 4, none⟩ = false); rw [World.frozen?_setCell]; exact fz4)) (fun hHeld => ?_)
     clear hK K
     try simp only [Act.put, lay4]
     refine wpAnyH_done (by kernel_rfl) ?_ _
     go_wp2
     all_goals go_meet
     exact HEND.out
    ·go_simp
     skip
     refine hK.out _ _ (hHeld) (fun hHeld => ?_)
     clear hK K
     try simp only [Act.put, lay4]
     first | (refine held_t (i := 9) hHeld ?_; constructor; constructor; intro wq hq; focus ((try dsimp only at hq); go_simp; first | done | with_reducible rfl | fail)) | refine held_s (i := 9) hHeld ?_ | fail
     first | (refine held_t (i := 10) hHeld ?_; constructor; constructor; intro wq hq; focus ((try dsimp only at hq); go_simp; first | done | with_reducible rfl | fail)) | refine held_s (i := 10) hHeld ?_ | fail
     try simp only [Act.put, lay4]
     refine held_c 4 fun K hK => ?_
     go_simp
     skip
     refine hK.out _ _ (hHeld) (fun hHeld => ?_)
     clear hK K
     try simp only [Act.put, lay4]
     first | (refine held_t (i := 11) hHeld ?_; constructor; constructor; intro wq hq; focus ((try dsimp only at hq); go_simp; first | done | with_reducible rfl | fail)) | refine held_s (i := 11) hHeld ?_ | fail
     first | (refine held_t (i := 12) hHeld ?_; constructor; constructor; intro wq hq; focus ((try dsimp only at hq); go_simp; first | done | with_reducible rfl | fail)) | refine held_s (i := 12) hHeld ?_ | fail
     first | (refine held_t (i := 13) hHeld ?_; constructor; constructor; intro wq hq; focus ((try dsimp only at hq); go_simp; first | done | with_reducible rfl | fail)) | refine held_s (i := 13) hHeld ?_ | fail
     try simp only [Act.put, lay4]
     refine held_c 14 fun K hK => ?_
     go_simp
     skip
     refine hK.out _ _ ((by (show (w2.setCell ⟨sb, 4, none⟩ (.slice (some ⟨g, 0, none⟩) k cv)).frozen? ⟨sb, 4, none⟩ = false); rw [World.frozen?_setCell]; exact fz4)) (fun hHeld => ?_)
     clear hK K
     try simp only [Act.put, lay4]
     refine wpAnyH_done (by kernel_rfl) ?_ _
     go_wp2
     all_goals go_meet
     exact HEND.out
   case rest =>
    clear h2 x2 z2 hb2 fz4 hb4
    obtain ⟨hI, hX⟩ := hcut.out
    clear hcut
    have HI := Lib.hid hI
    have HX := Lib.hid hX
    have x0 := hX.cells 0 _ rfl
    have x1 := hX.cells 1 _ rfl
    have x2 := hX.cells 2 _ rfl
    have x3 := hX.cells 3 _ rfl
    have x4 := hX.cells 4 _ rfl
    have x5 := hX.cells 5 _ rfl
    obtain ⟨_, _, bm2, hlt2, d0, d1, d2, d3, d4, d5, fz2, _, _, hkm2', _, _, hbs, _, _⟩ := hI.open
    have HNB := Lib.hid (hkm2'.not_cell x1)
    clear hX hI d0 d1 d2 d4 fz2
    obtain ⟨heo, hres, hqk⟩ := HEO.out
    obtain ⟨hc, hkn⟩ := HF.out
    obtain ⟨hg, hcg⟩ := HG.out
    cases qe with
    | true =>
     obtain ⟨⟨v, hvt, hcv, hnv⟩, heo2⟩ := heo.1 rfl
     replace hvt : t = varV v := hvt
     subst hvt
     replace hcv : c = qf + sizeN (fullB R v) := hcv
     have htn : tn = v := HE3.out.2.1.symm
     subst htn
     obtain ⟨kk, hkk⟩ : ∃ kk, sizeN (fullB R tn) = kk := ⟨_, rfl⟩
     rw [hkk] at hcv
     have hsub : (c : Int) - (qf : Int) = (kk : Int) := by omega
     have hwk : IntKind.i64.wrap (kk : Int) = (kk : Int) := by rw [IntKind.wrap_i64]; omega
     have hI64 : I64 tn := by
      obtain ⟨u, hu, _, _, q, _⟩ := tmV_iff.1 hqk.1
      exact q
     obtain ⟨w5, hrun, h5, hoth⟩ := IsS.know (HI.out.ext (w' := wc.drew) (Below.refl _ _).drew) (bm := bm2) d5 hI64 (k := kk) (by omega) (by unfold maxLen; omega)
     have H5 := Lib.hid h5
     have HO := Lib.hid hoth
     have HV := Lib.hid (And.intro hcv (And.intro hkk (And.intro hnv heo2)))
     clear h5 hoth heo heo2 hres hqk hc hkn hg hcg hcv hkk hnv hI64 x0 x2 x3
     go_wp2_with fail
     go_upto_region 5 with fail
     refine wp_region_held_drew (S := fun w' => (w'.cell? ⟨sb, 5, none⟩ = some (.map (some bm2)) ∧ w'.cell? ⟨sb, 3, none⟩ = some (.int .i64 c) ∧ w'.cell? ⟨wr.heap.size, 1, none⟩ = some (.int .i64 tn) ∧ w'.cell? ⟨wr.heap.size, 5, none⟩ = some (.int .i64 qf))) (by kernel_rfl) ⟨d5, d3, x1, x5⟩ (fun hHeld => ?_)
     first | (refine held_t (i := 0) hHeld ?_; constructor; constructor; intro wq hq; focus ((try dsimp only at hq); go_simp; first | done | with_reducible rfl | fail)) | refine held_s (i := 0) hHeld ?_ | fail
     first | (refine held_t (i := 1) hHeld ?_; constructor; constructor; intro wq hq; focus ((try dsimp only at hq); go_simp; first | done | with_reducible rfl | fail)) | refine held_s (i := 1) hHeld ?_ | fail
     first | (refine held_t (i := 2) hHeld ?_; constructor; constructor; intro wq hq; focus ((try dsimp only at hq); go_simp; first | done | with_reducible rfl | fail)) | refine held_s (i := 2) hHeld ?_ | fail
     first | (refine held_t (i := 3) hHeld ?_; constructor; constructor; intro wq hq; focus ((try dsimp only at hq); go_simp; first | done | with_reducible rfl | fail)) | refine held_s (i := 3) hHeld ?_ | fail
     first | (refine held_t (i := 4) hHeld ?_; constructor; constructor; intro wq hq; focus ((try dsimp only at hq); go_simp; first | done | with_reducible rfl | fail)) | refine held_s (i := 4) hHeld ?_ | fail
     first | (refine held_t (i := 5) hHeld ?_; constructor; constructor; intro wq hq; focus ((try dsimp only at hq); go_simp; first | done | with_reducible rfl | fail)) | refine held_s (i := 5) hHeld ?_ | fail
     first | (refine held_t (i := 6) hHeld ?_; constructor; constructor; intro wq hq; focus ((try dsimp only at hq); go_simp; first | done | with_reducible rfl | fail)) | refine held_s (i := 6) hHeld ?_ | fail
     try simp only [Act.put, lay4]
     first | (refine held_t (i := 7) hHeld ?_; constructor; constructor; intro wq hq; focus ((try dsimp only at hq); go_simp; first | done | with_reducible rfl | fail)) | refine held_s (i := 7) hHeld ?_ | fail
     first | (refine held_t (i := 8) hHeld ?_; constructor; constructor; intro wq hq; focus ((try dsimp only at hq); go_simp; first | done | with_reducible rfl | fail)) | refine held_s (i := 8) hHeld ?_ | fail
     first | (refine held_t (i := 9) hHeld ?_; constructor; constructor; intro wq hq; focus ((try dsimp only at hq); go_simp; first | done | with_reducible rfl | fail)) | refine held_s (i := 9) hHeld ?_ | fail
     first | (refine held_t (i := 10) hHeld ?_; constructor; constructor; intro wq hq; focus ((try dsimp only at hq); go_simp; first | done | with_reducible rfl | fail)) | refine held_s (i := 10) hHeld ?_ | fail
     first | (refine held_t (i := 11) hHeld ?_; constructor; constructor; intro wq hq; focus ((try dsimp only at hq); go_simp; first | done | with_reducible rfl | fail)) | refine held_s (i := 11) hHeld ?_ | fail
     first | (refine held_t (i := 12) hHeld ?_; constructor; constructor; intro wq hq; focus ((try dsimp only at hq); go_simp; first | done | with_reducible rfl | fail)) | refine held_s (i := 12) hHeld ?_ | fail
     try simp only [Act.put, lay4]
     first | (refine held_t (i := 13) hHeld ?_; constructor; constructor; intro wq hq; focus ((try dsimp only at hq); go_simp; first | done | with_reducible rfl | fail)) | refine held_s (i := 13) hHeld ?_ | fail
     try simp only [Act.put, lay4]
     refine held_c 14 fun K hK => ?_
     go_simp
     skip
     refine hK.out _ _ (⟨(World.cell?_of_block (HO.out sb (Ne.symm hbs))).trans hHeld.1, (World.cell?_of_block (HO.out sb (Ne.symm hbs))).trans hHeld.2.1, (World.cell?_of_block (HO.out _ HNB.out)).trans hHeld.2.2.1, (World.cell?_of_block (HO.out _ HNB.out)).trans hHeld.2.2.2⟩) (fun hHeld => ?_)
     clear hK K
     try simp only [Act.put, lay4]
     refine wpAnyH_done (by kernel_rfl) ?_ _
     go_wp2
     go_roundg ((M - c) * 10 + k)
     case measure => have := HG.out; have := HM.out; omega
     case rel =>
      obtain ⟨hcv, hkk, hnv, heo2⟩ := HV.out
      obtain ⟨hc, hkn⟩ := HF.out
      obtain ⟨hg, hcg⟩ := HG.out
      have hmk := HM.out.1
      refine Lib.hid ⟨pl', c, setF f tn kk, cnt + 1, H5.out, hc, fun q hq => HPL.out q (List.mem_append_left _ hq), heo2, fun v kv hv => ?_, ?_, by rw [hk], by omega⟩
      ·unfold setF at hv
       by_cases e : v = tn
       ·rw [if_pos e] at hv
        injection hv with hv
        subst e hv
        exact ⟨hnv, hkk.symm, by omega⟩
       ·rw [if_neg e] at hv
        exact hkn v kv hv
      ·rw [← HEO.out.2.1, pendL]
       exact congrArg (fun l => hasL n M l c) (if_pos (show (true : Bool) = true from rfl)).symm
    | false =>
     have hv2 : TmV V t (.agg #[.int .i64 tk, .int .i64 tn, .string ts, .slice ta tl tc]) := by
      have f1 : t.k = tk := HE3.out.1
      have f2 : t.n = tn := HE3.out.2.1
      have f3 : t.s = ts := HE3.out.2.2
      rw [← f1, ← f2, ← f3]
      exact hqk.1
     have HL := Lib.hid (look_any HI.out HBB.out hv2 hqk.2.1 hqk.2.2 hM hc (by omega) (fun v kv hv => by have := (hkn v kv hv).2.2; omega))
     clear hv2 heo hres hqk hc hkn hg hcg x5 d3 d5
     (go_wp2_with fail; go_fit (HL.out); rintro e w5 ⟨b, c', pl2, rfl, h5, hl⟩)
     have H5 := Lib.hid h5
     have HLR := Lib.hid hl
     obtain ⟨_, _, _, hlt5, _, _, _, g3, _⟩ := h5.open
     clear h5 hl
     cases b with
     | true =>
      have hr2 : RES = (true, c') := RunI.ends (q := ⟨(t, .slice ta tl tc), false, qf⟩) HT.out.2 HT.out.1 HF.out.1 HEO.out.2.2 rfl HF.out.2 HEO.out.2.1 HLR.out
      subst hr2
      have HW5 := Lib.hid H5.out.bel
      go_wp2_with fail
      go_quiet (fail)
      go_wp2
      go_ret2
      exact ⟨rfl, belN HW5.out _⟩
     | false =>
      obtain ⟨g', hg', hI'⟩ := RunI.goes (q := ⟨(t, .slice ta tl tc), false, qf⟩) HT.out.2 HT.out.1 HF.out.1 HEO.out.2.2 rfl (fun q hq => HPL.out q (List.mem_append_left _ hq)) HF.out.2 HEO.out.1 HEO.out.2.1 HLR.out H5.out (by rw [hk, ← HM.out.1]; exact HG.out.1) HG.out.2
      have HI' := Lib.hid hI'
      clear hI'
      go_wp2
      go_roundg g'
      case measure => exact hg'
      case rel => exact HI'
end
end Go.Proofs.Ytchbbaehdcmcfaa
/- Package bind: Has. -/
namespace Go.Proofs.Ytchbbaehdcmcfaa
open Go.RowKit Go.Maps
set_option linter.unusedVariables false
section
variable {V W w : World} {F : List Nat} {N : Nat} {R : List (Int × Tm)} {p : Value}
theorem IsS.make {W w2 : World} (hb : Below W.heap.size W w2) (pb : Value) (n : Int) (M : Nat) (q : PlP) {w3 w4 w5 : World} (e3 : w2.alloc (.cells (plCells q).toArray 175) = w3) (e4 : w3.alloc (.map #[] 0) = w4)
  (e5 : w4.alloc (.cells #[pb, .int .i64 n, .int .i64 (M : Int), .int .i64 0, .slice (some ⟨w2.heap.size, 0, none⟩) 1 1, .map (some (w2.heap.size + 1))] 178) = w5) :
  IsS W w5 (w2.heap.size + 2) pb n M 0 [q] (fun _ => none) 0 := by
 have z3 : w3.heap.size = w2.heap.size + 1 := by rw [← e3]; simp
 have z4 : w4.heap.size = w2.heap.size + 2 := by rw [← e4]; simp [z3]
 have b3 : Below w2.heap.size w2 w3 := by rw [← e3]; exact bel1' _ _
 have b4 : Below w3.heap.size w3 w4 := by rw [← e4]; exact bel1' _ _
 have b5 : Below w4.heap.size w4 w5 := by rw [← e5]; exact bel1' _ _
 have hs := hb.size
 refine ⟨.slice (some ⟨w2.heap.size, 0, none⟩) 1 1, w2.heap.size + 1, ?_, ?_, ?_, ?_, by omega, by omega, by omega, hb.trans (((b3.trans (b4.mono b3.size)).trans (b5.mono (Nat.le_trans b3.size b4.size))).mono hs)⟩
 ·rw [← e5, ← z4]
  exact heap_alloc_new w4 _
 ·refine ⟨by simp [plCells_len], Or.inr ⟨w2.heap.size, 1, (plCells q).toArray, rfl, hs, ?_, by simp, by unfold maxLen; omega, by simp [plCells_len], ?_⟩⟩
  ·rw [b5.block _ (by omega), b4.block _ (by omega), ← e3]
   exact heap_alloc_new w2 _
  ·rw [List.flatMap_cons, List.flatMap_nil, List.append_nil]
   exact List.take_of_length_le (by rw [List.toList_toArray, plCells_len]; simp)
 ·have h := KnM.nil w3
  rw [e4, z3] at h
  exact h.block (b5.block _ (by omega))
 ·simp [Value.ownBlock]
theorem RunI.start {W w : World} {sb : Nat} {n : Int} {M : Nat} {q : PlP} (hM : M ≤ 100000) (hq : PlOk V N q) (he : q.ends = false) (h : IsS W w sb p n M 0 [q] (fun _ => none) 0) : RunI V W N R n M (hasF n M (subT (fullB R) q.t.1) 0) sb p w (M * 10 + 1) := by
 refine ⟨[q], 0, _, 0, h, by omega, fun r hr => by rw [List.mem_singleton.1 hr]; exact hq, ⟨fun e => ?_, fun _ => trivial⟩, fun v k hv => (by cases hv), ?_, by simp, by omega⟩
 ·have e : q.ends = true := e
  rw [he] at e
  cases e
 ·show hasL n M (pendL (fullB R) [q.pl]) 0 = _
  rw [pendL, if_neg (by show ¬ q.ends = true; rw [he]; simp), pendL, hasL]
  show (if (hasF n M (subT (fullB R) q.t.1) 0).1 = true then _ else _) = _
  split
  ·rfl
  ·rename_i hh
   rw [hasL]
   exact Prod.ext (by simpa using hh) rfl
def hasB (N : Nat) (R : List (Int × Tm)) (n : Int) (x : Tm) (M : Nat) : Bool × Nat := if fitsB N x then hasF n M (subT (fullB R) x) 0 else (false, 0)
set_option maxHeartbeats 16000000 in
set_option maxRecDepth 100000 in
theorem Has_at (h : IsB V F w p N R) {n : Int} (hn : I64 n) {x : Tm} {v : Value} (hv : TmV V x v) {most : Int} (hm : I64 most) (hm2 : most ≤ 100000) :
  Calls Try.prog 93 #[p, .int .i64 n, v, .int .i64 most] w fun e w' => e = .returned (.tuple #[.bool (hasB N R n x most.toNat).1, .int .i64 (hasB N R n x most.toNat).2]) ∧ Below w.heap.size w w' := by
 have hvw := TmV.stay h.see.1 _ _ hv
 obtain ⟨kx, nx, sx, ax, mx, cx, rfl, f1, f2, f3, fv⟩ := four_of hv
 have hpc : (plCells ⟨(x, .slice ax mx cx), false, 0⟩).toArray = #[.int .i64 kx, .int .i64 nx, .string sx, .slice ax mx cx, .bool false, .int .i64 0] := by
  show #[Value.int .i64 x.k, .int .i64 x.n, .string x.s, .slice ax mx cx, .bool false, .int .i64 0] = _
  rw [f1, f2, f3]
 have HPC := Lib.hid (And.intro hpc (show TmV V x (pVal (x, .slice ax mx cx)) from fv ▸ hv))
 obtain ⟨w1, e1, B1, z1, X1⟩ := box_new w #[.int .i64 kx, .int .i64 nx, .string sx, .slice ax mx cx] 31
 obtain ⟨bt, av, cv, bs, rfl, _⟩ := h.open
 have FT := Lib.hid (fits_at' (h.ext B1) (TmV.ext B1 _ _ hvw))
 obtain ⟨a0, a1, a2, a3, af⟩ := X1.four
 have HB := Lib.hid (And.intro B1 X1)
 have HI := Lib.hid h
 have HV := Lib.hid hv
 have hN := h.tri.2
 obtain ⟨RES, hR⟩ : ∃ q, hasB N R n x most.toNat = q := ⟨_, rfl⟩
 rw [hR]
 unfold hasB at hR
 have HR := Lib.hid hR
 clear h hv hvw B1 X1 z1 hR f1 f2 f3 fv hpc
 go_enter Try.func93, Try.ntmps93
 (go_wp2_with fail; go_fit (FT.out); rintro e w2 ⟨rfl, b2⟩)
 have HB2 := Lib.hid (And.intro (Ext.trans' HB.out.1 b2) (HB.out.2.ext b2))
 obtain ⟨y0, y1, y2, y3, yf⟩ := HB2.out.2.four
 clear b2 a0 a1 a2 a3 af
 cases hf : fitsB N x with
 | false =>
  have hr : RES = (false, 0) := by rw [← HR.out, hf]; rfl
  subst hr
  go_wp2
  go_ret2
  exact ⟨rfl, HB2.out.1⟩
 | true =>
  have HHF := Lib.hid (And.intro hf (show hasF n most.toNat (subT (fullB R) x) 0 = RES by rw [← HR.out, hf]; rfl))
  have hmm := @run_makeMap Try.prog
  obtain ⟨M, hM⟩ : ∃ M : Nat, most.toNat = M := ⟨_, rfl⟩
  have hmin : min (max most 0) 9223372036854775806 = (M : Int) := by omega
  have HM := Lib.hid hM
  clear hf hM
  have HRUN := Lib.hid (show Calls Try.prog 116 #[.pointer (some ⟨w2.heap.size + 1 + 1, 0, none⟩)] (((w2.alloc (.cells #[.int .i64 kx, .int .i64 nx, .string sx, .slice ax mx cx, .bool false, .int .i64 0] 175)).alloc (.map #[] 0)).alloc (.cells #[.pointer (some ⟨bt, 0, none⟩), .int .i64 n, .int .i64 (M : Int), .int .i64 0, .slice (some ⟨w2.heap.size, 0, none⟩) 1 1, .map (some (w2.heap.size + 1))] 178)) (fun e w' => e = .returned (.tuple #[.bool RES.1, .int .i64 (RES.2 : Nat)]) ∧ Below w.heap.size w w') from by
   have hM := HM.out
   have hr := HHF.out.2
   rw [hM] at hr
   rw [← hr]
   have hs := IsS.make HB2.out.1 (.pointer (some ⟨bt, 0, none⟩)) n M ⟨(x, .slice ax mx cx), false, 0⟩ (w3 := w2.alloc (.cells #[.int .i64 kx, .int .i64 nx, .string sx, .slice ax mx cx, .bool false, .int .i64 0] 175)) (by rw [HPC.out.1]) rfl rfl
   exact run_at (RunI.start (V := V) (N := N) (R := R) (by omega) ⟨HPC.out.2, (fitsB_true.1 HHF.out.1).1, (fitsB_true.1 HHF.out.1).2⟩ rfl hs) HI.out (by omega))
  (go_wp2_with fail; go_fit (HRUN.out); rintro e w6 ⟨rfl, b6⟩)
  have HB6 := Lib.hid b6
  clear b6
  go_wp2
  go_ret2
  exact ⟨rfl, HB6.out⟩
end
end Go.Proofs.Ytchbbaehdcmcfaa
/- The document's side of chapter 11: Has. -/
namespace Go.Proofs.Ytchbbaehdcmcfaa
open Go.RowKit
set_option linter.unusedVariables false
section
variable {V w : World} {F : List Nat} {p : Value} {N : Nat} {R : List (Int × Tm)} {n : Int} {M cb : Nat}
theorem rhas_at (hM : M ≤ 100000) (hn : I64 n) (hcF : ¬ cb ∈ F) (hcV : Blind V [cb]) : ∀ (K : Nat) (x : Tm), sizeN (subT (fullB R) x) < K → HasP V F p N R n M cb x := by
 intro K
 induction K with
 | zero => intro x hx; omega
 | succ K ih => exact fun x hx => rhas_step hM hn hcF hcV K ih x hx
end
end Go.Proofs.Ytchbbaehdcmcfaa
/- Both sides of chapter 11 side by side: pure. -/
namespace Go.Proofs.Ytchbbaehdcmcfaa
def Sync : List (Int × Tm) → List (Int × Tm) → Prop
 | [], [] => True
 | p :: R, q :: S => Sync R S ∧ p.1 = q.1 ∧ subT (fullB R) p.2 = subT (fullB S) q.2
 | _, _ => False
theorem Sync.full : ∀ {R S : List (Int × Tm)}, Sync R S → fullB R = fullB S
 | [], [], _ => rfl
 | (n, t) :: R, (m, u) :: S, h => by
  obtain ⟨h1, h2, h3⟩ := h
  cases (show n = m from h2)
  have h3 : subT (fullB R) t = subT (fullB S) u := h3
  funext v
  rw [fullB, fullB, h3, h1.full]
theorem Sync.dom : ∀ {R S : List (Int × Tm)}, Sync R S → domB R = domB S
 | [], [], _ => rfl
 | (n, t) :: R, (m, u) :: S, h => by
  obtain ⟨h1, h2, h3⟩ := h
  cases (show n = m from h2)
  show n :: domB R = n :: domB S
  rw [h1.dom]
theorem Sync.len {R S : List (Int × Tm)} (h : Sync R S) : R.length = S.length := by
 have := congrArg List.length h.dom
 simpa [domB] using this
theorem Sync.drop : ∀ (k : Nat) {R S : List (Int × Tm)}, Sync R S → Sync (R.drop k) (S.drop k)
 | 0, _, _, h => h
 | k + 1, [], [], h => h
 | k + 1, p :: R, q :: S, h => Sync.drop k h.1
theorem Sync.set {R S : List (Int × Tm)} (h : Sync R S) {n : Int} {x y : Tm} (hy : subT (fullB R) y = subT (fullB R) x) : Sync ((n, y) :: R) ((n, x) :: S) :=
 ⟨h, rfl, by show subT (fullB R) y = subT (fullB S) x; rw [hy, h.full]⟩
theorem set_zero {N : Nat} {R : List (Int × Tm)} {n : Int} {x : Tm} (h : setB N R n x = 0) : 0 ≤ n ∧ n < N ∧ fitsB N x = true ∧ getB R n = none ∧ ¬ n ∈ occT (subT (fullB R) x) := by
 unfold setB at h
 split at h
 ·rename_i h1
  split at h
  ·cases h
  ·rename_i h2
   split at h
   ·cases h
   ·rename_i h3
    simp only [Bool.and_eq_true, decide_eq_true_eq] at h1
    exact ⟨h1.1.1, h1.1.2, h1.2, by simpa using h2, h3⟩
 ·cases h
theorem Tri.setx {N : Nat} {R : List (Int × Tm)} (hT : Tri N R) {n : Int} {x : Tm} (h : setB N R n x = 0) : Tri N ((n, x) :: R) := by
 obtain ⟨h1, h2, h3, h4, h5⟩ := set_zero h
 obtain ⟨f1, f2⟩ := fitsB_true.1 h3
 refine ⟨hT, h1, h2, fun hd => ?_, f1, f2, h5⟩
 have := dom_iff.2 hd
 rw [h4] at this
 cases this
end Go.Proofs.Ytchbbaehdcmcfaa
/- Package unify: join, stand: one variable is let stand for another, or for a term. -/
namespace Go.Proofs.Ytchbbaehdcmcfaa
open Go.RowKit
set_option linter.unusedVariables false
section
variable {V w : World} {F : List Nat} {p : Value} {N : Nat} {R S : List (Int × Tm)} {cb c : Nat}
theorem OkS.of_tri (hT : Tri N R) (hN : N ≤ 65536) (hs : Sync R S) : OkS N S := by
 refine ⟨hN, fun m h0 h1 => ?_, fun m h0 h1 => ?_, fun m j hj => ?_⟩
 ·rw [← hs.full]; exact full_formed hN hT m h0 h1
 ·rw [← hs.full]; exact full_range hT m h0 h1
 ·rw [← hs.full] at hj ⊢
  exact full_free (full_occ hT m j hj)
theorem free_full {n : Int} (hg : getB R n = none) : fullB R n = varV n := full_free (get_none.1 hg)
theorem fits_var {n : Int} (h0 : 0 ≤ n) (h1 : n < N) (hN : N ≤ 65536) : fitsB N (varV n) = true := fitsB_true.2 ⟨var_good h0 (by omega), fun m hm => by rw [occ_varV] at hm; simp at hm; subst hm; exact ⟨h0, h1⟩⟩
theorem set_free {n : Int} {x : Tm} (h0 : 0 ≤ n) (h1 : n < N) (hf : fitsB N x = true) (hg : getB R n = none) (ho : ¬ n ∈ occT (subT (fullB R) x)) : setB N R n x = 0 := by
 unfold setB
 rw [if_pos (by simp [h0, h1, hf]), hg, if_neg (by simp), if_neg ho]
def UniP (V : World) (F : List Nat) (w : World) (p : Value) (N : Nat) (cb : Nat) (r : URes) (e : Ending) (w' : World) : Prop :=
 ∃ F' R', e = .returned (.bool r.ok) ∧ IsB V F' w' p N R' ∧ Sync R' r.set ∧ Box w' cb [p, .int .i64 r.cost] ∧ Touch (cb :: F) w w' ∧ ∀ k ∈ F', k ∈ F ∨ w.heap.size ≤ k
theorem Touch.cell {F : List Nat} {w w' : World} (t : Touch F w w') {b j : Nat} {v : Value} (hn : ¬ b ∈ F) (hc : w.cell? ⟨b, j, none⟩ = some v) : w'.cell? ⟨b, j, none⟩ = some v :=
 (World.cell?_of_block (t.block b (World.block_lt_of_cell? _ _ hc) hn)).trans hc
theorem Touch.box {F : List Nat} {w w' : World} (t : Touch F w w') {b : Nat} {vs : List Value} (hn : ¬ b ∈ F) (hx : Box w b vs) : Box w' b vs := hx.block (t.block b hx.lt hn) (Nat.lt_of_lt_of_le hx.lt t.size)
set_option maxHeartbeats 8000000 in
theorem join_at (h : IsB V F w p N R) (hs : Sync R S) (hcb : Box w cb [p, .int .i64 c]) (hcF : ¬ cb ∈ F) {n m : Nat} (hn : n < N) (hm : m < N) (gn : getB R n = none) (gm : getB R m = none) (an am : Option Addr) (cn cm : Nat) :
  Calls Try.prog 140 #[.pointer (some ⟨cb, 0, none⟩), .agg #[.int .i64 0, .int .i64 n, .string ⟨#[]⟩, .slice an 0 cn], .agg #[.int .i64 0, .int .i64 m, .string ⟨#[]⟩, .slice am 0 cm]] w (UniP V F w p N cb (joinB S n m c)) := by
 have hN := h.tri.2
 obtain ⟨w1, e1, B1, z1, X1⟩ := box_new w #[.int .i64 0, .int .i64 n, .string ⟨#[]⟩, .slice an 0 cn] 31
 obtain ⟨w2, e2, B2, z2, X2⟩ := box_new w1 #[.int .i64 0, .int .i64 m, .string ⟨#[]⟩, .slice am 0 cm] 31
 have hb2 := Ext.trans' B1 B2
 have X1 := X1.ext B2
 rw [z1] at X2
 have hcb2 := hcb.ext hb2
 have HB2 := Lib.hid (And.intro hb2 (And.intro X1 (And.intro X2 hcb2)))
 have HI := Lib.hid (And.intro h (And.intro hs hcb))
 have HE := Lib.hid (And.intro e1 e2)
 have x1 := X1.cells 1 _ rfl
 have x2 := X2.cells 1 _ rfl
 have d0 := hcb2.cells 0 _ rfl
 have hcl := hcb.lt
 have HCF := Lib.hid hcF
 clear h hs hcb B1 B2 X1 X2 hb2 z1 z2 hcb2 e1 e2 hcF
 by_cases hnm : n = m
 ·subst hnm
  have hj : joinB S (n : Int) (n : Int) c = ⟨true, S, c⟩ := by unfold joinB; rw [if_pos rfl]
  rw [hj]
  clear hj
  go_enter Try.func140, Try.ntmps140
  go_upto_region 1 with fail
  rw [HE.out.1, HE.out.2]
  go_wp2
  go_ret
  exact ⟨F, R, rfl, HI.out.1.ext HB2.out.1, HI.out.2.1, HB2.out.2.2.2, Touch.of_below HB2.out.1 _, fun k hk => Or.inl hk⟩
 ·have hnm2 : ((n : Int) == (m : Int)) = false := by simp; omega
  obtain ⟨a, b, hab, ha, hb, hga, hj, hmx, hmn⟩ : ∃ a b : Nat, a ≠ b ∧ a < N ∧ b < N ∧ (getB R a = none ∧ getB R b = none) ∧ joinB S (n : Int) (m : Int) c = ⟨true, ((a : Int), varV b) :: S, c⟩ ∧ max (n : Int) (m : Int) = a ∧ min (n : Int) (m : Int) = b := by
   have hne : ¬ ((n : Int) = (m : Int)) := by omega
   unfold joinB
   rw [if_neg hne]
   by_cases q : n ≤ m
   ·have q' : (n : Int) ≤ m := by omega
    exact ⟨m, n, fun e => hnm e.symm, hm, hn, ⟨gm, gn⟩, by rw [Int.max_eq_right q', Int.min_eq_left q'], Int.max_eq_right q', Int.min_eq_left q'⟩
   ·have q' : (m : Int) ≤ n := by omega
    exact ⟨n, m, hnm, hn, hm, ⟨gn, gm⟩, by rw [Int.max_eq_left q', Int.min_eq_right q'], Int.max_eq_left q', Int.min_eq_right q'⟩
  rw [hj]
  have hset : setB N R a (varV b) = 0 := set_free (by omega) (by omega) (fits_var (by omega) (by omega) hN) hga.1 (by rw [sub_varV, free_full hga.2, occ_varV]; simp; omega)
  have HST := Lib.hid hset
  have hlf : TmV V (varV (b : Int)) (.agg #[.int .i64 0, .int .i64 b, .string ⟨#[]⟩, .slice none 0 0]) := leaf_tm V i64_0 (by unfold I64; omega) (by unfold BIG; decide)
  have HSA := Lib.hid (fun (wq : World) (hb : Below w.heap.size w wq) => Set_at (HI.out.1.ext hb) (n := (a : Int)) (by unfold I64; omega) hlf)
  clear hlf hset hj hga gn gm
  go_enter Try.func140, Try.ntmps140
  go_upto_region 3 with fail
  rw [HE.out.1, HE.out.2]
  refine wp_region_held_drew (S := fun w' => w'.cell? ⟨cb, 0, none⟩ = some p ∧ w'.cell? ⟨w.heap.size, 1, none⟩ = some (.int .i64 n) ∧ w'.cell? ⟨w.heap.size + 1, 1, none⟩ = some (.int .i64 m)) (by kernel_rfl) ⟨d0, x1, x2⟩ (fun hHeld => ?_)
  first | (refine held_t (i := 0) hHeld ?_; constructor; constructor; intro wq hq; focus ((try dsimp only at hq); go_simp; first | done | with_reducible rfl | fail)) | refine held_s (i := 0) hHeld ?_ | fail
  first | (refine held_t (i := 1) hHeld ?_; constructor; constructor; intro wq hq; focus ((try dsimp only at hq); go_simp; first | done | with_reducible rfl | fail)) | refine held_s (i := 1) hHeld ?_ | fail
  first | (refine held_t (i := 2) hHeld ?_; constructor; constructor; intro wq hq; focus ((try dsimp only at hq); go_simp; first | done | with_reducible rfl | fail)) | refine held_s (i := 2) hHeld ?_ | fail
  first | (refine held_t (i := 3) hHeld ?_; constructor; constructor; intro wq hq; focus ((try dsimp only at hq); go_simp; first | done | with_reducible rfl | fail)) | refine held_s (i := 3) hHeld ?_ | fail
  first | (refine held_t (i := 4) hHeld ?_; constructor; constructor; intro wq hq; focus ((try dsimp only at hq); go_simp; first | done | with_reducible rfl | fail)) | refine held_s (i := 4) hHeld ?_ | fail
  first | (refine held_t (i := 5) hHeld ?_; constructor; constructor; intro wq hq; focus ((try dsimp only at hq); go_simp; first | done | with_reducible rfl | fail)) | refine held_s (i := 5) hHeld ?_ | fail
  first | (refine held_t (i := 6) hHeld ?_; constructor; constructor; intro wq hq; focus ((try dsimp only at hq); go_simp; first | done | with_reducible rfl | fail)) | refine held_s (i := 6) hHeld ?_ | fail
  first | (refine held_t (i := 7) hHeld ?_; constructor; constructor; intro wq hq; focus ((try dsimp only at hq); go_simp; first | done | with_reducible rfl | fail)) | refine held_s (i := 7) hHeld ?_ | fail
  first | (refine held_t (i := 8) hHeld ?_; constructor; constructor; intro wq hq; focus ((try dsimp only at hq); go_simp; first | done | with_reducible rfl | fail)) | refine held_s (i := 8) hHeld ?_ | fail
  first | (refine held_t (i := 9) hHeld ?_; constructor; constructor; intro wq hq; focus ((try dsimp only at hq); go_simp; first | done | with_reducible rfl | fail)) | refine held_s (i := 9) hHeld ?_ | fail
  first | (refine held_t (i := 10) hHeld ?_; constructor; constructor; intro wq hq; focus ((try dsimp only at hq); go_simp; first | done | with_reducible rfl | fail)) | refine held_s (i := 10) hHeld ?_ | fail
  first | (refine held_t (i := 11) hHeld ?_; constructor; constructor; intro wq hq; focus ((try dsimp only at hq); go_simp; first | done | with_reducible rfl | fail)) | refine held_s (i := 11) hHeld ?_ | fail
  first | (refine held_t (i := 12) hHeld ?_; constructor; constructor; intro wq hq; focus ((try dsimp only at hq); go_simp; first | done | with_reducible rfl | fail)) | refine held_s (i := 12) hHeld ?_ | fail
  first | (refine held_t (i := 13) hHeld ?_; constructor; constructor; intro wq hq; focus ((try dsimp only at hq); go_simp; first | done | with_reducible rfl | fail)) | refine held_s (i := 13) hHeld ?_ | fail
  try simp only [Act.put, lay4]
  refine held_c 14 fun K hK => ?_
  go_simp
  (go_at_call 14; refine (var_at _ _).mono ?_; rintro e w6 ⟨rfl, b6⟩; have HB6 := Lib.hid (HB2.out.1.drew.trans (b6.mono HB2.out.1.drew.size)); have hb6 := Ext.trans' (Below.refl w2.heap.size w2).drew b6; have HX6 := Lib.hid (HB2.out.2.2.2.ext hb6); clear b6)
  refine hK.out _ _ (⟨cell_later hb6 hHeld.1, cell_later hb6 hHeld.2.1, cell_later hb6 hHeld.2.2⟩) (fun hHeld => ?_)
  clear hK K
  try simp only [Act.put, lay4]
  refine held_c 15 fun K hK => ?_
  go_simp
  (go_at_call 118; refine (HSA.out _ HB6.out).mono ?_; rintro e w7 ⟨F7, R7, rfl, h7, t7, in7, hc7⟩; rw [HST.out]; obtain ⟨y, rfl, hy⟩ : ∃ y, R7 = ((a : Int), y) :: R ∧ subT (fullB R) y = subT (fullB R) (varV b) := (by rcases hc7 with ⟨_, h⟩ | ⟨h, _⟩; exact h; exact absurd HST.out h); have HR7 := Lib.hid (And.intro h7 (And.intro t7 (And.intro in7 hy))); clear h7 in7 hc7 hy)
  refine hK.out _ _ (⟨t7.cell HCF.out hHeld.1, t7.cell (fun hm => absurd (HI.out.1.lt _ hm) (Nat.lt_irrefl _)) hHeld.2.1, t7.cell (fun hm => by have := HI.out.1.lt _ hm; omega) hHeld.2.2⟩) (fun hHeld => ?_)
  clear hK K
  try simp only [Act.put, lay4]
  first | (refine held_t (i := 16) hHeld ?_; constructor; constructor; intro wq hq; focus ((try dsimp only at hq); go_simp; first | done | with_reducible rfl | fail)) | refine held_s (i := 16) hHeld ?_ | fail
  first | (refine held_t (i := 17) hHeld ?_; constructor; constructor; intro wq hq; focus ((try dsimp only at hq); go_simp; first | done | with_reducible rfl | fail)) | refine held_s (i := 17) hHeld ?_ | fail
  try simp only [Act.put, lay4]
  refine wpAnyH_done (by kernel_rfl) ?_ _
  go_wp2
  go_ret
  exact ⟨F7, _, rfl, HR7.out.1, HI.out.2.1.set HR7.out.2.2.2, HR7.out.2.1.box HCF.out HX6.out, ((Touch.of_below HB6.out F).trans HR7.out.2.1 (fun k hk => Or.inl hk)).sub (fun k hk => List.mem_cons_of_mem _ hk), fun k hk => (HR7.out.2.2.1 k hk).imp id (fun h => Nat.le_trans HB6.out.size h)⟩
end
end Go.Proofs.Ytchbbaehdcmcfaa
