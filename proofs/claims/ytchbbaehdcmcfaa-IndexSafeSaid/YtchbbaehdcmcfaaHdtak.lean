import Derived.Test.YtchbbaehdcmcfaaHdtzz
import Derived.Test.YtchbbaehdcmcfaaHdtah
import Derived.Test.YtchbbaehdcmcfaaHdtai
import Derived.Test.YtchbbaehdcmcfaaHdtaj
import Derived.Test.YtchbbaehdcmcfaaHdtaf
import Derived.Test.YtchbbaehdcmcfaaHdtag
import Derived.Test.YtchbbaehdcmcfaaHdtaa
import Derived.Test.YtchbbaehdcmcfaaHdtad
import Derived.Test.YtchbbaehdcmcfaaHdtac
import Derived.Deep.QuietTactic
import Derived.Test.YtchbbaehdcmcfaaHdtab
set_option linter.unusedVariables false
set_option linter.unusedSimpArgs false
/- Package bind: search's run, walked. -/
namespace Go.Proofs.Ytchbbaehdcmcfaa
open Go.RowKit Go.Maps
set_option linter.unusedVariables false
section
variable {V W w : World} {F : List Nat} {N : Nat} {R : List (Int × Tm)} {sb : Nat} {pb : Value} {n : Int} {M c : Nat} {pl : List PlP} {f : Int → Option Nat} {cnt : Nat}
theorem look_any (h : IsS W w sb pb n M c pl f cnt) (hB : IsB V F W pb N R) {x : Tm} {v : Value} (hv : TmV V x v) (hg : goodT x = true) (ho : ∀ m ∈ occT x, 0 ≤ m ∧ m < N) (hM : M ≤ 100000) (hc : c ≤ M) (hpl : pl.length ≤ 2000000) (hkn : ∀ v k, f v = some k → k ≤ 200000) :
    Calls Try.prog 142 #[.pointer (some ⟨sb, 0, none⟩), v] w fun e w' => ∃ b c' pl', e = .returned (.bool b) ∧ IsS W w' sb pb n M c' pl' f cnt ∧ LookR V N R n M c f x b c' pl pl' := by
  by_cases hk : x.k = 0
  · cases hf : f x.n with
    | none => exact look_var h hB hv hg ho hk hf hM hc hpl
    | some k =>
      have hN := hB.tri.2
      obtain ⟨xk, xn, xs, xt⟩ := x
      cases (show xk = 0 from hk)
      have hx := (formed_var (good_parts hg).2.2).1
      have hr := ho xn (by rw [occ_var]; simp)
      obtain ⟨i, hi⟩ : ∃ i : Nat, xn = (i : Int) := ⟨xn.toNat, by omega⟩
      obtain ⟨u, rfl, _, _, _, hU⟩ := tmV_iff.1 hv
      obtain ⟨a', c', rfl, _⟩ := hU.len
      unfold varV at hx
      injection hx with _ _ h1 h2
      subst h1 h2 hi
      have hf' : f (i : Int) = some k := hf
      refine (look_known h i (by omega) a' c' hf' hM hc (hkn _ _ hf')).mono ?_
      rintro e w' ⟨rfl, h6⟩
      exact ⟨_, _, _, rfl, h6, Or.inl ⟨rfl, k, hf', rfl, rfl, rfl⟩⟩
  · exact look_not h hB hv hg ho hk hM hc hpl
def RunI (V W : World) (N : Nat) (R : List (Int × Tm)) (n : Int) (M : Nat) (RES : Bool × Nat) (sb : Nat) (pb : Value) (wr : World) (g : Nat) : Prop :=
  ∃ pl c f cnt, IsS W wr sb pb n M c pl f cnt ∧ c ≤ M ∧ (∀ q ∈ pl, PlOk V N q) ∧ EO (fullB R) n c False (pl.reverse.map PlP.pl) ∧ (∀ v k, f v = some k → ¬ n ∈ occT (fullB R v) ∧ k = sizeN (fullB R v) ∧ k ≤ M) ∧
    hasL n M (pendL (fullB R) (pl.reverse.map PlP.pl)) c = RES ∧ g = (M - c) * 10 + pl.length ∧ cnt + g ≤ 1000001
theorem rev_snoc (pl : List PlP) (q : PlP) : (pl ++ [q]).reverse.map PlP.pl = q.pl :: pl.reverse.map PlP.pl := by
 rw [List.reverse_append]; rfl
theorem RunI.ends {RES : Bool × Nat} {q : PlP} {c' : Nat} {pl' : List PlP} (hN : N ≤ 65536) (hT : Tri N R) (hc : c ≤ M) (hq : PlOk V N q) (hqe : q.ends = false) (hkn : ∀ v k, f v = some k → ¬ n ∈ occT (fullB R v) ∧ k = sizeN (fullB R v) ∧ k ≤ M)
  (hres : hasL n M (pendL (fullB R) (q.pl :: pl.reverse.map PlP.pl)) c = RES) (hl : LookR V N R n M c f q.t.1 true c' pl pl') : RES = (true, c') := by
 have hp : pendL (fullB R) (q.pl :: pl.reverse.map PlP.pl) = subT (fullB R) q.t.1 :: pendL (fullB R) (pl.reverse.map PlP.pl) := by
  rw [pendL, if_neg (by show ¬ q.ends = true; rw [hqe]; simp)]
  rfl
 rw [hp] at hres
 rcases hl with ⟨hk, k, hf, hb, rfl, _⟩ | ⟨_, y, news, hw, ht, hb, rfl, _⟩
 ·obtain ⟨h1, h2, h3⟩ := hkn _ _ hf
  have hT2 : subT (fullB R) q.t.1 = fullB R q.t.1.n := by
   obtain ⟨⟨⟨xk, xn, xs, xt⟩, u⟩, _, _⟩ := q
   cases (show xk = 0 from hk)
   rw [sub_var]; rfl
  have hlt : M < c + k := by simpa using hb.symm
  rw [← hres, hasL, hT2, hasF_not _ c (by rw [← hT2]; exact subfull_formed hN hT (good_parts hq.2.1).2.2 hq.2.2) h1 hc, ← h2, if_neg (show ¬ c + k ≤ M by omega), cntN, if_pos hlt]
  simp
 ·rw [← hres, look_into hN hT hw ht hc _ hb, if_pos rfl]
theorem RunI.goes {RES : Bool × Nat} {q : PlP} {c' g : Nat} {pl' : List PlP} {wr : World} (hN : N ≤ 65536) (hT : Tri N R) (hc : c ≤ M) (hq : PlOk V N q) (hqe : q.ends = false) (hpl : ∀ q ∈ pl, PlOk V N q) (hkn : ∀ v k, f v = some k → ¬ n ∈ occT (fullB R v) ∧ k = sizeN (fullB R v) ∧ k ≤ M)
  (heo : EO (fullB R) n c False (q.pl :: pl.reverse.map PlP.pl)) (hres : hasL n M (pendL (fullB R) (q.pl :: pl.reverse.map PlP.pl)) c = RES) (hl : LookR V N R n M c f q.t.1 false c' pl pl') (hS : IsS W wr sb pb n M c' pl' f cnt) (hgg : g = (M - c) * 10 + (pl.length + 1)) (hcg : cnt + g ≤ 1000001) :
  ∃ g', g' < g ∧ RunI V W N R n M RES sb pb wr g' := by
 have hpd : pendL (fullB R) (q.pl :: pl.reverse.map PlP.pl) = subT (fullB R) q.t.1 :: pendL (fullB R) (pl.reverse.map PlP.pl) := by
  rw [pendL, if_neg (by show ¬ q.ends = true; rw [hqe]; simp)]
  rfl
 rw [hpd] at hres
 rcases hl with ⟨hk, k, hf, hb, rfl, rfl⟩ | ⟨_, y, news, hw, ht, hb, rfl, rfl, hnw, hnr⟩
 ·obtain ⟨h1, h2, h3⟩ := hkn _ _ hf
  have hT2 : subT (fullB R) q.t.1 = fullB R q.t.1.n := by
   obtain ⟨⟨⟨xk, xn, xs, xt⟩, u⟩, _, _⟩ := q
   cases (show xk = 0 from hk)
   rw [sub_var]; rfl
  have hlt : ¬ M < c + k := by simpa using hb.symm
  have hcn : cntN M c k = c + k := if_neg hlt
  rw [hcn] at hS
  have hk1 : 1 ≤ k := by rw [h2]; exact size_pos _
  refine ⟨(M - (c + k)) * 10 + pl'.length, by omega, pl', c + k, f, cnt, hS, by omega, hpl, ?_, hkn, ?_, rfl, by omega⟩
  ·have h5 := heo.2 hqe
   have h6 : sizeN (subT (fullB R) q.pl.t) = k := by show sizeN (subT (fullB R) q.t.1) = k; rw [hT2, h2]
   rw [h6] at h5
   refine h5.weak (fun e => e.elim id (fun e => ?_))
   have e : n ∈ occT (subT (fullB R) q.t.1) := e
   rw [hT2] at e
   exact h1 e
  ·rw [← hres, hasL, hT2, hasF_not _ c (by rw [← hT2]; exact subfull_formed hN hT (good_parts hq.2.1).2.2 hq.2.2) h1 hc, ← h2, if_pos (show c + k ≤ M by omega)]
   simp
 ·have hb' := hb.symm
  simp only [Bool.or_eq_false_iff, decide_eq_false_iff_not, Bool.and_eq_false_iff] at hb'
  have hcn : cntN M c 1 = c + 1 := if_neg hb'.1
  rw [hcn] at hS
  clear hcn
  have hnl : news.length ≤ 9 := by
   have h1 := congrArg List.length hnr
   have h2 := good_len hw.good
   have h3 : (placesOf c q.t.1 y).length ≤ y.args.length + 1 := by unfold placesOf; split <;> simp
   simp at h1
   omega
  refine ⟨(M - (c + 1)) * 10 + (pl ++ news).length, by rw [List.length_append]; omega, pl ++ news, c + 1, f, cnt, hS, by omega, fun r hr => (List.mem_append.1 hr).elim (hpl r) (hnw r), ?_, hkn, ?_, rfl, by rw [List.length_append]; omega⟩
  ·rw [List.reverse_append, List.map_append, hnr]
   refine EO.into hw ht hq.2.1 ?_ (fun e => ?_)
   ·refine ⟨fun e => (by cases e), fun _ => ?_⟩
    exact heo.2 hqe
   ·rcases hb'.2 with h | h
    ·exact h e.1
    ·exact h e.2
  ·rw [List.reverse_append, List.map_append, hnr, pend_app, pend_places, ← hres, look_into hN hT hw ht hc _ hb, if_neg (by simp)]
end
end Go.Proofs.Ytchbbaehdcmcfaa
/- Package bind: search's run, the walk. -/
namespace Go.Proofs.Ytchbbaehdcmcfaa
open Go.RowKit Go.Maps
set_option linter.unusedVariables false
section
variable {V W w : World} {F : List Nat} {N : Nat} {R : List (Int × Tm)} {sb : Nat} {pb : Value} {n : Int} {M : Nat}
theorem KnM.not_cell {w : World} {bm : Nat} {f : Int → Option Nat} {cnt : Nat} (h : KnM w bm f cnt) {b j : Nat} {v : Value} (hc : w.cell? ⟨b, j, none⟩ = some v) : b ≠ bm := by
 rintro rfl
 obtain ⟨D, ⟨es, clock, h1, h2⟩, _⟩ := h
 simp [World.cell?, h1] at hc
set_option maxHeartbeats 16000000 in
set_option maxRecDepth 100000 in
theorem run_at {RES : Bool × Nat} {g0 : Nat} (h : RunI V W N R n M RES sb pb w g0) (hB : IsB V F W pb N R) (hM : M ≤ 100000) :
    Calls Try.prog 116 #[.pointer (some ⟨sb, 0, none⟩)] w fun e w' => e = .returned (.tuple #[.bool RES.1, .int .i64 (RES.2 : Nat)]) ∧ Below W.heap.size W w' := by
  have H0 := Lib.hid h
  have HBB := Lib.hid hB
  obtain ⟨hT, hN⟩ := hB.tri
  have HT := Lib.hid (And.intro hT hN)
  clear h hB hT hN
  go_enter Try.func116, Try.ntmps116
  go_wp2_with fail
  go_loopg [] g0 (fun g wr => Hid (RunI V W N R n M RES sb pb wr g))
  case atStart => exact H0
  case round =>
    obtain ⟨pl, c, f, cnt, hS, hc, hpl, heo, hkn, hres, hg, hcg⟩ := hrel.out
    clear hrel
    obtain ⟨ap, cv, bm, hlt, c0, c1, c2, c3, c4, c5, fz, hpc, hpm, _⟩ := hS.open
    rcases List.eq_nil_or_concat pl with rfl | ⟨pl', q, rfl⟩
    · have hr2 : RES = (false, c) := by rw [← hres]; rfl
      subst hr2
      have HS := Lib.hid hS.bel
      rw [List.length_nil] at c4
      clear hS hpl heo hkn hres hg hcg hpc hpm fz
      go_wp2_with fail
      go_quiet (fail)
      go_wp2
      go_ret2
      exact ⟨rfl, belN HS.out _⟩
    · rw [List.concat_eq_append] at hS hpl heo hres hg hpc c4
      obtain ⟨k, hk⟩ : ∃ k, pl'.length = k := ⟨_, rfl⟩
      obtain ⟨m, hm⟩ : ∃ m, (pl' ++ [q]).length = m := ⟨_, rfl⟩
      have hmk : m = k + 1 := by rw [← hm, List.length_append, hk]; rfl
      rw [hm] at c4 hpc hg
      rw [rev_snoc] at heo hres
      have hmb : m ≤ 2000000 := by omega
      have hm0 : (0 : Int) < m := by omega
      have hm1 : (m : Int) - 1 = (k : Int) := by omega
      have hkm : k < m := by omega
      have c4k := c4
      rw [hmk] at c4k
      have hpop := fun (w2 : World) (hb : Below wr.heap.size wr w2) => (hS.ext hb).pop hk (cell_later hb c4k)
      obtain ⟨_, g, rfl, hcells⟩ := hpop wr (Below.refl _ _)
      obtain ⟨⟨t, tu⟩, qe, qf⟩ := q
      have hqk := hpl _ (List.mem_append_right _ (List.mem_singleton_self _))
      obtain ⟨tk, tn, ts, ta, tl, tc, hv, f1, f2, f3, fv⟩ := four_of hqk.1
      simp only [pVal, Value.agg.injEq] at hv
      have hv' := congrArg Array.toList hv
      simp only [List.cons.injEq, and_true] at hv'
      obtain ⟨e1, e2, e3, rfl⟩ := hv'
      have k0 := hcells 0 _ rfl
      have k1 := hcells 1 _ rfl
      have k2 := hcells 2 _ rfl
      have k3 := hcells 3 _ rfl
      have k4 := hcells 4 _ rfl
      have k5 := hcells 5 _ rfl
      simp only [e1, e2, e3] at k0 k1 k2 k3
      rw [Nat.add_zero] at k0
      have hmm : m - 1 = k := by omega
      have HK6 : Hid (wr.cell? ⟨g, k * 6, none⟩ = some (.int .i64 tk) ∧ wr.cell? ⟨g, k * 6 + 1, none⟩ = some (.int .i64 tn) ∧ wr.cell? ⟨g, k * 6 + 2, none⟩ = some (.string ts) ∧ wr.cell? ⟨g, k * 6 + 3, none⟩ = some (.slice ta tl tc) ∧ wr.cell? ⟨g, k * 6 + 4, none⟩ = some (.bool qe) ∧ wr.cell? ⟨g, k * 6 + 5, none⟩ = some (.int .i64 qf)) := Lib.hid ⟨k0, k1, k2, k3, k4, k5⟩
      have HS := Lib.hid hS
      have HP := Lib.hid hpop
      have HG := Lib.hid (And.intro hg hcg)
      have HF := Lib.hid (And.intro hc hkn)
      have HEO := Lib.hid (And.intro heo (And.intro hres hqk))
      have HPL := Lib.hid hpl
      have HE3 := Lib.hid (And.intro f1 (And.intro f2 f3))
      clear hS hpop hg hcg hc hkn heo hres hqk hpl f1 f2 f3 fv hv hm c0 c1 c2 c3 c5 fz hpm hcells k0 k1 k2 k3 k4 k5 e1 e2 e3 c4k
      obtain ⟨k0, k1, k2, k3, k4, k5⟩ := HK6.out
      have hwr : IntKind.i64.wrap (k : Int) = (k : Int) := by rw [IntKind.wrap_i64]; omega
      have hk0 : (0 : Int) ≤ k := by omega
      have hkmi : (k : Int) < (m : Int) := by omega
      have hkcv : (k : Int) ≤ cv := by omega
      have hkm2 : ((k : Int) < (k : Int) + 1) := by omega
      have HM := Lib.hid (And.intro hmk hmb)
      clear hmk
      go_wp2_with fail
      go_upto_region 2 with fail
      refine wp_region_held_drew (S := fun w' => (w'.cell? ⟨sb, 4, none⟩ = some (.slice (some ⟨g, 0, none⟩) m cv) ∧ w'.cell? ⟨g, k * 6, none⟩ = some (.int .i64 tk) ∧ w'.cell? ⟨g, k * 6 + 1, none⟩ = some (.int .i64 tn) ∧ w'.cell? ⟨g, k * 6 + 2, none⟩ = some (.string ts) ∧ w'.cell? ⟨g, k * 6 + 3, none⟩ = some (.slice ta tl tc) ∧ w'.cell? ⟨g, k * 6 + 4, none⟩ = some (.bool qe) ∧ w'.cell? ⟨g, k * 6 + 5, none⟩ = some (.int .i64 qf)) ∧ Below wr.heap.size wr w') (by kernel_rfl) ⟨⟨c4, k0, k1, k2, k3, k4, k5⟩, (Below.refl _ _).drew⟩ (fun hHeld => ?_)
      first | (refine held_t (i := 0) hHeld ?_; constructor; constructor; intro wq hq; focus ((try dsimp only at hq); go_simp; first | done | with_reducible rfl | fail)) | refine held_s (i := 0) hHeld ?_ | fail
      first | (refine held_t (i := 1) hHeld ?_; constructor; constructor; intro wq hq; focus ((try dsimp only at hq); go_simp; first | done | with_reducible rfl | fail)) | refine held_s (i := 1) hHeld ?_ | fail
      first | (refine held_t (i := 2) hHeld ?_; constructor; constructor; intro wq hq; focus ((try dsimp only at hq); go_simp; first | done | with_reducible rfl | fail)) | refine held_s (i := 2) hHeld ?_ | fail
      first | (refine held_t (i := 3) hHeld ?_; constructor; constructor; intro wq hq; focus ((try dsimp only at hq); go_simp; first | done | with_reducible rfl | fail)) | refine held_s (i := 3) hHeld ?_ | fail
      first | (refine held_t (i := 4) hHeld ?_; constructor; constructor; intro wq hq; focus ((try dsimp only at hq); go_simp; first | done | with_reducible rfl | fail)) | refine held_s (i := 4) hHeld ?_ | fail
      first | (refine held_t (i := 5) hHeld ?_; constructor; constructor; intro wq hq; focus ((try dsimp only at hq); go_simp; first | done | with_reducible rfl | fail)) | refine held_s (i := 5) hHeld ?_ | fail
      first | (refine held_t (i := 6) hHeld ?_; constructor; constructor; intro wq hq; focus ((try dsimp only at hq); go_simp; first | done | with_reducible rfl | fail)) | refine held_s (i := 6) hHeld ?_ | fail
      first | (refine held_t (i := 7) hHeld ?_; constructor; constructor; intro wq hq; focus ((try dsimp only at hq); go_simp; first | done | with_reducible rfl | fail)) | refine held_s (i := 7) hHeld ?_ | fail
      first | (refine held_t (i := 8) hHeld ?_; constructor; constructor; intro wq hq; focus ((try dsimp only at hq); go_simp; first | done | with_reducible rfl | fail)) | refine held_s (i := 8) hHeld ?_ | fail
      first | (refine held_t (i := 9) hHeld ?_; constructor; constructor; intro wq hq; focus ((try dsimp only at hq); go_simp; first | done | with_reducible rfl | fail)) | refine held_s (i := 9) hHeld ?_ | fail
      try simp only [Act.put, lay4]
      first | (refine held_t (i := 10) hHeld ?_; constructor; constructor; intro wq hq; focus ((try dsimp only at hq); go_simp; first | done | with_reducible rfl | fail)) | refine held_s (i := 10) hHeld ?_ | fail
      first | (refine held_t (i := 11) hHeld ?_; constructor; constructor; intro wq hq; focus ((try dsimp only at hq); go_simp; first | done | with_reducible rfl | fail)) | refine held_s (i := 11) hHeld ?_ | fail
      try simp only [Act.put, lay4]
      have HS4 := Lib.hid hHeld
      have HK4 := Lib.hid c4
      refine held_c 12 fun K hK => ?_
      go_simp
      skip
      refine hK.out _ _ (⟨⟨cell_later (bel1' _ _) hHeld.1.1, cell_later (bel1' _ _) hHeld.1.2.1, cell_later (bel1' _ _) hHeld.1.2.2.1, cell_later (bel1' _ _) hHeld.1.2.2.2.1, cell_later (bel1' _ _) hHeld.1.2.2.2.2.1, cell_later (bel1' _ _) hHeld.1.2.2.2.2.2.1, cell_later (bel1' _ _) hHeld.1.2.2.2.2.2.2⟩, Ext.trans' hHeld.2 (bel1' _ _)⟩) (fun hHeld => ?_)
      clear hK K
      try simp only [Act.put, lay4]
      refine held_c 13 fun K hK => ?_
      go_simp
      skip
      refine hK.out _ _ (⟨⟨cell_later (bel1' _ _) HS4.out.1.1, cell_later (bel1' _ _) HS4.out.1.2.1, cell_later (bel1' _ _) HS4.out.1.2.2.1, cell_later (bel1' _ _) HS4.out.1.2.2.2.1, cell_later (bel1' _ _) HS4.out.1.2.2.2.2.1, cell_later (bel1' _ _) HS4.out.1.2.2.2.2.2.1, cell_later (bel1' _ _) HS4.out.1.2.2.2.2.2.2⟩, Ext.trans' HS4.out.2 (bel1' _ _)⟩) (fun hHeld => ?_)
      clear hK K
      try simp only [Act.put, lay4]
      obtain ⟨w1, e1, b1, z1, x1⟩ := box_new wr #[.int .i64 tk, .int .i64 tn, .string ts, .slice ta tl tc, .bool qe, .int .i64 qf] 175
      obtain ⟨w2, e2⟩ : ∃ w2, w1.drew = w2 := ⟨_, rfl⟩
      have hb2 : Below wr.heap.size wr w2 := e2 ▸ b1.drew
      have x2 := e2 ▸ x1.ext (Below.refl _ _).drew
      have z2 : w2.heap.size = wr.heap.size + 1 := by rw [← e2]; exact z1
      clear HS4 hHeld b1 x1 z1
      refine wpAnyH_done (by kernel_rfl) ?_ _
      rw [e1, e2]
      clear e1 e2 w1 c4 k0 k1 k2 k3 k4 k5
      have h2 := (HP.out w2 hb2).1
      have HS2 := Lib.hid (HS.out.ext hb2)
      have HX2 := Lib.hid x2
      have HZ2 := Lib.hid (And.intro hb2 z2)
      obtain ⟨_, _, bm', _, c0, c1, c2, c3, c4, c5, fz, _⟩ := (HS.out.ext hb2).open
      have hb4 := cell_later hb2 (show wr.cell? ⟨sb, 4, none⟩ = some (.slice (some ⟨g, 0, none⟩) m cv) from HK4.out)
      rw [hb4] at c4
      clear c4 c0 c1 c2 c3 c5
      have fz4 := fz 4
      clear fz
      go_wp2_with fail
      go_upto_region 3 with fail
      go_cut [] from 23 to 36 (fun wx => Hid (IsS W wx sb pb n M c pl' f cnt ∧ Box wx wr.heap.size [.int .i64 tk, .int .i64 tn, .string ts, .slice ta tl tc, .bool qe, .int .i64 qf]))
      case first =>
        have HEND := Lib.hid (show IsS W (w2.setCell ⟨sb, 4, none⟩ (.slice (some ⟨g, 0, none⟩) k cv)).drew sb pb n M c pl' f cnt ∧ Box (w2.setCell ⟨sb, 4, none⟩ (.slice (some ⟨g, 0, none⟩) k cv)).drew wr.heap.size [.int .i64 tk, .int .i64 tn, .string ts, .slice ta tl tc, .bool qe, .int .i64 qf] from
          ⟨(HP.out w2 hb2).1.ext (Below.refl _ _).drew, ((HX2.out).far (by omega)).ext (Below.refl _ _).drew⟩)
        clear h2 x2
        refine wp_region_held_drew (S := fun w' => w'.frozen? ⟨sb, 4, none⟩ = false) (by kernel_rfl) (by exact fz4) (fun hHeld => ?_)
        first | (refine held_t (i := 0) hHeld ?_; constructor; constructor; intro wq hq; focus ((try dsimp only at hq); go_simp; first | done | with_reducible rfl | fail)) | refine held_s (i := 0) hHeld ?_ | fail
        first | (refine held_t (i := 1) hHeld ?_; constructor; constructor; intro wq hq; focus ((try dsimp only at hq); go_simp; first | done | with_reducible rfl | fail)) | refine held_s (i := 1) hHeld ?_ | fail
        first | (refine held_t (i := 2) hHeld ?_; constructor; constructor; intro wq hq; focus ((try dsimp only at hq); go_simp; first | done | with_reducible rfl | fail)) | refine held_s (i := 2) hHeld ?_ | fail
        first | (refine held_t (i := 3) hHeld ?_; constructor; constructor; intro wq hq; focus ((try dsimp only at hq); go_simp; first | done | with_reducible rfl | fail)) | refine held_s (i := 3) hHeld ?_ | fail
        first | (refine held_t (i := 5) hHeld ?_; constructor; constructor; intro wq hq; focus ((try dsimp only at hq); go_simp; first | done | with_reducible rfl | fail)) | refine held_s (i := 5) hHeld ?_ | fail
        first | (refine held_t (i := 6) hHeld ?_; constructor; constructor; intro wq hq; focus ((try dsimp only at hq); go_simp; first | done | with_reducible rfl | fail)) | refine held_s (i := 6) hHeld ?_ | fail
        first | (refine held_t (i := 7) hHeld ?_; constructor; constructor; intro wq hq; focus ((try dsimp only at hq); go_simp; first | done | with_reducible rfl | fail)) | refine held_s (i := 7) hHeld ?_ | fail
        try simp only [Act.put, lay4]
        refine wpAnyH_ready (rs := [4, 8]) (by kernel_rfl) (by simp) ?_
        refine AllReadyH.cons (by simp only [ops3]; rfl) (fun K hK => ?_) (AllReadyH.cons (by simp only [ops3]; rfl) (fun K hK => ?_) AllReadyH.nil)
        · go_simp
          skip
          refine hK.out _ _ (hHeld) (fun hHeld => ?_)
          clear hK K
          try simp only [Act.put, lay4]
          refine held_c 8 fun K hK => ?_
          go_simp
          skip
          refine hK.out _ _ (hHeld) (fun hHeld => ?_)
          clear hK K
          try simp only [Act.put, lay4]
          first | (refine held_t (i := 9) hHeld ?_; constructor; constructor; intro wq hq; focus ((try dsimp only at hq); go_simp; first | done | with_reducible rfl | fail)) | refine held_s (i := 9) hHeld ?_ | fail
          first | (refine held_t (i := 10) hHeld ?_; constructor; constructor; intro wq hq; focus ((try dsimp only at hq); go_simp; first | done | with_reducible rfl | fail)) | refine held_s (i := 10) hHeld ?_ | fail
          try simp only [Act.put, lay4]
          first | (refine held_t (i := 11) hHeld ?_; constructor; constructor; intro wq hq; focus ((try dsimp only at hq); go_simp; first | done | with_reducible rfl | fail)) | refine held_s (i := 11) hHeld ?_ | fail
          first | (refine held_t (i := 12) hHeld ?_; constructor; constructor; intro wq hq; focus ((try dsimp only at hq); go_simp; first | done | with_reducible rfl | fail)) | refine held_s (i := 12) hHeld ?_ | fail
          first | (refine held_t (i := 13) hHeld ?_; constructor; constructor; intro wq hq; focus ((try dsimp only at hq); go_simp; first | done | with_reducible rfl | fail)) | refine held_s (i := 13) hHeld ?_ | fail
          try simp only [Act.put, lay4]
          refine held_c 14 fun K hK => ?_
          go_simp
          skip
          refine hK.out _ _ ((by (show (w2.setCell ⟨sb, 4, none⟩ (.slice (some ⟨g, 0, none⟩) k cv)).frozen? ⟨sb, 4, none⟩ = false); rw [World.frozen?_setCell]; exact fz4)) (fun hHeld => ?_)
          clear hK K
          try simp only [Act.put, lay4]
          refine wpAnyH_done (by kernel_rfl) ?_ _
          go_wp2
          all_goals go_meet
          exact HEND.out
        · go_simp
          skip
          refine hK.out _ _ (hHeld) (fun hHeld => ?_)
          clear hK K
          try simp only [Act.put, lay4]
          first | (refine held_t (i := 9) hHeld ?_; constructor; constructor; intro wq hq; focus ((try dsimp only at hq); go_simp; first | done | with_reducible rfl | fail)) | refine held_s (i := 9) hHeld ?_ | fail
          first | (refine held_t (i := 10) hHeld ?_; constructor; constructor; intro wq hq; focus ((try dsimp only at hq); go_simp; first | done | with_reducible rfl | fail)) | refine held_s (i := 10) hHeld ?_ | fail
          try simp only [Act.put, lay4]
          refine held_c 4 fun K hK => ?_
          go_simp
          skip
          refine hK.out _ _ (hHeld) (fun hHeld => ?_)
          clear hK K
          try simp only [Act.put, lay4]
          first | (refine held_t (i := 11) hHeld ?_; constructor; constructor; intro wq hq; focus ((try dsimp only at hq); go_simp; first | done | with_reducible rfl | fail)) | refine held_s (i := 11) hHeld ?_ | fail
          first | (refine held_t (i := 12) hHeld ?_; constructor; constructor; intro wq hq; focus ((try dsimp only at hq); go_simp; first | done | with_reducible rfl | fail)) | refine held_s (i := 12) hHeld ?_ | fail
          first | (refine held_t (i := 13) hHeld ?_; constructor; constructor; intro wq hq; focus ((try dsimp only at hq); go_simp; first | done | with_reducible rfl | fail)) | refine held_s (i := 13) hHeld ?_ | fail
          try simp only [Act.put, lay4]
          refine held_c 14 fun K hK => ?_
          go_simp
          skip
          refine hK.out _ _ ((by (show (w2.setCell ⟨sb, 4, none⟩ (.slice (some ⟨g, 0, none⟩) k cv)).frozen? ⟨sb, 4, none⟩ = false); rw [World.frozen?_setCell]; exact fz4)) (fun hHeld => ?_)
          clear hK K
          try simp only [Act.put, lay4]
          refine wpAnyH_done (by kernel_rfl) ?_ _
          go_wp2
          all_goals go_meet
          exact HEND.out
      case rest =>
        clear h2 x2 z2 hb2 fz4 hb4
        obtain ⟨hI, hX⟩ := hcut.out
        clear hcut
        have HI := Lib.hid hI
        have HX := Lib.hid hX
        have x0 := hX.cells 0 _ rfl
        have x1 := hX.cells 1 _ rfl
        have x2 := hX.cells 2 _ rfl
        have x3 := hX.cells 3 _ rfl
        have x4 := hX.cells 4 _ rfl
        have x5 := hX.cells 5 _ rfl
        obtain ⟨_, _, bm2, hlt2, d0, d1, d2, d3, d4, d5, fz2, _, _, hkm2', _, _, hbs, _, _⟩ := hI.open
        have HNB := Lib.hid (hkm2'.not_cell x1)
        clear hX hI d0 d1 d2 d4 fz2
        obtain ⟨heo, hres, hqk⟩ := HEO.out
        obtain ⟨hc, hkn⟩ := HF.out
        obtain ⟨hg, hcg⟩ := HG.out
        cases qe with
        | true =>
          obtain ⟨⟨v, hvt, hcv, hnv⟩, heo2⟩ := heo.1 rfl
          replace hvt : t = varV v := hvt
          subst hvt
          replace hcv : c = qf + sizeN (fullB R v) := hcv
          have htn : tn = v := HE3.out.2.1.symm
          subst htn
          obtain ⟨kk, hkk⟩ : ∃ kk, sizeN (fullB R tn) = kk := ⟨_, rfl⟩
          rw [hkk] at hcv
          have hsub : (c : Int) - (qf : Int) = (kk : Int) := by omega
          have hwk : IntKind.i64.wrap (kk : Int) = (kk : Int) := by rw [IntKind.wrap_i64]; omega
          have hI64 : I64 tn := by
            obtain ⟨u, hu, _, _, q, _⟩ := tmV_iff.1 hqk.1
            exact q
          obtain ⟨w5, hrun, h5, hoth⟩ := IsS.know (HI.out.ext (w' := wc.drew) (Below.refl _ _).drew) (bm := bm2) d5 hI64 (k := kk) (by omega) (by unfold maxLen; omega)
          have H5 := Lib.hid h5
          have HO := Lib.hid hoth
          have HV := Lib.hid (And.intro hcv (And.intro hkk (And.intro hnv heo2)))
          clear h5 hoth heo heo2 hres hqk hc hkn hg hcg hcv hkk hnv hI64 x0 x2 x3
          go_wp2_with fail
          go_upto_region 5 with fail
          refine wp_region_held_drew (S := fun w' => (w'.cell? ⟨sb, 5, none⟩ = some (.map (some bm2)) ∧ w'.cell? ⟨sb, 3, none⟩ = some (.int .i64 c) ∧ w'.cell? ⟨wr.heap.size, 1, none⟩ = some (.int .i64 tn) ∧ w'.cell? ⟨wr.heap.size, 5, none⟩ = some (.int .i64 qf))) (by kernel_rfl) ⟨d5, d3, x1, x5⟩ (fun hHeld => ?_)
          first | (refine held_t (i := 0) hHeld ?_; constructor; constructor; intro wq hq; focus ((try dsimp only at hq); go_simp; first | done | with_reducible rfl | fail)) | refine held_s (i := 0) hHeld ?_ | fail
          first | (refine held_t (i := 1) hHeld ?_; constructor; constructor; intro wq hq; focus ((try dsimp only at hq); go_simp; first | done | with_reducible rfl | fail)) | refine held_s (i := 1) hHeld ?_ | fail
          first | (refine held_t (i := 2) hHeld ?_; constructor; constructor; intro wq hq; focus ((try dsimp only at hq); go_simp; first | done | with_reducible rfl | fail)) | refine held_s (i := 2) hHeld ?_ | fail
          first | (refine held_t (i := 3) hHeld ?_; constructor; constructor; intro wq hq; focus ((try dsimp only at hq); go_simp; first | done | with_reducible rfl | fail)) | refine held_s (i := 3) hHeld ?_ | fail
          first | (refine held_t (i := 4) hHeld ?_; constructor; constructor; intro wq hq; focus ((try dsimp only at hq); go_simp; first | done | with_reducible rfl | fail)) | refine held_s (i := 4) hHeld ?_ | fail
          first | (refine held_t (i := 5) hHeld ?_; constructor; constructor; intro wq hq; focus ((try dsimp only at hq); go_simp; first | done | with_reducible rfl | fail)) | refine held_s (i := 5) hHeld ?_ | fail
          first | (refine held_t (i := 6) hHeld ?_; constructor; constructor; intro wq hq; focus ((try dsimp only at hq); go_simp; first | done | with_reducible rfl | fail)) | refine held_s (i := 6) hHeld ?_ | fail
          try simp only [Act.put, lay4]
          first | (refine held_t (i := 7) hHeld ?_; constructor; constructor; intro wq hq; focus ((try dsimp only at hq); go_simp; first | done | with_reducible rfl | fail)) | refine held_s (i := 7) hHeld ?_ | fail
          first | (refine held_t (i := 8) hHeld ?_; constructor; constructor; intro wq hq; focus ((try dsimp only at hq); go_simp; first | done | with_reducible rfl | fail)) | refine held_s (i := 8) hHeld ?_ | fail
          first | (refine held_t (i := 9) hHeld ?_; constructor; constructor; intro wq hq; focus ((try dsimp only at hq); go_simp; first | done | with_reducible rfl | fail)) | refine held_s (i := 9) hHeld ?_ | fail
          first | (refine held_t (i := 10) hHeld ?_; constructor; constructor; intro wq hq; focus ((try dsimp only at hq); go_simp; first | done | with_reducible rfl | fail)) | refine held_s (i := 10) hHeld ?_ | fail
          first | (refine held_t (i := 11) hHeld ?_; constructor; constructor; intro wq hq; focus ((try dsimp only at hq); go_simp; first | done | with_reducible rfl | fail)) | refine held_s (i := 11) hHeld ?_ | fail
          first | (refine held_t (i := 12) hHeld ?_; constructor; constructor; intro wq hq; focus ((try dsimp only at hq); go_simp; first | done | with_reducible rfl | fail)) | refine held_s (i := 12) hHeld ?_ | fail
          try simp only [Act.put, lay4]
          first | (refine held_t (i := 13) hHeld ?_; constructor; constructor; intro wq hq; focus ((try dsimp only at hq); go_simp; first | done | with_reducible rfl | fail)) | refine held_s (i := 13) hHeld ?_ | fail
          try simp only [Act.put, lay4]
          refine held_c 14 fun K hK => ?_
          go_simp
          skip
          refine hK.out _ _ (⟨(World.cell?_of_block (HO.out sb (Ne.symm hbs))).trans hHeld.1, (World.cell?_of_block (HO.out sb (Ne.symm hbs))).trans hHeld.2.1, (World.cell?_of_block (HO.out _ HNB.out)).trans hHeld.2.2.1, (World.cell?_of_block (HO.out _ HNB.out)).trans hHeld.2.2.2⟩) (fun hHeld => ?_)
          clear hK K
          try simp only [Act.put, lay4]
          refine wpAnyH_done (by kernel_rfl) ?_ _
          go_wp2
          go_roundg ((M - c) * 10 + k)
          case measure => have := HG.out; have := HM.out; omega
          case rel =>
            obtain ⟨hcv, hkk, hnv, heo2⟩ := HV.out
            obtain ⟨hc, hkn⟩ := HF.out
            obtain ⟨hg, hcg⟩ := HG.out
            have hmk := HM.out.1
            refine Lib.hid ⟨pl', c, setF f tn kk, cnt + 1, H5.out, hc, fun q hq => HPL.out q (List.mem_append_left _ hq), heo2, fun v kv hv => ?_, ?_, by rw [hk], by omega⟩
            · unfold setF at hv
              by_cases e : v = tn
              · rw [if_pos e] at hv
                injection hv with hv
                subst e hv
                exact ⟨hnv, hkk.symm, by omega⟩
              · rw [if_neg e] at hv
                exact hkn v kv hv
            · rw [← HEO.out.2.1, pendL]
              exact congrArg (fun l => hasL n M l c) (if_pos (show (true : Bool) = true from rfl)).symm
        | false =>
          have hv2 : TmV V t (.agg #[.int .i64 tk, .int .i64 tn, .string ts, .slice ta tl tc]) := by
            have f1 : t.k = tk := HE3.out.1
            have f2 : t.n = tn := HE3.out.2.1
            have f3 : t.s = ts := HE3.out.2.2
            rw [← f1, ← f2, ← f3]
            exact hqk.1
          have HL := Lib.hid (look_any HI.out HBB.out hv2 hqk.2.1 hqk.2.2 hM hc (by omega) (fun v kv hv => by have := (hkn v kv hv).2.2; omega))
          clear hv2 heo hres hqk hc hkn hg hcg x5 d3 d5
          (go_wp2_with fail; go_fit (HL.out); rintro e w5 ⟨b, c', pl2, rfl, h5, hl⟩)
          have H5 := Lib.hid h5
          have HLR := Lib.hid hl
          obtain ⟨_, _, _, hlt5, _, _, _, g3, _⟩ := h5.open
          clear h5 hl
          cases b with
          | true =>
            have hr2 : RES = (true, c') := RunI.ends (q := ⟨(t, .slice ta tl tc), false, qf⟩) HT.out.2 HT.out.1 HF.out.1 HEO.out.2.2 rfl HF.out.2 HEO.out.2.1 HLR.out
            subst hr2
            have HW5 := Lib.hid H5.out.bel
            go_wp2_with fail
            go_quiet (fail)
            go_wp2
            go_ret2
            exact ⟨rfl, belN HW5.out _⟩
          | false =>
            obtain ⟨g', hg', hI'⟩ := RunI.goes (q := ⟨(t, .slice ta tl tc), false, qf⟩) HT.out.2 HT.out.1 HF.out.1 HEO.out.2.2 rfl (fun q hq => HPL.out q (List.mem_append_left _ hq)) HF.out.2 HEO.out.1 HEO.out.2.1 HLR.out H5.out (by rw [hk, ← HM.out.1]; exact HG.out.1) HG.out.2
            have HI' := Lib.hid hI'
            clear hI'
            go_wp2
            go_roundg g'
            case measure => exact hg'
            case rel => exact HI'
end
end Go.Proofs.Ytchbbaehdcmcfaa
/- Package bind: Has. -/
namespace Go.Proofs.Ytchbbaehdcmcfaa
open Go.RowKit Go.Maps
set_option linter.unusedVariables false
section
variable {V W w : World} {F : List Nat} {N : Nat} {R : List (Int × Tm)} {p : Value}
theorem IsS.make {W w2 : World} (hb : Below W.heap.size W w2) (pb : Value) (n : Int) (M : Nat) (q : PlP) {w3 w4 w5 : World} (e3 : w2.alloc (.cells (plCells q).toArray 175) = w3) (e4 : w3.alloc (.map #[] 0) = w4)
  (e5 : w4.alloc (.cells #[pb, .int .i64 n, .int .i64 (M : Int), .int .i64 0, .slice (some ⟨w2.heap.size, 0, none⟩) 1 1, .map (some (w2.heap.size + 1))] 178) = w5) :
  IsS W w5 (w2.heap.size + 2) pb n M 0 [q] (fun _ => none) 0 := by
 have z3 : w3.heap.size = w2.heap.size + 1 := by rw [← e3]; simp
 have z4 : w4.heap.size = w2.heap.size + 2 := by rw [← e4]; simp [z3]
 have b3 : Below w2.heap.size w2 w3 := by rw [← e3]; exact bel1' _ _
 have b4 : Below w3.heap.size w3 w4 := by rw [← e4]; exact bel1' _ _
 have b5 : Below w4.heap.size w4 w5 := by rw [← e5]; exact bel1' _ _
 have hs := hb.size
 refine ⟨.slice (some ⟨w2.heap.size, 0, none⟩) 1 1, w2.heap.size + 1, ?_, ?_, ?_, ?_, by omega, by omega, by omega, hb.trans (((b3.trans (b4.mono b3.size)).trans (b5.mono (Nat.le_trans b3.size b4.size))).mono hs)⟩
 ·rw [← e5, ← z4]
  exact heap_alloc_new w4 _
 ·refine ⟨by simp [plCells_len], Or.inr ⟨w2.heap.size, 1, (plCells q).toArray, rfl, hs, ?_, by simp, by unfold maxLen; omega, by simp [plCells_len], ?_⟩⟩
  ·rw [b5.block _ (by omega), b4.block _ (by omega), ← e3]
   exact heap_alloc_new w2 _
  ·rw [List.flatMap_cons, List.flatMap_nil, List.append_nil]
   exact List.take_of_length_le (by rw [List.toList_toArray, plCells_len]; simp)
 ·have h := KnM.nil w3
  rw [e4, z3] at h
  exact h.block (b5.block _ (by omega))
 ·simp [Value.ownBlock]
theorem RunI.start {W w : World} {sb : Nat} {n : Int} {M : Nat} {q : PlP} (hM : M ≤ 100000) (hq : PlOk V N q) (he : q.ends = false) (h : IsS W w sb p n M 0 [q] (fun _ => none) 0) : RunI V W N R n M (hasF n M (subT (fullB R) q.t.1) 0) sb p w (M * 10 + 1) := by
 refine ⟨[q], 0, _, 0, h, by omega, fun r hr => by rw [List.mem_singleton.1 hr]; exact hq, ⟨fun e => ?_, fun _ => trivial⟩, fun v k hv => (by cases hv), ?_, by simp, by omega⟩
 ·have e : q.ends = true := e
  rw [he] at e
  cases e
 ·show hasL n M (pendL (fullB R) [q.pl]) 0 = _
  rw [pendL, if_neg (by show ¬ q.ends = true; rw [he]; simp), pendL, hasL]
  show (if (hasF n M (subT (fullB R) q.t.1) 0).1 = true then _ else _) = _
  split
  ·rfl
  ·rename_i hh
   rw [hasL]
   exact Prod.ext (by simpa using hh) rfl
def hasB (N : Nat) (R : List (Int × Tm)) (n : Int) (x : Tm) (M : Nat) : Bool × Nat := if fitsB N x then hasF n M (subT (fullB R) x) 0 else (false, 0)
set_option maxHeartbeats 16000000 in
set_option maxRecDepth 100000 in
theorem Has_at (h : IsB V F w p N R) {n : Int} (hn : I64 n) {x : Tm} {v : Value} (hv : TmV V x v) {most : Int} (hm : I64 most) (hm2 : most ≤ 100000) :
    Calls Try.prog 93 #[p, .int .i64 n, v, .int .i64 most] w fun e w' => e = .returned (.tuple #[.bool (hasB N R n x most.toNat).1, .int .i64 (hasB N R n x most.toNat).2]) ∧ Below w.heap.size w w' := by
  have hvw := TmV.stay h.see.1 _ _ hv
  obtain ⟨kx, nx, sx, ax, mx, cx, rfl, f1, f2, f3, fv⟩ := four_of hv
  have hpc : (plCells ⟨(x, .slice ax mx cx), false, 0⟩).toArray = #[.int .i64 kx, .int .i64 nx, .string sx, .slice ax mx cx, .bool false, .int .i64 0] := by
    show #[Value.int .i64 x.k, .int .i64 x.n, .string x.s, .slice ax mx cx, .bool false, .int .i64 0] = _
    rw [f1, f2, f3]
  have HPC := Lib.hid (And.intro hpc (show TmV V x (pVal (x, .slice ax mx cx)) from fv ▸ hv))
  obtain ⟨w1, e1, B1, z1, X1⟩ := box_new w #[.int .i64 kx, .int .i64 nx, .string sx, .slice ax mx cx] 31
  obtain ⟨bt, av, cv, bs, rfl, _⟩ := h.open
  have FT := Lib.hid (fits_at' (h.ext B1) (TmV.ext B1 _ _ hvw))
  obtain ⟨a0, a1, a2, a3, af⟩ := X1.four
  have HB := Lib.hid (And.intro B1 X1)
  have HI := Lib.hid h
  have HV := Lib.hid hv
  have hN := h.tri.2
  obtain ⟨RES, hR⟩ : ∃ q, hasB N R n x most.toNat = q := ⟨_, rfl⟩
  rw [hR]
  unfold hasB at hR
  have HR := Lib.hid hR
  clear h hv hvw B1 X1 z1 hR f1 f2 f3 fv hpc
  go_enter Try.func93, Try.ntmps93
  (go_wp2_with fail; go_fit (FT.out); rintro e w2 ⟨rfl, b2⟩)
  have HB2 := Lib.hid (And.intro (Ext.trans' HB.out.1 b2) (HB.out.2.ext b2))
  obtain ⟨y0, y1, y2, y3, yf⟩ := HB2.out.2.four
  clear b2 a0 a1 a2 a3 af
  cases hf : fitsB N x with
  | false =>
    have hr : RES = (false, 0) := by rw [← HR.out, hf]; rfl
    subst hr
    go_wp2
    go_ret2
    exact ⟨rfl, HB2.out.1⟩
  | true =>
    have HHF := Lib.hid (And.intro hf (show hasF n most.toNat (subT (fullB R) x) 0 = RES by rw [← HR.out, hf]; rfl))
    have hmm := @run_makeMap Try.prog
    obtain ⟨M, hM⟩ : ∃ M : Nat, most.toNat = M := ⟨_, rfl⟩
    have hmin : min (max most 0) 9223372036854775806 = (M : Int) := by omega
    have HM := Lib.hid hM
    clear hf hM
    have HRUN := Lib.hid (show Calls Try.prog 116 #[.pointer (some ⟨w2.heap.size + 1 + 1, 0, none⟩)] (((w2.alloc (.cells #[.int .i64 kx, .int .i64 nx, .string sx, .slice ax mx cx, .bool false, .int .i64 0] 175)).alloc (.map #[] 0)).alloc (.cells #[.pointer (some ⟨bt, 0, none⟩), .int .i64 n, .int .i64 (M : Int), .int .i64 0, .slice (some ⟨w2.heap.size, 0, none⟩) 1 1, .map (some (w2.heap.size + 1))] 178)) (fun e w' => e = .returned (.tuple #[.bool RES.1, .int .i64 (RES.2 : Nat)]) ∧ Below w.heap.size w w') from by
      have hM := HM.out
      have hr := HHF.out.2
      rw [hM] at hr
      rw [← hr]
      have hs := IsS.make HB2.out.1 (.pointer (some ⟨bt, 0, none⟩)) n M ⟨(x, .slice ax mx cx), false, 0⟩ (w3 := w2.alloc (.cells #[.int .i64 kx, .int .i64 nx, .string sx, .slice ax mx cx, .bool false, .int .i64 0] 175)) (by rw [HPC.out.1]) rfl rfl
      exact run_at (RunI.start (V := V) (N := N) (R := R) (by omega) ⟨HPC.out.2, (fitsB_true.1 HHF.out.1).1, (fitsB_true.1 HHF.out.1).2⟩ rfl hs) HI.out (by omega))
    (go_wp2_with fail; go_fit (HRUN.out); rintro e w6 ⟨rfl, b6⟩)
    have HB6 := Lib.hid b6
    clear b6
    go_wp2
    go_ret2
    exact ⟨rfl, HB6.out⟩
end
end Go.Proofs.Ytchbbaehdcmcfaa
/- Both sides of chapter 11 side by side: pure. -/
namespace Go.Proofs.Ytchbbaehdcmcfaa
def Sync : List (Int × Tm) → List (Int × Tm) → Prop
 | [], [] => True
 | p :: R, q :: S => Sync R S ∧ p.1 = q.1 ∧ subT (fullB R) p.2 = subT (fullB S) q.2
 | _, _ => False
theorem Sync.full : ∀ {R S : List (Int × Tm)}, Sync R S → fullB R = fullB S
  | [], [], _ => rfl
  | (n, t) :: R, (m, u) :: S, h => by
    obtain ⟨h1, h2, h3⟩ := h
    cases (show n = m from h2)
    have h3 : subT (fullB R) t = subT (fullB S) u := h3
    funext v
    rw [fullB, fullB, h3, h1.full]
theorem Sync.dom : ∀ {R S : List (Int × Tm)}, Sync R S → domB R = domB S
  | [], [], _ => rfl
  | (n, t) :: R, (m, u) :: S, h => by
    obtain ⟨h1, h2, h3⟩ := h
    cases (show n = m from h2)
    show n :: domB R = n :: domB S
    rw [h1.dom]
theorem Sync.len {R S : List (Int × Tm)} (h : Sync R S) : R.length = S.length := by
 have := congrArg List.length h.dom
 simpa [domB] using this
theorem Sync.drop : ∀ (k : Nat) {R S : List (Int × Tm)}, Sync R S → Sync (R.drop k) (S.drop k)
 | 0, _, _, h => h
 | k + 1, [], [], h => h
 | k + 1, p :: R, q :: S, h => Sync.drop k h.1
theorem Sync.set {R S : List (Int × Tm)} (h : Sync R S) {n : Int} {x y : Tm} (hy : subT (fullB R) y = subT (fullB R) x) : Sync ((n, y) :: R) ((n, x) :: S) :=
 ⟨h, rfl, by show subT (fullB R) y = subT (fullB S) x; rw [hy, h.full]⟩
end Go.Proofs.Ytchbbaehdcmcfaa
/- Drawn together by pull.py from XPrN XRen XRenA XRenB. -/
namespace Go.Proofs.Ytchbbaehdcmcfaa
open Go.RowKit
set_option linter.unusedVariables false
theorem near_cell {w : World} {rb j k : Nat} {u : Value} (hk : j ≠ k) : (w.setCell ⟨rb, k, none⟩ u).cell? ⟨rb, j, none⟩ = w.cell? ⟨rb, j, none⟩ := by
 rw [World.cell?_setCell_other]
 intro e; injection e with _ e _; exact hk e.symm
structure Lay (w : World) (lb m : Nat) (ps : List TmP) : Prop where
 done : ∀ i p, ps[i]? = some p → ∀ j u, (pCells p)[j]? = some u → w.cell? ⟨lb, i * 4 + j, none⟩ = some u
 rest : ∀ i, ps.length ≤ i → i < m → w.cell? ⟨lb, i * 4, none⟩ = some (.int .i64 0) ∧ w.cell? ⟨lb, i * 4 + 1, none⟩ = some (.int .i64 0) ∧ w.cell? ⟨lb, i * 4 + 2, none⟩ = some (.string ⟨#[]⟩) ∧ w.cell? ⟨lb, i * 4 + 3, none⟩ = some (.slice none 0 0)
 fz : ∀ j, w.frozen? ⟨lb, j, none⟩ = false
 lt : lb < w.heap.size
theorem Lay.later {w w' : World} {lb m : Nat} {ps : List TmP} (h : Lay w lb m ps) (hb : Below w.heap.size w w') : Lay w' lb m ps where
 done := fun i p hp j u hu => cell_later hb (h.done i p hp j u hu)
 rest := fun i h1 h2 => by obtain ⟨a, b, c, d⟩ := h.rest i h1 h2; exact ⟨cell_later hb a, cell_later hb b, cell_later hb c, cell_later hb d⟩
 fz := fun j => (hb.frozen (p := ⟨lb, j, none⟩) h.lt).trans (h.fz j)
 lt := Nat.lt_of_lt_of_le h.lt hb.size
abbrev setAt (w : World) (lb o : Nat) (u0 u1 u2 u3 : Value) : World := (((w.setCell ⟨lb, o, none⟩ u0).setCell ⟨lb, o + 1, none⟩ u1).setCell ⟨lb, o + 2, none⟩ u2).setCell ⟨lb, o + 3, none⟩ u3
theorem setAt_off {w : World} {lb o j : Nat} {u0 u1 u2 u3 : Value} (h : j < o ∨ o + 4 ≤ j) : (setAt w lb o u0 u1 u2 u3).cell? ⟨lb, j, none⟩ = w.cell? ⟨lb, j, none⟩ := by
 rw [near_cell (by omega), near_cell (by omega), near_cell (by omega), near_cell (by omega)]
theorem Lay.put {w : World} {lb m : Nat} {ps : List TmP} (h : Lay w lb m ps) (hm : ps.length < m) {p : TmP} {u0 u1 u2 u3 : Value} (hp : pCells p = [u0, u1, u2, u3]) : Lay (setAt w lb (ps.length * 4) u0 u1 u2 u3) lb m (ps ++ [p]) where
  done := fun i q hq j u hu => by
    have hj : j < 4 := by
      have := (List.getElem?_eq_some_iff.1 hu).1
      rw [pCells_len] at this
      exact this
    by_cases hi : i < ps.length
    · rw [setAt_off (by omega)]
      exact h.done i q (by rw [List.getElem?_append_left hi] at hq; exact hq) j u hu
    · have hi2 : i = ps.length := by
        have := (List.getElem?_eq_some_iff.1 hq).1
        rw [List.length_append, List.length_singleton] at this
        omega
      subst hi2
      have hqp : q = p := by
        rw [List.getElem?_append_right (Nat.le_refl _), Nat.sub_self] at hq
        simpa using hq.symm
      subst hqp
      obtain ⟨r0, r1, r2, r3⟩ := h.rest ps.length (Nat.le_refl _) hm
      rw [hp] at hu
      match j, hj, hu with
      | 0, _, hu =>
        cases hu
        rw [near_cell (by omega), near_cell (by omega), near_cell (by omega)]
        exact css r0
      | 1, _, hu =>
        cases hu
        rw [near_cell (by omega), near_cell (by omega)]
        exact css (u := .int .i64 0) (by rw [near_cell (by omega)]; exact r1)
      | 2, _, hu =>
        cases hu
        rw [near_cell (by omega)]
        exact css (u := .string ⟨#[]⟩) (by rw [near_cell (by omega), near_cell (by omega)]; exact r2)
      | 3, _, hu =>
        cases hu
        exact css (u := .slice none 0 0) (by rw [near_cell (by omega), near_cell (by omega), near_cell (by omega)]; exact r3)
  rest := fun i h1 h2 => by
    rw [List.length_append, List.length_singleton] at h1
    obtain ⟨a, b, c, d⟩ := h.rest i (by omega) h2
    exact ⟨by rw [setAt_off (by omega)]; exact a, by rw [setAt_off (by omega)]; exact b, by rw [setAt_off (by omega)]; exact c, by rw [setAt_off (by omega)]; exact d⟩
  fz := fun j => by rw [World.frozen?_setCell, World.frozen?_setCell, World.frozen?_setCell, World.frozen?_setCell]; exact h.fz j
  lt := by have := h.lt; simpa [World.setCell] using this
theorem made_get (m i j : Nat) (hi : i < m) (hj : j < 4) (z : Array Value) (hz : z.size = 4) : (madeCells z (m * 4))[i * 4 + j]? = some z[j]! := by
 unfold madeCells
 rw [Array.getElem?_map, Array.getElem?_range, if_pos (by omega)]
 simp only [Option.map_some, hz]
 rw [show (i * 4 + j) % 4 = j by omega]
theorem lay_new (w : World) (m : Nat) (ty : TypeId) : Lay (w.alloc (.cells (madeCells #[.int .i64 0, .int .i64 0, .string ⟨#[]⟩, .slice none 0 0] (m * 4)) ty)) w.heap.size m [] where
 done := fun i p hp => by simp at hp
 rest := fun i _ h => by
  have k : ∀ j, j < 4 → (w.alloc (.cells (madeCells #[.int .i64 0, .int .i64 0, .string ⟨#[]⟩, .slice none 0 0] (m * 4)) ty)).cell? ⟨w.heap.size, i * 4 + j, none⟩ = some (#[Value.int .i64 0, .int .i64 0, .string ⟨#[]⟩, .slice none 0 0])[j]! := fun j hj => by
   rw [World.cell?_alloc_at _ _ _ _ rfl]
   exact made_get m i j h hj _ rfl
  exact ⟨k 0 (by omega), k 1 (by omega), k 2 (by omega), k 3 (by omega)⟩
 fz := fun j => by simp
 lt := by simp
theorem formed_args {k n : Int} {s : ByteArray} {ts : List Tm} (h : formedT (.mk k n s ts) = true) (hne : ts ≠ []) : k = 2 ∧ n = 0 ∧ ts.length ≤ 8 := by
 rw [formedT, Bool.and_eq_true] at h
 have h1 := h.1
 have hl : ¬ ts.length = 0 := fun e => hne (List.eq_nil_of_length_eq_zero e)
 unfold plainT at h1
 split at h1
 ·simp [hl] at h1
 split at h1
 ·simp [hl] at h1
 split at h1
 ·rename_i h2
  simp only [Bool.and_eq_true, decide_eq_true_eq] at h1
  exact ⟨h2, h1.1.1.1, h1.1.2⟩
 ·cases h1
theorem Lay.out {w : World} {lb m : Nat} {ps : List TmP} {D : Nat → Bool} (h : Lay w lb m ps) (hm : ps.length = m) (hD : D lb = false) (hp : ∀ p ∈ ps, TmV (hide D w) p.1 (pVal p)) (hl : m * 56 ≤ BIG) : Tms (hide D w) (.slice (some ⟨lb, 0, none⟩) m m) (ps.map (·.1)) := by
 subst hm
 refine ⟨some ⟨lb, 0, none⟩, ps.length, by rw [List.length_map], by rw [List.length_map]; exact Nat.le_refl _, by unfold BIG at hl; unfold maxLen; omega, by rw [List.length_map]; exact hl, Or.inr ⟨_, _, rfl, by rw [hide_size]; exact h.lt, TmRow.mk fun i x hx => ?_⟩⟩
 rw [List.getElem?_map] at hx
 obtain ⟨p, hpi, rfl⟩ := Option.map_eq_some_iff.1 hx
 have hv := hp p (List.mem_of_getElem? hpi)
 have key : ∀ j u, (pCells p)[j]? = some u → (hide D w).cell? ⟨lb, 0 + i * 4 + j, none⟩ = some u := fun j u hu => by
  rw [hide_cell D w _ hD, Nat.zero_add]; exact h.done i p hpi j u hu
 exact ⟨_, _, _, _, key 0 _ rfl, key 1 _ rfl, key 2 _ rfl, key 3 _ rfl, hv⟩
end Go.Proofs.Ytchbbaehdcmcfaa
/- The document's side of chapter 13: rename, walked. -/
namespace Go.Proofs.Ytchbbaehdcmcfaa
open Go.RowKit
set_option linter.unusedVariables false
theorem pos_spec {n : Int} : ∀ {l : List Int}, n ∈ l → posI l n < l.length ∧ l[posI l n]? = some n ∧ ∀ (j : Nat) (y : Int), j < posI l n → l[j]? = some y → ¬ y = n
  | x :: r, h => by
    rw [posI]
    by_cases e : x = n
    · rw [if_pos e]
      exact ⟨by simp, by simp [e], fun j y hj => by omega⟩
    · rw [if_neg e]
      have hr : n ∈ r := by
        rcases List.mem_cons.1 h with h | h
        · exact absurd h.symm e
        · exact h
      obtain ⟨h1, h2, h3⟩ := pos_spec hr
      refine ⟨by simp; omega, by simpa using h2, fun j y hj hy => ?_⟩
      cases j with
      | zero => simp at hy; subst hy; exact e
      | succ j => exact h3 j y (by omega) (by simpa using hy)
end Go.Proofs.Ytchbbaehdcmcfaa
/- The document's side of chapter 13: From, Alike, walked. -/
namespace Go.Proofs.Ytchbbaehdcmcfaa
open Go.RowKit
set_option linter.unusedVariables false
mutual
theorem xvars_len : ∀ (t : Tm) (l : List Int), (varsT t l).length ≤ l.length + sizeN t
  | .mk k n s ts, l => by
    rw [varsT, sizeN]
    by_cases hk : k = 0
    · rw [if_pos hk]
      split
      · omega
      · simp
    · rw [if_neg hk]
      have := xvarss_len ts l
      omega
theorem xvarss_len : ∀ (ts : List Tm) (l : List Int), (varsL ts l).length ≤ l.length + sizesN ts
  | [], l => by rw [varsL, sizesN]; omega
  | x :: r, l => by
    rw [varsL, sizesN]
    have h1 := xvars_len x l
    have h2 := xvarss_len r (varsT x l)
    omega
end
end Go.Proofs.Ytchbbaehdcmcfaa
