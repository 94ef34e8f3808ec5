import Derived.Test.YtchbbaehdcmcfaaHsozz
import Derived.Test.YtchbbaehdcmcfaaHsoav
import Derived.Test.YtchbbaehdcmcfaaHsoat
import Derived.Test.YtchbbaehdcmcfaaHsoac
set_option linter.unusedVariables false
set_option linter.unusedSimpArgs false
/- Package code: Match. -/
namespace Go.Proofs.Ytchbbaehdcmcfaa
open Go.RowKit
set_option linter.unusedVariables false
section
variable {V w : World} {F : List Nat} {p : Value} {N0 : Nat} {R S0 : List (Int × Tm)} {t : Tm} {args : List Tm} {E : Prop} {J : Nat → List Tm → (Int → Option Tm) → Nat → List (Int × Tm) → Prop}
theorem MAt.dom_lt {S0' S' : List (Int × Tm)} {N0' N' i' : Nat} {args' regs' : List Tm} {sl' : Int → Option Tm} {t' : Tm} (h : MAt S0' N0' args' t' i' regs' sl' N' S') : ∀ v y, sl' v = some y → 0 ≤ v ∧ v < ((varsT t' []).length : Nat) := fun v y hy => by
 obtain ⟨K, q, seen, hq, _⟩ := h
 obtain ⟨n, hn, e⟩ := hq.dom v y hy
 have := pos_lt8 hn
 rw [e]
 unfold slotI
 omega
theorem RunS.start {w4 : World} {mb gb tb n K : Nat} (X : Box w4 mb [.pointer none, .slice none 0 0, .slice none 0 0]) (hg : TRow V w4 gb n (fun _ => none)) (ht : TRow V w4 tb K (fun _ => none)) (hap : mb ≠ gb ∧ mb ≠ tb ∧ gb ≠ tb) (hown : ¬ mb ∈ F ∧ ¬ gb ∈ F ∧ ¬ tb ∈ F) (hbl : Blind V [mb, gb, tb]) (hn : n ≤ 2000 ∧ K ≤ 2000) :
  RunS V (set3 w4 mb p (.slice (some ⟨gb, 0, none⟩) n n) (.slice (some ⟨tb, 0, none⟩) K K)) F mb gb tb n K p [] (fun _ => none) := by
 have X5 := ((X.set (k := 0) (u := p) (by simp)).set (k := 1) (u := .slice (some ⟨gb, 0, none⟩) n n) (by simp)).set (k := 2) (u := .slice (some ⟨tb, 0, none⟩) K K) (by simp)
 have t3 : Touch [mb] w4 (set3 w4 mb p (.slice (some ⟨gb, 0, none⟩) n n) (.slice (some ⟨tb, 0, none⟩) K K)) := ((touch_one w4 mb 0 p).trans (touch_one _ mb 1 _) (fun k hk => Or.inl hk)).trans (touch_one _ mb 2 _) (fun k hk => Or.inl hk)
 exact ⟨X5, (hg.touch t3 (fun hm => hap.1 (List.mem_singleton.1 hm).symm)).congr (fun i hi => rfl), ht.touch t3 (fun hm => hap.2.1 (List.mem_singleton.1 hm).symm), hap, hown, hbl, Nat.zero_le _, hn, fun r hr => (by cases hr), fun v x hv => (by cases hv)⟩
def RunB (V w3 : World) (F : List Nat) (n K : Nat) (p s10 : Value) (wx : World) : Prop :=
 ∃ mb gb tb, s10 = .pointer (some ⟨mb, 0, none⟩) ∧ RunS V wx F mb gb tb n K p [] (fun _ => none) ∧ Below w3.heap.size w3 wx ∧ w3.heap.size ≤ mb ∧ w3.heap.size ≤ gb ∧ w3.heap.size ≤ tb
set_option maxHeartbeats 8000000 in
set_option maxRecDepth 100000 in
theorem matchM_at (hI : IsB V F w p N0 R) (hs : Sync R S0) (hg : goodT t = true) (hk : t.k = 2) {cv : Value} (hc : CodeV V (headC t) cv) {a : Option Addr} {m c : Nat} (hA : Tms V (.slice a m c) args) (hl : args.length = t.args.length) (hfit : args.all (fitsB N0) = true) (hroom : N0 + 2000 ≤ 65536) (hJ : ¬ E → JOk (headC t) J ∧ J 0 args (fun _ => none) N0 S0) :
  Calls Try.prog 22 #[p, cv, .slice a m c] w (MatchP E V F w p N0 S0 t args) := by
 obtain ⟨bt, rfl⟩ : ∃ bt, p = .pointer (some ⟨bt, 0, none⟩) := by obtain ⟨bt, _, _, _, rfl, _⟩ := hI.open; exact ⟨bt, rfl⟩
 have hnum := head_nums (t := t) hk
 have hgp := good_parts hg
 have hsz := size_kids t
 obtain ⟨hTri, hN0⟩ := hI.tri
 obtain ⟨n, hn⟩ : ∃ n, sizesN t.args = n := ⟨_, rfl⟩
 have hn2 : n ≤ 2000 := by have := hgp.1; omega
 obtain ⟨K, hK⟩ : ∃ K, (varsT t []).length = K := ⟨_, rfl⟩
 have hK2 : K ≤ 2000 := by rw [← hK]; exact vars_le hg
 have hll : (headC t).l.length = n := by rw [← hn]; exact cflat_size _ _ _ _ _ _ (Nat.le_refl _)
 have hrg : (headC t).rg = (n : Int) := by rw [hnum.2.2]; omega
 have hgk := head_goodK hg hk
 obtain ⟨_, _, _, _, _, _, _, _, _, _, _, hfacts⟩ := goodK_facts hgk
 rw [hK] at hnum
 obtain ⟨a', c', ea, ha1, ha2, ha3⟩ := hA.len
 obtain ⟨hm, hcc⟩ : m = args.length ∧ c = c' := by injection ea with _ e2 e3; exact ⟨e2, e3⟩
 subst hcc
 have HC := Lib.hid (fun (wq : World) (hb : Below w.heap.size w wq) => (by
  have := cgood_at (hc.stay (hI.ext hb).see.1)
  rw [hgk] at this
  exact this : Calls Try.prog 19 #[cv] wq fun e w' => e = .returned (.bool true) ∧ Below wq.heap.size wq w'))
 obtain ⟨ca, cm, ck, hcv, _, _, _, hel, hins⟩ := id hc
 have hcm : cm = n := by rw [(ins_len hel).1, hll]
 subst hcm
 rw [hnum.1, hnum.2.1, hrg] at hcv
 have har : ((t.args.length : Nat) : Int) = (m : Int) := by rw [hm, hl]
 rw [har] at hcv
 subst hcv
 obtain ⟨w1, e1, B1, z1, X1⟩ := box_new w #[.int .i64 m, .int .i64 K, .int .i64 cm, .slice ca cm ck] 25
 obtain ⟨x0, x1, x2, x3, _⟩ := X1.four
 have HFIT := Lib.hid (fun (wq : World) (hb : Below w.heap.size w wq) => (by
  have := fitM_at (hI.ext hb) hA
  rw [hfit] at this
  exact this : Calls Try.prog 59 #[.pointer (some ⟨bt, 0, none⟩), .slice a m c] wq fun e w' => e = .returned (.bool true) ∧ Below wq.heap.size wq w'))
 have HMK := Lib.hid (fun (wq : World) (hb : Below w.heap.size w wq) => Mark_at (hI.ext hb))
 have HI := Lib.hid (And.intro hI (And.intro hs (And.intro hc hA)))
 have HB1 := Lib.hid (And.intro B1 X1)
 have HE := Lib.hid e1
 have HP := Lib.hid (And.intro hg (And.intro hk (And.intro hl (And.intro hfit (And.intro hll (And.intro hK (And.intro hm hn)))))))
 have HF := Lib.hid hfacts
 have HINS := Lib.hid hins
 have HEL := Lib.hid hel
 have HJ := Lib.hid hJ
 have HLT := Lib.hid hI.lt
 have HVW := Lib.hid hI.see.1.1
 obtain ⟨ML, hML⟩ : ∃ ML, R.length = ML := ⟨_, rfl⟩
 rw [hML] at HMK
 have HML := Lib.hid hML
 have hkG := fun w => make_regs cm (by omega) w
 have hkT := fun w => make_regs K (by omega) w
 clear hI hs hc hA hfit hJ hgp hsz hn hK hll hrg hgk hfacts hnum ea hel hins B1 X1 z1 e1 hTri har hm hl hk hg hML ha1 ha2 ha3
 go_enter Try.func22, Try.ntmps22
 go_upto_region 1 with fail
 (try rw [HE.out])
 (go_wp2_with fail; go_fit (HC.out _ HB1.out.1); rintro e w2 ⟨rfl, b2⟩)
 have HB2 := Lib.hid (Ext.trans' HB1.out.1 b2)
 have HB02 := Lib.hid b2
 replace x0 := cell_later b2 x0
 clear b2
 (go_wp2_with fail; go_fit (HFIT.out _ HB2.out); rintro e w2b ⟨rfl, b2b⟩)
 have HB2b := Lib.hid (Ext.trans' HB2.out b2b)
 have HB12 := Lib.hid (Ext.trans' HB02.out b2b)
 clear b2b
 (go_wp2_with fail; go_fit (HMK.out _ HB2b.out); rintro e w3 ⟨rfl, rfl⟩)
 have hbx3 := HB1.out.2.ext (show Below w1.heap.size w1 w2b from HB12.out)
 clear x0 x1 x2 x3
 obtain ⟨x0, x1, x2, x3, _⟩ := hbx3.four
 have HBX := Lib.hid hbx3
 clear hbx3
 have HCC := Lib.hid (fun (wq : World) (hb : Below w2b.heap.size w2b wq) => (show (wq.cell? ⟨w.heap.size, 1, none⟩ = some (.int .i64 K) ∧ wq.cell? ⟨w.heap.size, 2, none⟩ = some (.int .i64 cm)) ∧ Below w2b.heap.size w2b wq from ⟨⟨cell_later hb x1, cell_later hb x2⟩, hb⟩))
 have HRS := Lib.hid (fun (w4 : World) (mb gb tb : Nat) (hb : Below w2b.heap.size w2b w4) (X : Box w4 mb [.pointer none, .slice none 0 0, .slice none 0 0]) (hgr : TRow V w4 gb cm (fun _ => none)) (htr : TRow V w4 tb K (fun _ => none)) (hap : mb ≠ gb ∧ mb ≠ tb ∧ gb ≠ tb) (h1 : w2b.heap.size ≤ mb) (h2 : w2b.heap.size ≤ gb) (h3 : w2b.heap.size ≤ tb) =>
  (show RunB V w2b F cm K (.pointer (some ⟨bt, 0, none⟩)) (.pointer (some ⟨mb, 0, none⟩)) (set3 w4 mb (.pointer (some ⟨bt, 0, none⟩)) (.slice (some ⟨gb, 0, none⟩) cm cm) (.slice (some ⟨tb, 0, none⟩) K K)) from
   ⟨mb, gb, tb, rfl, RunS.start X hgr htr hap ⟨fun e => by have := HLT.out _ e; have := HB2b.out.size; omega, fun e => by have := HLT.out _ e; have := HB2b.out.size; omega, fun e => by have := HLT.out _ e; have := HB2b.out.size; omega⟩ (fun a0 ha0 => by
    cases hcc : V.cell? a0 with
    | none => rfl
    | some u =>
     have h8 := World.block_lt_of_cell? _ _ hcc
     have h9 := HVW.out
     have h10 := HB2b.out.size
     simp only [List.mem_cons, List.not_mem_nil, or_false] at ha0
     rcases ha0 with e | e | e <;> omega) ⟨hn2, hK2⟩, Below.set3 hb h1 _ _ _, h1, h2, h3⟩))
 go_upto_region 4 with fail
 go_cut [10] from 33 to 40 (fun s10 wx => Hid (RunB V w2b F cm K (.pointer (some ⟨bt, 0, none⟩)) s10 wx))
 case first =>
  refine wp_region_held_drew (S := fun wq => (wq.cell? ⟨w.heap.size, 1, none⟩ = some (.int .i64 K) ∧ wq.cell? ⟨w.heap.size, 2, none⟩ = some (.int .i64 cm)) ∧ Below w2b.heap.size w2b wq) (by kernel_rfl) (HCC.out _ (Below.refl _ _).drew) (fun hHeld => ?_)
  first | (refine held_t (i := 0) hHeld ?_; constructor; constructor; intro wq hq; focus ((try dsimp only at hq); go_simp; first | done | with_reducible rfl | fail)) | refine held_s (i := 0) hHeld ?_ | fail
  first | (refine held_t (i := 1) hHeld ?_; constructor; constructor; intro wq hq; focus ((try dsimp only at hq); go_simp; first | done | with_reducible rfl | fail)) | refine held_s (i := 1) hHeld ?_ | fail
  first | (refine held_t (i := 2) hHeld ?_; constructor; constructor; intro wq hq; focus ((try dsimp only at hq); go_simp; first | done | with_reducible rfl | fail)) | refine held_s (i := 2) hHeld ?_ | fail
  first | (refine held_t (i := 4) hHeld ?_; constructor; constructor; intro wq hq; focus ((try dsimp only at hq); go_simp; first | done | with_reducible rfl | fail)) | refine held_s (i := 4) hHeld ?_ | fail
  first | (refine held_t (i := 5) hHeld ?_; constructor; constructor; intro wq hq; focus ((try dsimp only at hq); go_simp; first | done | with_reducible rfl | fail)) | refine held_s (i := 5) hHeld ?_ | fail
  try simp only [Act.put, lay4]
  obtain ⟨wd, hwd⟩ : ∃ wd, w2b.drew = wd := ⟨_, rfl⟩
  have hbd : Below w2b.heap.size w2b wd := by rw [← hwd]; exact (Below.refl _ _).drew
  have hsd := hbd.size
  rw [hwd] at hHeld ⊢
  clear hwd
  refine wpAnyH_ready (rs := [3, 6, 8]) (by kernel_rfl) (by simp) ?_
  refine AllReadyH.cons (by simp only [ops3]; rfl) (fun K hK => ?_) (AllReadyH.cons (by simp only [ops3]; rfl) (fun K hK => ?_) (AllReadyH.cons (by simp only [ops3]; rfl) (fun K hK => ?_) AllReadyH.nil))
  ·go_simp
   skip
   refine hK.out _ _ (HCC.out _ (Ext.trans' (hbd) (bel1' _ _))) (fun hHeld => ?_)
   clear hK K
   try simp only [Act.put, lay4]
   obtain ⟨wa, ewa, bwa, zwa, Xwa⟩ := box_new wd (madeCells #[.int .i64 0, .int .i64 0, .string ⟨#[]⟩, .slice none 0 0] (cm * 4)) 31
   have Twa := TRow.new V wd cm 31
   rw [ewa] at hHeld Twa ⊢
   clear ewa
   refine wpAnyH_ready (rs := [6, 8]) (by kernel_rfl) (by simp) ?_
   refine AllReadyH.cons (by simp only [ops3]; rfl) (fun K hK => ?_) (AllReadyH.cons (by simp only [ops3]; rfl) (fun K hK => ?_) AllReadyH.nil)
   ·go_simp
    skip
    refine hK.out _ _ (HCC.out _ (Ext.trans' (Ext.trans' (hbd) bwa) (bel1' _ _))) (fun hHeld => ?_)
    clear hK K
    try simp only [Act.put, lay4]
    obtain ⟨wb, ewb, bwb, zwb, Xwb⟩ := box_new wa (madeCells #[.int .i64 0, .int .i64 0, .string ⟨#[]⟩, .slice none 0 0] (K * 4)) 31
    have Twb := TRow.new V wa K 31
    rw [ewb] at hHeld Twb ⊢
    rw [zwa] at Xwb Twb
    clear ewb
    first | (refine held_t (i := 7) hHeld ?_; constructor; constructor; intro wq hq; focus ((try dsimp only at hq); go_simp; first | done | with_reducible rfl | fail)) | refine held_s (i := 7) hHeld ?_ | fail
    try simp only [Act.put, lay4]
    refine held_c 8 fun K hK => ?_
    go_simp
    skip
    refine hK.out _ _ (HCC.out _ (Ext.trans' (Ext.trans' (Ext.trans' (hbd) bwa) bwb) (bel1' _ _))) (fun hHeld => ?_)
    clear hK K
    try simp only [Act.put, lay4]
    obtain ⟨we, ewe, bwe, zwe, Xwe⟩ := box_new wb #[.pointer none, .slice none 0 0, .slice none 0 0] 115
    rw [ewe] at hHeld ⊢
    rw [zwb, zwa] at Xwe
    clear ewe
    have hbe := Ext.trans' (Ext.trans' (Ext.trans' hbd bwa) bwb) bwe
    have hbm := Xwe
    have TD := Lib.hid (HRS.out we (wd.heap.size + 2) (wd.heap.size) (wd.heap.size + 1) hbe hbm (((Twa).ext bwb).ext bwe) ((Twb).ext bwe) ⟨by omega, by omega, by omega⟩ (by omega) (by omega) (by omega))
    obtain ⟨r0, r1, r2, rf⟩ := Box.three hbm
    have hb3 := Below.set3 hbe (show w2b.heap.size ≤ wd.heap.size + 2 by omega) (.pointer (some ⟨bt, 0, none⟩)) (.slice (some ⟨wd.heap.size, 0, none⟩) cm cm) (.slice (some ⟨wd.heap.size + 1, 0, none⟩) K K)
    refine held_c 9 fun K hK => ?_
    go_simp
    skip
    refine hK.out _ _ (HCC.out _ hb3) (fun hHeld => ?_)
    clear hK K
    try simp only [Act.put, lay4]
    refine wpAnyH_done (by kernel_rfl) ?_ _
    clear hHeld r0 r1 r2 rf
    go_wp2
    all_goals go_meet
    exact TD.out
   ·go_simp
    skip
    refine hK.out _ _ (HCC.out _ (Ext.trans' (Ext.trans' (hbd) bwa) (bel1' _ _))) (fun hHeld => ?_)
    clear hK K
    try simp only [Act.put, lay4]
    obtain ⟨wb, ewb, bwb, zwb, Xwb⟩ := box_new wa #[.pointer none, .slice none 0 0, .slice none 0 0] 115
    rw [ewb] at hHeld ⊢
    rw [zwa] at Xwb
    clear ewb
    refine held_c 6 fun K hK => ?_
    go_simp
    skip
    refine hK.out _ _ (HCC.out _ (Ext.trans' (Ext.trans' (Ext.trans' (hbd) bwa) bwb) (bel1' _ _))) (fun hHeld => ?_)
    clear hK K
    try simp only [Act.put, lay4]
    obtain ⟨we, ewe, bwe, zwe, Xwe⟩ := box_new wb (madeCells #[.int .i64 0, .int .i64 0, .string ⟨#[]⟩, .slice none 0 0] (K * 4)) 31
    have Twe := TRow.new V wb K 31
    rw [ewe] at hHeld Twe ⊢
    rw [zwb, zwa] at Xwe Twe
    clear ewe
    first | (refine held_t (i := 7) hHeld ?_; constructor; constructor; intro wq hq; focus ((try dsimp only at hq); go_simp; first | done | with_reducible rfl | fail)) | refine held_s (i := 7) hHeld ?_ | fail
    try simp only [Act.put, lay4]
    have hbe := Ext.trans' (Ext.trans' (Ext.trans' hbd bwa) bwb) bwe
    have hbm := (Xwb).ext bwe
    have TD := Lib.hid (HRS.out we (wd.heap.size + 1) (wd.heap.size) (wd.heap.size + 2) hbe hbm (((Twa).ext bwb).ext bwe) (Twe) ⟨by omega, by omega, by omega⟩ (by omega) (by omega) (by omega))
    obtain ⟨r0, r1, r2, rf⟩ := Box.three hbm
    have hb3 := Below.set3 hbe (show w2b.heap.size ≤ wd.heap.size + 1 by omega) (.pointer (some ⟨bt, 0, none⟩)) (.slice (some ⟨wd.heap.size, 0, none⟩) cm cm) (.slice (some ⟨wd.heap.size + 2, 0, none⟩) K K)
    refine held_c 9 fun K hK => ?_
    go_simp
    skip
    refine hK.out _ _ (HCC.out _ hb3) (fun hHeld => ?_)
    clear hK K
    try simp only [Act.put, lay4]
    refine wpAnyH_done (by kernel_rfl) ?_ _
    clear hHeld r0 r1 r2 rf
    go_wp2
    all_goals go_meet
    exact TD.out
  ·go_simp
   skip
   refine hK.out _ _ (HCC.out _ (Ext.trans' (hbd) (bel1' _ _))) (fun hHeld => ?_)
   clear hK K
   try simp only [Act.put, lay4]
   obtain ⟨wa, ewa, bwa, zwa, Xwa⟩ := box_new wd (madeCells #[.int .i64 0, .int .i64 0, .string ⟨#[]⟩, .slice none 0 0] (K * 4)) 31
   have Twa := TRow.new V wd K 31
   rw [ewa] at hHeld Twa ⊢
   clear ewa
   refine wpAnyH_ready (rs := [3, 8]) (by kernel_rfl) (by simp) ?_
   refine AllReadyH.cons (by simp only [ops3]; rfl) (fun K hK => ?_) (AllReadyH.cons (by simp only [ops3]; rfl) (fun K hK => ?_) AllReadyH.nil)
   ·go_simp
    skip
    refine hK.out _ _ (HCC.out _ (Ext.trans' (Ext.trans' (hbd) bwa) (bel1' _ _))) (fun hHeld => ?_)
    clear hK K
    try simp only [Act.put, lay4]
    obtain ⟨wb, ewb, bwb, zwb, Xwb⟩ := box_new wa (madeCells #[.int .i64 0, .int .i64 0, .string ⟨#[]⟩, .slice none 0 0] (cm * 4)) 31
    have Twb := TRow.new V wa cm 31
    rw [ewb] at hHeld Twb ⊢
    rw [zwa] at Xwb Twb
    clear ewb
    first | (refine held_t (i := 7) hHeld ?_; constructor; constructor; intro wq hq; focus ((try dsimp only at hq); go_simp; first | done | with_reducible rfl | fail)) | refine held_s (i := 7) hHeld ?_ | fail
    try simp only [Act.put, lay4]
    refine held_c 8 fun K hK => ?_
    go_simp
    skip
    refine hK.out _ _ (HCC.out _ (Ext.trans' (Ext.trans' (Ext.trans' (hbd) bwa) bwb) (bel1' _ _))) (fun hHeld => ?_)
    clear hK K
    try simp only [Act.put, lay4]
    obtain ⟨we, ewe, bwe, zwe, Xwe⟩ := box_new wb #[.pointer none, .slice none 0 0, .slice none 0 0] 115
    rw [ewe] at hHeld ⊢
    rw [zwb, zwa] at Xwe
    clear ewe
    have hbe := Ext.trans' (Ext.trans' (Ext.trans' hbd bwa) bwb) bwe
    have hbm := Xwe
    have TD := Lib.hid (HRS.out we (wd.heap.size + 2) (wd.heap.size + 1) (wd.heap.size) hbe hbm ((Twb).ext bwe) (((Twa).ext bwb).ext bwe) ⟨by omega, by omega, by omega⟩ (by omega) (by omega) (by omega))
    obtain ⟨r0, r1, r2, rf⟩ := Box.three hbm
    have hb3 := Below.set3 hbe (show w2b.heap.size ≤ wd.heap.size + 2 by omega) (.pointer (some ⟨bt, 0, none⟩)) (.slice (some ⟨wd.heap.size + 1, 0, none⟩) cm cm) (.slice (some ⟨wd.heap.size, 0, none⟩) K K)
    refine held_c 9 fun K hK => ?_
    go_simp
    skip
    refine hK.out _ _ (HCC.out _ hb3) (fun hHeld => ?_)
    clear hK K
    try simp only [Act.put, lay4]
    refine wpAnyH_done (by kernel_rfl) ?_ _
    clear hHeld r0 r1 r2 rf
    go_wp2
    all_goals go_meet
    exact TD.out
   ·go_simp
    skip
    refine hK.out _ _ (HCC.out _ (Ext.trans' (Ext.trans' (hbd) bwa) (bel1' _ _))) (fun hHeld => ?_)
    clear hK K
    try simp only [Act.put, lay4]
    obtain ⟨wb, ewb, bwb, zwb, Xwb⟩ := box_new wa #[.pointer none, .slice none 0 0, .slice none 0 0] 115
    rw [ewb] at hHeld ⊢
    rw [zwa] at Xwb
    clear ewb
    refine held_c 3 fun K hK => ?_
    go_simp
    skip
    refine hK.out _ _ (HCC.out _ (Ext.trans' (Ext.trans' (Ext.trans' (hbd) bwa) bwb) (bel1' _ _))) (fun hHeld => ?_)
    clear hK K
    try simp only [Act.put, lay4]
    obtain ⟨we, ewe, bwe, zwe, Xwe⟩ := box_new wb (madeCells #[.int .i64 0, .int .i64 0, .string ⟨#[]⟩, .slice none 0 0] (cm * 4)) 31
    have Twe := TRow.new V wb cm 31
    rw [ewe] at hHeld Twe ⊢
    rw [zwb, zwa] at Xwe Twe
    clear ewe
    first | (refine held_t (i := 7) hHeld ?_; constructor; constructor; intro wq hq; focus ((try dsimp only at hq); go_simp; first | done | with_reducible rfl | fail)) | refine held_s (i := 7) hHeld ?_ | fail
    try simp only [Act.put, lay4]
    have hbe := Ext.trans' (Ext.trans' (Ext.trans' hbd bwa) bwb) bwe
    have hbm := (Xwb).ext bwe
    have TD := Lib.hid (HRS.out we (wd.heap.size + 1) (wd.heap.size + 2) (wd.heap.size) hbe hbm (Twe) (((Twa).ext bwb).ext bwe) ⟨by omega, by omega, by omega⟩ (by omega) (by omega) (by omega))
    obtain ⟨r0, r1, r2, rf⟩ := Box.three hbm
    have hb3 := Below.set3 hbe (show w2b.heap.size ≤ wd.heap.size + 1 by omega) (.pointer (some ⟨bt, 0, none⟩)) (.slice (some ⟨wd.heap.size + 2, 0, none⟩) cm cm) (.slice (some ⟨wd.heap.size, 0, none⟩) K K)
    refine held_c 9 fun K hK => ?_
    go_simp
    skip
    refine hK.out _ _ (HCC.out _ hb3) (fun hHeld => ?_)
    clear hK K
    try simp only [Act.put, lay4]
    refine wpAnyH_done (by kernel_rfl) ?_ _
    clear hHeld r0 r1 r2 rf
    go_wp2
    all_goals go_meet
    exact TD.out
  ·go_simp
   skip
   refine hK.out _ _ (HCC.out _ (Ext.trans' (hbd) (bel1' _ _))) (fun hHeld => ?_)
   clear hK K
   try simp only [Act.put, lay4]
   obtain ⟨wa, ewa, bwa, zwa, Xwa⟩ := box_new wd #[.pointer none, .slice none 0 0, .slice none 0 0] 115
   rw [ewa] at hHeld ⊢
   clear ewa
   refine wpAnyH_ready (rs := [3, 6]) (by kernel_rfl) (by simp) ?_
   refine AllReadyH.cons (by simp only [ops3]; rfl) (fun K hK => ?_) (AllReadyH.cons (by simp only [ops3]; rfl) (fun K hK => ?_) AllReadyH.nil)
   ·go_simp
    skip
    refine hK.out _ _ (HCC.out _ (Ext.trans' (Ext.trans' (hbd) bwa) (bel1' _ _))) (fun hHeld => ?_)
    clear hK K
    try simp only [Act.put, lay4]
    obtain ⟨wb, ewb, bwb, zwb, Xwb⟩ := box_new wa (madeCells #[.int .i64 0, .int .i64 0, .string ⟨#[]⟩, .slice none 0 0] (cm * 4)) 31
    have Twb := TRow.new V wa cm 31
    rw [ewb] at hHeld Twb ⊢
    rw [zwa] at Xwb Twb
    clear ewb
    refine held_c 6 fun K hK => ?_
    go_simp
    skip
    refine hK.out _ _ (HCC.out _ (Ext.trans' (Ext.trans' (Ext.trans' (hbd) bwa) bwb) (bel1' _ _))) (fun hHeld => ?_)
    clear hK K
    try simp only [Act.put, lay4]
    obtain ⟨we, ewe, bwe, zwe, Xwe⟩ := box_new wb (madeCells #[.int .i64 0, .int .i64 0, .string ⟨#[]⟩, .slice none 0 0] (K * 4)) 31
    have Twe := TRow.new V wb K 31
    rw [ewe] at hHeld Twe ⊢
    rw [zwb, zwa] at Xwe Twe
    clear ewe
    first | (refine held_t (i := 7) hHeld ?_; constructor; constructor; intro wq hq; focus ((try dsimp only at hq); go_simp; first | done | with_reducible rfl | fail)) | refine held_s (i := 7) hHeld ?_ | fail
    try simp only [Act.put, lay4]
    have hbe := Ext.trans' (Ext.trans' (Ext.trans' hbd bwa) bwb) bwe
    have hbm := ((Xwa).ext bwb).ext bwe
    have TD := Lib.hid (HRS.out we (wd.heap.size) (wd.heap.size + 1) (wd.heap.size + 2) hbe hbm ((Twb).ext bwe) (Twe) ⟨by omega, by omega, by omega⟩ (by omega) (by omega) (by omega))
    obtain ⟨r0, r1, r2, rf⟩ := Box.three hbm
    have hb3 := Below.set3 hbe (show w2b.heap.size ≤ wd.heap.size by omega) (.pointer (some ⟨bt, 0, none⟩)) (.slice (some ⟨wd.heap.size + 1, 0, none⟩) cm cm) (.slice (some ⟨wd.heap.size + 2, 0, none⟩) K K)
    refine held_c 9 fun K hK => ?_
    go_simp
    skip
    refine hK.out _ _ (HCC.out _ hb3) (fun hHeld => ?_)
    clear hK K
    try simp only [Act.put, lay4]
    refine wpAnyH_done (by kernel_rfl) ?_ _
    clear hHeld r0 r1 r2 rf
    go_wp2
    all_goals go_meet
    exact TD.out
   ·go_simp
    skip
    refine hK.out _ _ (HCC.out _ (Ext.trans' (Ext.trans' (hbd) bwa) (bel1' _ _))) (fun hHeld => ?_)
    clear hK K
    try simp only [Act.put, lay4]
    obtain ⟨wb, ewb, bwb, zwb, Xwb⟩ := box_new wa (madeCells #[.int .i64 0, .int .i64 0, .string ⟨#[]⟩, .slice none 0 0] (K * 4)) 31
    have Twb := TRow.new V wa K 31
    rw [ewb] at hHeld Twb ⊢
    rw [zwa] at Xwb Twb
    clear ewb
    refine held_c 3 fun K hK => ?_
    go_simp
    skip
    refine hK.out _ _ (HCC.out _ (Ext.trans' (Ext.trans' (Ext.trans' (hbd) bwa) bwb) (bel1' _ _))) (fun hHeld => ?_)
    clear hK K
    try simp only [Act.put, lay4]
    obtain ⟨we, ewe, bwe, zwe, Xwe⟩ := box_new wb (madeCells #[.int .i64 0, .int .i64 0, .string ⟨#[]⟩, .slice none 0 0] (cm * 4)) 31
    have Twe := TRow.new V wb cm 31
    rw [ewe] at hHeld Twe ⊢
    rw [zwb, zwa] at Xwe Twe
    clear ewe
    first | (refine held_t (i := 7) hHeld ?_; constructor; constructor; intro wq hq; focus ((try dsimp only at hq); go_simp; first | done | with_reducible rfl | fail)) | refine held_s (i := 7) hHeld ?_ | fail
    try simp only [Act.put, lay4]
    have hbe := Ext.trans' (Ext.trans' (Ext.trans' hbd bwa) bwb) bwe
    have hbm := ((Xwa).ext bwb).ext bwe
    have TD := Lib.hid (HRS.out we (wd.heap.size) (wd.heap.size + 2) (wd.heap.size + 1) hbe hbm (Twe) ((Twb).ext bwe) ⟨by omega, by omega, by omega⟩ (by omega) (by omega) (by omega))
    obtain ⟨r0, r1, r2, rf⟩ := Box.three hbm
    have hb3 := Below.set3 hbe (show w2b.heap.size ≤ wd.heap.size by omega) (.pointer (some ⟨bt, 0, none⟩)) (.slice (some ⟨wd.heap.size + 2, 0, none⟩) cm cm) (.slice (some ⟨wd.heap.size + 1, 0, none⟩) K K)
    refine held_c 9 fun K hK => ?_
    go_simp
    skip
    refine hK.out _ _ (HCC.out _ hb3) (fun hHeld => ?_)
    clear hK K
    try simp only [Act.put, lay4]
    refine wpAnyH_done (by kernel_rfl) ?_ _
    clear hHeld r0 r1 r2 rf
    go_wp2
    all_goals go_meet
    exact TD.out
 case rest =>
  obtain ⟨mb, gb, tb, rfl, hrs, hbw, hm1, hg1, ht1⟩ := hcut.out
  obtain ⟨hI, hs, hc, hA⟩ := HI.out
  obtain ⟨hg, hk, hl, hfit, hll, hK, hm, hn⟩ := HP.out
  obtain ⟨qs, ao, c9, hsl, hql, hqm, hqa, hbig, hsrc⟩ := hA.pairs
  obtain ⟨hao, hc9⟩ : a = ao ∧ c = c9 := by injection hsl with h1 h2 h3; exact ⟨h1, h3⟩
  subst hao hc9
  have hqlm : qs.length = m := by rw [hql, hm]
  have hbwc := Ext.trans' HB2b.out hbw
  have hstc := (hI.ext hbwc).see.1
  have hsum : ∀ l : List Tm, l.length ≤ sizesN l := by
   intro l
   induction l with
   | nil => simp
   | cons x r ih => rw [sizesN, List.length_cons]; have := size_pos x; omega
  have hmn : m ≤ cm := by have := hsum t.args; omega
  have hfa : ∀ y ∈ args, goodT y = true ∧ ∀ q ∈ occT y, 0 ≤ q ∧ q < (N0 : Int) := fun y hy => fitsB_true.1 (List.all_eq_true.1 hfit y hy)
  obtain ⟨zc, hcr⟩ : ∃ zc, ∀ ty, (Builtin.copy_ #[29, 29] ty #[.slice (some ⟨gb, 0, none⟩) cm cm, .slice a m c]).run Try.prog wc = .ok zc (wc.setCells gb 0 (qs.flatMap pCells)) := by
   by_cases hm0 : m = 0
   ·have hq0 : qs = [] := List.length_eq_zero_iff.1 (by omega)
    subst hm0 hq0
    exact ⟨_, fun ty => run_copy_zero (P := Try.prog) wc 29 29 ty 31 4 _ _ _ _ _ Try.underlying29 (by kernel_rfl)⟩
   ·have h9 := fun ty => hrs.copyRun (qs := qs) (c := c) (ao := a) (by simp; omega) (pCells_one qs hqa) (by rw [hql]; exact hsrc.imp id (fun ⟨ad, e, h⟩ => ⟨ad, e, fun j u hj => hstc.2 _ _ (h j u hj)⟩)) (by omega) ty
    simp only [hqlm] at h9
    exact ⟨_, h9⟩
  have hr5 := hrs.copy (qs := qs) (by simp; omega) hqa (fun q hq => (hfa q.1 (by rw [← hqm]; exact List.mem_map_of_mem hq)).1)
  rw [hqm] at hr5
  have hI5 := hrs.keepI (hI.ext hbwc) (qs.flatMap pCells) 0
  have hszw := HB2b.out.size
  have hm0 : w.heap.size < w2b.heap.size := by have := HBX.out.lt; omega
  have t5 : Touch F w (wc.setCells gb 0 (qs.flatMap pCells)) := (Touch.of_below hbwc F).trans (setCells_touch gb _ 0 wc) (fun q hq => Or.inr (by have := List.mem_singleton.1 hq; omega))
  have hMS0 : MatS E J V F w mb gb tb cm K (.pointer (some ⟨bt, 0, none⟩)) t S0 N0 args 0 (wc.setCells gb 0 (qs.flatMap pCells)) :=
   ⟨V, F, R, N0, S0, args, fun _ => none, Stays.refl V, hI5, hs, hr5, MAt.start (good_parts hg).2.2 hk hl (OkS.of_tri hI.tri.1 hI.tri.2 hs) (top_free hI.tri.1 hs) (fun y hy => ⟨(good_parts (hfa y hy).1).2.2, (hfa y hy).2⟩), t5, fun q hq => Or.inl hq, ⟨[], rfl⟩, by omega, Nat.le_refl _, fun hE => (HJ.out hE).2⟩
  have hbx5 := (HBX.out.ext hbw).block ((setCells_touch gb (qs.flatMap pCells) 0 wc).block _ (HBX.out.ext hbw).lt (fun hm => by have := List.mem_singleton.1 hm; omega)) (Nat.lt_of_lt_of_le (HBX.out.ext hbw).lt (setCells_touch gb (qs.flatMap pCells) 0 wc).size)
  obtain ⟨u0, u1, u2, u3, _⟩ := hbx5.four
  obtain ⟨m0, m1, m2, mf⟩ := hrs.box.three
  have HMS0 := Lib.hid hMS0
  have HMG := Lib.hid (show w.heap.size ≤ mb ∧ w.heap.size ≤ gb ∧ w.heap.size ≤ tb from ⟨by omega, by omega, by omega⟩)
  have HML2 := Lib.hid (show ML = S0.length by rw [← HML.out]; exact hs.len)
  obtain ⟨w5, hw5⟩ : ∃ w5, wc.setCells gb 0 (qs.flatMap pCells) = w5 := ⟨_, rfl⟩
  rw [hw5] at hcr HMS0 u0 u1 u2 u3
  clear hw5 hMS0 hbx5 t5 hI5 hr5 hsl hql hqm hqa hbig hsrc hstc hbwc hrs hbw hcut hI hs hc hA hg hk hl hfit hll hK hm hn hsum hfa hqlm
  go_wp2_with fail
  go_loopw [48] (fun v wr => ∃ j : Nat, j ≤ cm ∧ v = .int .i64 (j : Nat) ∧ Hid (MatS E J V F w mb gb tb cm K (.pointer (some ⟨bt, 0, none⟩)) t S0 N0 args j wr)) (fun v _ => cm - (RowKit.intOf v).toNat)
  case atStart => exact ⟨0, Nat.zero_le _, rfl, HMS0⟩
  case round =>
   obtain ⟨j, hj, rfl, HS⟩ := hrel
   by_cases hjn : j < cm
   ·obtain ⟨x, hx⟩ : ∃ x, (headC t).l[j]? = some x := ⟨_, List.getElem?_eq_getElem (by rw [HP.out.2.2.2.2.1]; exact hjn)⟩
    have hst : Stays V wr := by
     obtain ⟨V1, F1, R1, N1, S1, rg1, sl1, q1, q2, _⟩ := HS.out
     exact q1.trans q2.see.1
    obtain ⟨b, off, rfl, hbb, d0, d1, d2, d3, d4, d5⟩ := ins_get HEL.out hx
    replace d0 := hst.2 _ _ d0
    replace d1 := hst.2 _ _ d1
    replace d2 := hst.2 _ _ d2
    replace d3 := hst.2 _ _ d3
    replace d4 := hst.2 _ _ d4
    replace d5 := hst.2 _ _ d5
    have HX := Lib.hid hx
    have HSTP := Lib.hid (fun (wq : World) (hb : Below wr.heap.size wr wq) => steps_at (E := E) (J := J) HP.out.1 HP.out.2.1 HP.out.2.2.2.2.1 HP.out.2.2.2.2.2.1 (fun hE => (HJ.out hE).1) HMG.out HINS.out (HS.out.ext hb) hjn hx (fun e => by
     obtain ⟨C, B, f1, f2, f3, f4, _⟩ := (HF.out j x hx).2 e
     exact ⟨C, B, f1, f2, by have := HP.out.2.2.2.2.1; omega⟩))
    clear hx hst hbb
    go_upto_region 9 with fail
    obtain ⟨w6, e6, b6, z6, X6⟩ := box_new wr #[.string x.op, .int .i64 x.a, .int .i64 x.b, .int .i64 x.c, .int .i64 x.n, .string x.s] 36
    rw [e6]
    have y0 := X6.cells 0 _ rfl
    have y1 := X6.cells 1 _ rfl
    have y2 := X6.cells 2 _ rfl
    have y3 := X6.cells 3 _ rfl
    have y4 := X6.cells 4 _ rfl
    have y5 := X6.cells 5 _ rfl
    have C := HSTP.out w6 b6
    unfold insVal at C
    clear e6 b6 z6 X6 d0 d1 d2 d3 d4 d5 m0 m1 m2 mf u0 u1 u2 u3
    go_wp2_with fail
    go_fit (C)
    rintro e w7 hst
    rcases hst with ⟨rfl, hms⟩ | ⟨er, V1, F1, R1, N1, S1, rfl, q1, q2, q3, q4, q5, ⟨L, q6⟩, q7, q8⟩
    ·have HM7 := Lib.hid hms
     clear hms C y0 y1 y2 y3 y4 y5
     go_wp2
     go_roundw
     case rel => exact ⟨j + 1, by omega, by go_num, HM7⟩
     case measure => simp [RowKit.intOf]; omega
    ·have hRL : R1.length = ML + L.length := by
      have := q3.len
      rw [q6, List.length_append] at this
      have h2 := HML2.out
      omega
     have CU := Undo_yes q2 ML L.length hRL
     have HQ := Lib.hid (And.intro q1 (And.intro q3 (And.intro q4 (And.intro q5 (And.intro q6 (And.intro q7 q8))))))
     clear C y0 y1 y2 y3 y4 y5 hRL q1 q2 q3 q4 q5 q6 q7 q8
     (go_wp2_with fail; go_fit (CU); rintro e w8 ⟨rfl, i8, t8⟩)
     have H8 := Lib.hid (And.intro i8 t8)
     clear i8 t8 CU
     go_wp2
     go_ret3
     refine ⟨V1, F1, _, N1, HQ.out.1, H8.out.1, HQ.out.2.2.1.trans H8.out.2 HQ.out.2.2.2.1, HQ.out.2.2.2.1, HQ.out.2.2.2.2.2.1, Or.inr ⟨er, rfl, ?_, HQ.out.2.2.2.2.2.2⟩⟩
     have h9 := HQ.out.2.1.drop L.length
     rw [HQ.out.2.2.2.2.1, List.drop_left] at h9
     exact h9
   ·have hjm : j = cm := by omega
    subst hjm
    obtain ⟨V1, F1, R1, N1, S1, rg1, sl1, q1, q2, q3, q4, q5, q6, q7, q8, q9, q10, q11⟩ := HS.out
    obtain ⟨k0, k1, k2, kf⟩ := q4.box.three
    have hlen : ((List.range K).map fun i => (sl1 ((i : Nat) : Int)).getD (varV 0)).length = (varsT t []).length := by rw [List.length_map, List.length_range, HP.out.2.2.2.2.2.1]
    have hdom := q5.dom_lt
    have hY := q5.done (L := (List.range K).map fun i => (sl1 ((i : Nat) : Int)).getD (varV 0)) (by rw [HP.out.2.2.2.2.1]; exact Nat.le_refl _) hlen (fun v y hy => by
     obtain ⟨h0, h1⟩ := hdom v y hy
     rw [HP.out.2.2.2.2.2.1] at h1
     rw [List.getElem?_map, List.getElem?_range (by omega : v.toNat < K)]
     show some ((sl1 ((v.toNat : Nat) : Int)).getD (varV 0)) = some y
     rw [show ((v.toNat : Nat) : Int) = v by omega, hy]
     rfl)
    have hTm := q4.srow.hideTerms (D := awayB F1) (by omega) (by unfold awayB; simpa using q4.own.2.2) (by
     have := q2.rebase.see.1
     have h5 := q2.see
     refine ⟨by rw [hide_size]; exact h5.1.1, fun a0 v0 hv0 => ?_⟩
     have hn0 : ¬ a0.block ∈ F1 := fun hm => by rw [h5.2 a0 hm] at hv0; cases hv0
     rw [hide_cell _ _ _ (by simp [awayB, hn0])]
     exact h5.1.2 a0 v0 hv0)
    have HFIN := Lib.hid (show MatchP E V F w (.pointer (some ⟨bt, 0, none⟩)) N0 S0 t args (.returned (.tuple #[.slice (some ⟨tb, 0, none⟩) K K, .bool true, .int .i64 0])) wr from
     ⟨V1, F1, R1, N1, q1, q2, q6, q7, q10, Or.inl ⟨_, S1, _, rfl, hTm, q3, hY⟩⟩)
    clear q1 q2 q3 q4 q5 q6 q7 q8 q9 q10 q11 hlen hdom hY hTm HS
    go_wp2
    go_ret3
    exact HFIN.out
end
end Go.Proofs.Ytchbbaehdcmcfaa
/- Package code: Match where the call may not be: another count of Args, or one that may not be. -/
namespace Go.Proofs.Ytchbbaehdcmcfaa
open Go.RowKit
set_option linter.unusedVariables false
section
variable {V w : World} {F : List Nat} {p : Value} {N0 : Nat} {R : List (Int × Tm)} {t : Tm} {args : List Tm}
set_option maxHeartbeats 4000000 in
set_option maxRecDepth 100000 in
theorem matchNot_at (hI : IsB V F w p N0 R) (hg : goodT t = true) (hk : t.k = 2) {cv : Value} (hc : CodeV V (headC t) cv) {a : Option Addr} {m c : Nat} (hA : Tms V (.slice a m c) args) (hbad : args.length ≠ t.args.length ∨ (args.length = t.args.length ∧ args.all (fitsB N0) = false)) :
  Calls Try.prog 22 #[p, cv, .slice a m c] w fun e w' => e = .returned (.tuple #[.slice none 0 0, .bool false, .int .i64 1]) ∧ Below w.heap.size w w' := by
 have hnum := head_nums (t := t) hk
 have hgk := head_goodK hg hk
 have hgp := good_parts hg
 obtain ⟨a', c', ea, ha1, ha2, ha3⟩ := hA.len
 obtain ⟨hm, hcc⟩ : m = args.length ∧ c = c' := by injection ea with _ e2 e3; exact ⟨e2, e3⟩
 subst hcc
 have HC := Lib.hid (fun (wq : World) (hb : Below w.heap.size w wq) => (by
  have := cgood_at (hc.stay (hI.ext hb).see.1)
  rw [hgk] at this
  exact this : Calls Try.prog 19 #[cv] wq fun e w' => e = .returned (.bool true) ∧ Below wq.heap.size wq w'))
 have HFIT := Lib.hid (fun (wq : World) (hb : Below w.heap.size w wq) => fitM_at (hI.ext hb) hA)
 obtain ⟨ca, cm, ck, hcv, _, _, _, hel, hins⟩ := id hc
 obtain ⟨A, hAr⟩ : ∃ A : Nat, t.args.length = A := ⟨_, rfl⟩
 have hA8 : A ≤ 8 := by rw [← hAr]; exact (plain_kids hgp.2.2 hk).2
 rw [hnum.1, hAr] at hcv
 obtain ⟨q2, hq2⟩ : ∃ q, (headC t).sl = q := ⟨_, rfl⟩
 obtain ⟨q3, hq3⟩ : ∃ q, (headC t).rg = q := ⟨_, rfl⟩
 rw [hq2, hq3] at hcv
 subst hcv
 rw [hAr, ← hm] at hbad
 rw [← hm] at ha1 ha3
 unfold maxLen at ha2
 obtain ⟨w1, e1, B1, z1, X1⟩ := box_new w #[.int .i64 A, .int .i64 q2, .int .i64 q3, .slice ca cm ck] 25
 obtain ⟨x0, x1, x2, x3, _⟩ := X1.four
 have HB1 := Lib.hid (And.intro B1 X1)
 have HE := Lib.hid e1
 clear hI hc hA hnum hgk hgp hg hk hm hAr hel hins hq2 hq3 ea B1 X1 z1 e1
 go_enter Try.func22, Try.ntmps22
 go_upto_region 1 with fail
 (try rw [HE.out])
 (go_wp2_with fail; go_fit (HC.out _ HB1.out.1); rintro e w2 ⟨rfl, b2⟩)
 have HB2 := Lib.hid (Ext.trans' HB1.out.1 b2)
 replace x0 := cell_later b2 x0
 clear b2
 rcases hbad with hlen | ⟨rfl, hfit⟩
 ·have hlen2 : ((m : Int) == (A : Int)) = false := by simp; omega
  have hlen3 : ((m : Int) != (A : Int)) = true := by simp; omega
  go_wp2
  go_ret3
  exact ⟨rfl, HB2.out⟩
 ·have C := HFIT.out _ HB2.out
  rw [hfit] at C
  clear hfit
  (go_wp2_with fail; go_fit (C); rintro e w2b ⟨rfl, b2b⟩)
  have HB2b := Lib.hid (Ext.trans' HB2.out b2b)
  clear b2b C
  go_wp2
  go_ret3
  exact ⟨rfl, HB2b.out⟩
end
end Go.Proofs.Ytchbbaehdcmcfaa
/- Package code: what makes steps: its map of slots, its state; variable. -/
namespace Go.Proofs.Ytchbbaehdcmcfaa
open Go.RowKit Go.Maps
set_option linter.unusedVariables false
theorem pos_appC {n : Int} (m : List Int) : ∀ {l : List Int}, n ∈ l → posI (l ++ m) n = posI l n
 | x :: r, h => by
  rw [List.cons_append, posI, posI]
  by_cases e : x = n
  ·rw [if_pos e, if_pos e]
  ·rw [if_neg e, if_neg e, pos_appC m (by
    rcases List.mem_cons.1 h with h | h
    ·exact absurd h.symm e
    ·exact h)]
theorem pos_newC {n : Int} : ∀ {l : List Int}, ¬ n ∈ l → posI (l ++ [n]) n = l.length
 | [], _ => by simp [posI]
 | x :: r, h => by
  rw [List.cons_append, posI, if_neg (fun e => h (by simp [e])), pos_newC (fun q => h (by simp [q]))]
  rfl
def SlotM (w : World) (mb : Nat) (l : List Int) : Prop := ∃ D : DataW Unit, w.ownsMap Try.prog 2 (plainElem Try.prog 3) mb l.length D ∧ Tidy D ∧ (∀ v, Maps.has D (.int .i64 v) = true ↔ v ∈ l) ∧ (∀ v, v ∈ l → ∀ z, D.atKey (.int .i64 v) z = .lit (.int .i64 (posI l v : Int))) ∧ Maps.size D = l.length
theorem SlotM.nil (w : World) : SlotM (w.alloc (.map #[] 0)) w.heap.size [] := ⟨.map [], World.ownsMap_made w _ _ _, tidy_empty, fun v => by simp [Maps.has], fun v h => (by cases h), rfl⟩
theorem SlotM.block {w w' : World} {mb : Nat} {l : List Int} (h : SlotM w mb l) (e : w'.heap[mb]? = w.heap[mb]?) : SlotM w' mb l := by
 obtain ⟨D, ⟨es, clock, h1, h2⟩, q⟩ := h
 exact ⟨D, ⟨es, clock, e.trans h1, h2⟩, q⟩
theorem SlotM.lt {w : World} {mb : Nat} {l : List Int} (h : SlotM w mb l) : mb < w.heap.size := by
 obtain ⟨D, q1, _⟩ := h
 exact q1.lt
theorem SlotM.ext {w w' : World} {mb : Nat} {l : List Int} (h : SlotM w mb l) (b : Below w.heap.size w w') : SlotM w' mb l := h.block (b.block mb h.lt)
theorem SlotM.look {w : World} {mb : Nat} {l : List Int} (h : SlotM w mb l) {n : Int} (hn : I64 n) (hm : n ∈ l) : (Instr.lookup 98 (.map (some mb)) (.int .i64 n) false).run Try.prog w = .ok (.int .i64 (posI l n : Int)) w := by
 obtain ⟨D, q1, q2, q3, q4, q5⟩ := h
 obtain ⟨c, hrun, hat, hw⟩ := q1.lookup_int lKeyed Try.underlying98 Try.underlying3 (by kernel_rfl) (lKey hn)
 rw [q4 n hm] at hat
 cases hat
 exact hrun
theorem SlotM.store {w : World} {mb : Nat} {l : List Int} (h : SlotM w mb l) {n : Int} (hn : I64 n) (hl : l.length < 100000) (hm : ¬ n ∈ l) :
  ∃ w', (Instr.mapUpdate 98 (.map (some mb)) (.int .i64 n) (.int .i64 (l.length : Nat))).run Try.prog w = .ok () w' ∧ SlotM w' mb (l ++ [n]) ∧ Touch [mb] w w' := by
 obtain ⟨D, q1, q2, q3, q4, q5⟩ := h
 have hno : Maps.has D (.int .i64 n) = false := by
  cases hh : Maps.has D (.int .i64 n)
  ·rfl
  ·exact absurd ((q3 n).1 hh) hm
 have hzz : I64 ((l.length : Nat) : Int) := by unfold I64; omega
 obtain ⟨w', hrun, ho, ht⟩ := q1.store lKeyed Try.underlying98 (by unfold maxLen; omega) (lKey hn) (plainElem_int Try.underlying3 (wf_i64 hzz))
 refine ⟨w', hrun, ⟨_, by rw [List.length_append]; exact ho, q2.put (by trivial) _, fun u => ?_, fun u hu y => ?_, by rw [size_put q2, hno, q5, List.length_append]; rfl⟩, ?_⟩
 ·by_cases e : u = n
  ·subst e
   rw [has_put_same q2.isMap (by trivial)]
   simp
  ·rw [has_put_other (fun e' => e (by injection e')), q3 u]
   simp [e]
 ·by_cases e : u = n
  ·subst e
   rw [atKey_put_same q2.isMap (by trivial), pos_newC hm]
  ·have hul : u ∈ l := by simpa [e] using hu
   rw [atKey_put_other (fun e' => e (by injection e')), q4 u hul y, pos_appC _ hul]
 ·obtain ⟨g1, g2, g3, g4, g5⟩ := ht.grown
  exact ⟨g1, g2, g3, g4, fun k hk hne => g5 k hk (fun e => hne (by simp at e; simp [e]))⟩
theorem SlotM.count {w : World} {mb : Nat} {l : List Int} (h : SlotM w mb l) (ty : TypeId) : (Builtin.len_ #[98] ty #[.map (some mb)]).run Try.prog w = .ok (.int .i64 (l.length : Nat)) w := by
 obtain ⟨D, q1, q2, q3, q4, q5⟩ := h
 rw [← q5]
 exact q1.len Try.underlying98 ty
structure MkS (B : Nat) (w : World) (mb qb sb S : Nat) (vs : List Int) (vr : Value) (ps : List TmP) (seen : List Int) : Prop where
 box : Box w mb [vr, .map (some qb), .slice (some ⟨sb, 0, none⟩) S S]
 row : RowP w B 31 vr ps
 map : SlotM w qb vs
 bits : ∀ n, n ∈ vs → w.cell? ⟨sb, posI vs n, none⟩ = some (.bool (seen.contains n))
 fz : ∀ j, w.frozen? ⟨sb, j, none⟩ = false
 lt : sb < w.heap.size
 apart : mb ≠ qb ∧ mb ≠ sb ∧ qb ≠ sb ∧ vr.ownBlock ≠ some mb ∧ vr.ownBlock ≠ some qb ∧ vr.ownBlock ≠ some sb
 size : vs.length = S ∧ S ≤ 2000
 own : B ≤ mb ∧ B ≤ qb ∧ B ≤ sb
section
variable {B : Nat} {w w' : World} {mb qb sb S : Nat} {vs : List Int} {vr : Value} {ps : List TmP} {seen : List Int}
theorem RowP.keep {w w' : World} {base : Nat} {ty : TypeId} {v : Value} {ps : List TmP} (h : RowP w base ty v ps) (hb : ∀ k, v.ownBlock = some k → w'.heap[k]? = w.heap[k]?) : RowP w' base ty v ps := owns_row_block h hb
theorem MkS.touch (h : MkS B w mb qb sb S vs vr ps seen) {F : List Nat} (t : Touch F w w') (h1 : ¬ mb ∈ F) (h2 : ¬ qb ∈ F) (h3 : ¬ sb ∈ F) (h4 : ∀ k, vr.ownBlock = some k → ¬ k ∈ F) : MkS B w' mb qb sb S vs vr ps seen :=
 ⟨t.box h1 h.box, h.row.keep (fun k hk => t.block k (h.row.lt k hk).2 (h4 k hk)), h.map.block (t.block _ h.map.lt h2), fun n hn => t.cell h3 (h.bits n hn),
  fun j => by rw [World.frozen?_of_block (t.block sb h.lt h3)]; exact h.fz j, Nat.lt_of_lt_of_le h.lt t.size, h.apart, h.size, h.own⟩
theorem MkS.ext (h : MkS B w mb qb sb S vs vr ps seen) (hb : Below w.heap.size w w') : MkS B w' mb qb sb S vs vr ps seen := h.touch (Touch.of_below hb []) (by simp) (by simp) (by simp) (by simp)
def varIns (seen : List Int) (n : Int) (reg slot : Int) : InsM := ⟨if seen.contains n then opVal else opVar, reg, slot, 0, 0, ⟨#[]⟩⟩
def seenN (seen : List Int) (n : Int) : List Int := if seen.contains n then seen else seen ++ [n]
def VarP (B : Nat) (w : World) (mb qb sb S : Nat) (vs : List Int) (vr : Value) (ps : List TmP) (seen : List Int) (n reg : Int) (e : Ending) (w' : World) : Prop :=
 e = .returned (insVal (varIns seen n reg (posI vs n : Int))) ∧ MkS B w' mb qb sb S vs vr ps (seenN seen n) ∧ Touch [sb] w w'
theorem set6_touch (w : World) (b : Nat) (u0 u1 u2 u3 u4 u5 : Value) : Touch [b] w ((((((w.setCell ⟨b, 0, none⟩ u0).setCell ⟨b, 1, none⟩ u1).setCell ⟨b, 2, none⟩ u2).setCell ⟨b, 3, none⟩ u3).setCell ⟨b, 4, none⟩ u4).setCell ⟨b, 5, none⟩ u5) :=
 ((((((touch_one w b 0 u0).trans (touch_one _ b 1 u1) (fun k hk => Or.inl hk)).trans (touch_one _ b 2 u2) (fun k hk => Or.inl hk)).trans (touch_one _ b 3 u3) (fun k hk => Or.inl hk)).trans (touch_one _ b 4 u4) (fun k hk => Or.inl hk)).trans (touch_one _ b 5 u5) (fun k hk => Or.inl hk))
theorem MkS.lts (h : MkS B w mb qb sb S vs vr ps seen) : mb < w.heap.size ∧ qb < w.heap.size ∧ sb < w.heap.size ∧ ∀ k, vr.ownBlock = some k → k < w.heap.size := ⟨h.box.lt, h.map.lt, h.lt, fun k hk => (h.row.lt k hk).2⟩
theorem MkS.six (h : MkS B w mb qb sb S vs vr ps seen) {w0 : World} {b : Nat} (hw0 : w0.heap.size ≤ b) (hmb : mb < w0.heap.size) (hqb : qb < w0.heap.size) (hsb : sb < w0.heap.size) (hr : ∀ k, vr.ownBlock = some k → k ≠ b) (u0 u1 u2 u3 u4 u5 : Value) :
  MkS B ((((((w.setCell ⟨b, 0, none⟩ u0).setCell ⟨b, 1, none⟩ u1).setCell ⟨b, 2, none⟩ u2).setCell ⟨b, 3, none⟩ u3).setCell ⟨b, 4, none⟩ u4).setCell ⟨b, 5, none⟩ u5) mb qb sb S vs vr ps seen :=
 h.touch (set6_touch w b u0 u1 u2 u3 u4 u5) (by simp; omega) (by simp; omega) (by simp; omega) (fun k hk => by simp; exact hr k hk)
set_option maxHeartbeats 1000000 in
theorem variable_at (h : MkS B w mb qb sb S vs vr ps seen) {n reg : Int} (hn : n ∈ vs) : Calls Try.prog 88 #[.pointer (some ⟨mb, 0, none⟩), .int .i64 reg, .int .i64 (posI vs n : Int)] w (VarP B w mb qb sb S vs vr ps seen n reg) := by
 obtain ⟨w1, e1, B1, z1, X1⟩ := box_new w #[.string ⟨#[]⟩, .int .i64 0, .int .i64 0, .int .i64 0, .int .i64 0, .string ⟨#[]⟩] 36
 have h1 := h.ext B1
 obtain ⟨c0, c1, c2, cf⟩ := h1.box.three
 have hbit := h1.bits n hn
 have hfz := h1.fz
 have hlt := pos_lt hn
 rw [h.size.1] at hlt
 have hS := h.size.2
 have hl := h.lts
 obtain ⟨j, hj⟩ : ∃ j, posI vs n = j := ⟨_, rfl⟩
 have HJ := Lib.hid hj
 obtain ⟨z, hz⟩ : ∃ z, seen.contains n = z := ⟨_, rfl⟩
 have HZ := Lib.hid hz
 unfold VarP
 rw [hj] at hbit hlt ⊢
 rw [hz] at hbit
 have H1 := Lib.hid (And.intro h1 (And.intro X1 B1))
 have HE := Lib.hid e1
 have HL := Lib.hid hl
 have HN := Lib.hid hn
 have y0 := X1.cells 0 _ rfl
 have y1 := X1.cells 1 _ rfl
 have y2 := X1.cells 2 _ rfl
 have y3 := X1.cells 3 _ rfl
 have y4 := X1.cells 4 _ rfl
 have y5 := X1.cells 5 _ rfl
 have yf := X1.fz
 clear h h1 X1 B1 e1 z1 hl hj hz hn
 cases z
 ·have hv : varIns seen n reg (j : Int) = ⟨opVar, reg, (j : Int), 0, 0, ⟨#[]⟩⟩ := by unfold varIns; rw [HZ.out]; rfl
  have hs : seenN seen n = seen ++ [n] := by unfold seenN; rw [HZ.out]; rfl
  rw [hv, hs]
  have hne : w.heap.size ≠ sb := by have := HL.out.2.2.1; omega
  have y0' : (w1.setCell ⟨sb, j, none⟩ (.bool true)).cell? ⟨w.heap.size, 0, none⟩ = some (.string ⟨#[]⟩) := (far_cell hne).trans y0
  have y1' : (w1.setCell ⟨sb, j, none⟩ (.bool true)).cell? ⟨w.heap.size, 1, none⟩ = some (.int .i64 0) := (far_cell hne).trans y1
  have y2' : (w1.setCell ⟨sb, j, none⟩ (.bool true)).cell? ⟨w.heap.size, 2, none⟩ = some (.int .i64 0) := (far_cell hne).trans y2
  have y3' : (w1.setCell ⟨sb, j, none⟩ (.bool true)).cell? ⟨w.heap.size, 3, none⟩ = some (.int .i64 0) := (far_cell hne).trans y3
  have y4' : (w1.setCell ⟨sb, j, none⟩ (.bool true)).cell? ⟨w.heap.size, 4, none⟩ = some (.int .i64 0) := (far_cell hne).trans y4
  have y5' : (w1.setCell ⟨sb, j, none⟩ (.bool true)).cell? ⟨w.heap.size, 5, none⟩ = some (.string ⟨#[]⟩) := (far_cell hne).trans y5
  have HHB := Lib.hid hbit
  clear hv hs
  go_enter Try.func88, Try.ntmps88
  go_upto_region 1 with fail
  (try rw [HE.out])
  go_wp2
  unfold insVal opVar
  refine bodyPost_ret (v := .agg #[.string ⟨#[118, 97, 114]⟩, .int .i64 reg, .int .i64 j, .int .i64 0, .int .i64 0, .string ⟨#[]⟩]) (by rw [results_cell1 rfl]; go_simp) rfl ⟨rfl, ?_, ?_⟩
  ·have hx := H1.out.1
   have hm2 : MkS B (w1.setCell ⟨sb, j, none⟩ (.bool true)) mb qb sb S vs vr ps (seen ++ [n]) := by
    have t := touch_one w1 sb j (.bool true)
    have a := hx.apart
    refine ⟨t.box (by simp; exact a.2.1) hx.box, hx.row.keep (fun k hk => t.block k (hx.row.lt k hk).2 (by simp; exact fun e => a.2.2.2.2.2 (by rw [hk, e]))), hx.map.block (t.block _ hx.map.lt (by simp; exact a.2.2.1)), fun m hm => ?_, fun i => by rw [World.frozen?_setCell]; exact hx.fz i, Nat.lt_of_lt_of_le hx.lt t.size, a, hx.size, hx.own⟩
    by_cases e : m = n
    ·subst e
     rw [HJ.out, contains_app, show (m == m) = true by simp, Bool.or_true]
     exact css HHB.out
    ·have hp : posI vs m ≠ j := fun q => e (pos_inj hm HN.out (by rw [q, HJ.out]))
     rw [near_cell hp, contains_app, show (m == n) = false by simpa using e, Bool.or_false]
     exact hx.bits m hm
   exact hm2.six (w0 := w) (Nat.le_refl _) HL.out.1 HL.out.2.1 HL.out.2.2.1 (fun k hk => by have := HL.out.2.2.2 k hk; omega) _ _ _ _ _ _
  ·exact ((Touch.of_below H1.out.2.2 [sb]).trans (touch_one w1 sb j _) (fun k hk => Or.inl hk)).trans (set6_touch _ w.heap.size _ _ _ _ _ _) (fun k hk => by simp at hk; exact Or.inr (by omega))
 ·have hv : varIns seen n reg (j : Int) = ⟨opVal, reg, (j : Int), 0, 0, ⟨#[]⟩⟩ := by unfold varIns; rw [HZ.out]; rfl
  have hs : seenN seen n = seen := by unfold seenN; rw [HZ.out]; rfl
  rw [hv, hs]
  clear hv hs
  go_enter Try.func88, Try.ntmps88
  go_upto_region 1 with fail
  (try rw [HE.out])
  go_wp2
  unfold insVal opVal
  refine bodyPost_ret (v := .agg #[.string ⟨#[118, 97, 108]⟩, .int .i64 reg, .int .i64 j, .int .i64 0, .int .i64 0, .string ⟨#[]⟩]) (by rw [results_cell1 rfl]; go_simp) rfl ⟨rfl, ?_, ?_⟩
  ·exact H1.out.1.six (w0 := w) (Nat.le_refl _) HL.out.1 HL.out.2.1 HL.out.2.2.1 (fun k hk => by have := HL.out.2.2.2 k hk; omega) _ _ _ _ _ _
  ·exact (Touch.of_below H1.out.2.2 [sb]).trans (set6_touch _ w.heap.size _ _ _ _ _ _) (fun k hk => by simp at hk; exact Or.inr (by omega))
end
end Go.Proofs.Ytchbbaehdcmcfaa
