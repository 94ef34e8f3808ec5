import Derived.Test.YtchbbaehdcmcfaaHsozz
import Derived.Test.YtchbbaehdcmcfaaHsoax
import Derived.Test.YtchbbaehdcmcfaaHsoag
import Derived.Test.YtchbbaehdcmcfaaHsoav
import Derived.Test.YtchbbaehdcmcfaaHsoar
import Derived.Test.YtchbbaehdcmcfaaHsoai
set_option linter.unusedVariables false
set_option linter.unusedSimpArgs false
/- Package code: Head, what it makes lies in new memory. -/
namespace Go.Proofs.Ytchbbaehdcmcfaa
open Go.RowKit
set_option linter.unusedVariables false
set_option linter.unusedSimpArgs false
def HeadS (W : World) (t : Tm) (e : Ending) (w' : World) : Prop :=
 ∃ v, e = .returned (.tuple #[v, .int .i64 (headCE t).2]) ∧ CodeV (hide (under W.heap.size) w') (headCE t).1 v ∧ Below W.heap.size W w'
set_option maxHeartbeats 8000000 in
set_option maxRecDepth 100000 in
theorem headS_at {W : World} {t : Tm} {v : Value} (hv : TmV W t v) : Calls Try.prog 13 #[v] W (HeadS W t) := by
 have HG := Lib.hid (fun (wq : World) (hb : Below W.heap.size W wq) => Good_at t wq _ (TmV.ext hb _ _ hv))
 have HVA := Lib.hid (fun (wq : World) (hb : Below W.heap.size W wq) => Vars_at t wq _ (TmV.ext hb _ _ hv))
 obtain ⟨k, n, s, ts⟩ := t
 obtain ⟨u, rfl, hss, hkk, hnn, hts⟩ := tmV_iff.1 hv
 obtain ⟨a, c, rfl, ha1, ha2, ha3⟩ := hts.len
 unfold maxLen at ha2
 obtain ⟨w1, e1, B1, z1, X1⟩ := box_new W #[.int .i64 k, .int .i64 n, .string s, .slice a ts.length c] 31
 obtain ⟨w2, e2, B2, z2, X2⟩ := box_new w1 #[.int .i64 0, .int .i64 0, .int .i64 0, .slice none 0 0] 25
 have X1 := X1.ext B2
 have B12 := Ext.trans' B1 B2
 rw [z1] at X2
 obtain ⟨x0, x1, x2, x3, _⟩ := X1.four
 have HE := Lib.hid (And.intro e1 e2)
 have HB2 := Lib.hid (And.intro B12 (And.intro X1 X2))
 have HV := Lib.hid hv
 have HTS := Lib.hid hts
 have HZ2 := Lib.hid (show w2.heap.size = W.heap.size + 2 by omega)
 obtain ⟨g, hg⟩ : ∃ g, goodT (.mk k n s ts) = g := ⟨_, rfl⟩
 have C := HG.out w2 B12
 rw [hg] at C
 clear hv hts B1 B2 B12 X1 X2 z1 z2 e1 e2 HG
 have END := Lib.hid (fun (wq : World) (hb : Below W.heap.size W wq) (hno : ¬ (goodT (.mk k n s ts) = true ∧ k = 2)) => (show HeadS W (.mk k n s ts) (.returned (.tuple #[.agg #[.int .i64 0, .int .i64 0, .int .i64 0, .slice none 0 0], .int .i64 1])) (set4 wq (W.heap.size + 1) (.int .i64 0) (.int .i64 0) (.int .i64 0) (.slice none 0 0)) from by
  have e : headCE (.mk k n s ts) = (zeroC, 1) := by unfold headCE; exact if_neg hno
  refine ⟨_, by rw [e], by rw [e]; exact zero_code _, Below.set4 (b := W.heap.size + 1) hb (by omega) _ _ _ _⟩))
 by_cases hgk : g = true ∧ k = 2
 rotate_left
 ·have hno : ¬ (goodT (.mk k n s ts) = true ∧ k = 2) := by rw [hg]; exact hgk
  go_enter Try.func13, Try.ntmps13
  go_upto_region 1 with fail
  (try rw [HE.out.1, HE.out.2])
  (go_wp2_with fail; go_fit (C); rintro e w3 ⟨rfl, b3⟩)
  have HB3 := Lib.hid (Ext.trans' HB2.out.1 b3)
  obtain ⟨r0, r1, r2, r3, rf⟩ := (HB2.out.2.2.ext b3).four
  replace x0 := cell_later b3 x0
  clear b3 C x1 x2 x3
  cases g
  ·go_wp2
   refine bodyPost_ret (v := .tuple #[.agg #[.int .i64 0, .int .i64 0, .int .i64 0, .slice none 0 0], .int .i64 1]) (by rw [results_cell_tmp rfl]; go_simp) rfl ?_
   exact END.out _ HB3.out hno
  ·by_cases hk0 : k = 0
   ·subst hk0
    go_wp2
    refine bodyPost_ret (v := .tuple #[.agg #[.int .i64 0, .int .i64 0, .int .i64 0, .slice none 0 0], .int .i64 1]) (by rw [results_cell_tmp rfl]; go_simp) rfl ?_
    exact END.out _ HB3.out hno
   ·by_cases hk1 : k = 1
    ·subst hk1
     go_wp2
     refine bodyPost_ret (v := .tuple #[.agg #[.int .i64 0, .int .i64 0, .int .i64 0, .slice none 0 0], .int .i64 1]) (by rw [results_cell_tmp rfl]; go_simp) rfl ?_
     exact END.out _ HB3.out hno
    ·exfalso
     rcases formed_kids (good_parts hg).2.2 with h | h | h
     ·exact hk0 h.1
     ·exact hk1 h.1
     ·exact hgk ⟨rfl, h.1⟩
 obtain ⟨rfl, rfl⟩ := hgk
 have hgp := good_parts hg
 have hsz : sizesN ts ≤ 1999 := by have := hgp.1; rw [sizeN] at this; omega
 have hm8 : ts.length ≤ 8 := (plain_kids hgp.2.2 rfl).2
 obtain ⟨qs, ao, c', hsl, hql, hqm, hqa, hbig, hsrc⟩ := HTS.out.pairs
 obtain ⟨hao, hc'⟩ : a = ao ∧ c = c' := by injection hsl with h1 h2 h3; exact ⟨h1, h3⟩
 subst hao hc'
 obtain ⟨m, hm⟩ : ∃ m, ts.length = m := ⟨_, rfl⟩
 obtain ⟨i0, hi0, hz0, hs0, hb0⟩ := info_parts infoTermB
 have HONE := Lib.hid (pCells_one qs hqa)
 have hfl : (qs.flatMap pCells).length = m * 4 := by rw [flat_len pCells_len, hql, hm]
 rw [hm] at hsrc x3 hm8 HE HB2 hql C ⊢
 have HSRC := Lib.hid (fun (wq : World) (hb : Below W.heap.size W wq) => (hsrc.imp id (fun ⟨ad, e, hc⟩ => ⟨ad, e, fun j u hj => cell_later hb (hc j u hj)⟩) : m = 0 ∨ ∃ ad, a = some ad ∧ ∀ j u, (qs.flatMap pCells)[j]? = some u → wq.cell? (ad.add j) = some u))
 have HQ := Lib.hid (And.intro hqm (And.intro hqa (And.intro hql hm)))
 have HGP := Lib.hid (And.intro hg hsz)
 clear hsrc hqm hqa hgp hsl ha1 hbig hm END
 go_enter Try.func13, Try.ntmps13
 go_upto_region 1 with fail
 (try rw [HE.out.1, HE.out.2])
 (go_wp2_with fail; go_fit (C); rintro e w3 ⟨rfl, b3⟩)
 have hb3 := Ext.trans' HB2.out.1 b3
 have HB3 := Lib.hid (And.intro hb3 (And.intro (HB2.out.2.1.ext b3) (HB2.out.2.2.ext b3)))
 have HSZ3 := Lib.hid (show W.heap.size + 2 ≤ w3.heap.size by have := b3.size; have := HZ2.out; omega)
 have hs3 := HSRC.out w3 hb3
 have hWs3 : w2.heap.size ≤ w3.heap.size := b3.size
 have HB23 := Lib.hid b3
 have hmm := @run_makeMap Try.prog
 obtain ⟨x0, x1, x2, x3, _⟩ := HB3.out.2.1.four
 clear b3 C hb3
 go_upto_region 4 with (at_builtin; refine wpList_append_k rfl _ _ 29 rfl w2.heap.size 31 i0 (.agg #[.int .i64 0, .int .i64 0, .string ⟨#[]⟩, .slice none 0 0]) 4 56 Try.underlying29 hi0 hz0 hs0 (by decide) hb0 rfl (.slice none 0 0) 0 [] rfl (World.ownsRow_nil _ _ _ _) a m c (qs.flatMap pCells) rfl hfl hs3 HONE.out (by unfold maxLen; omega) (by omega) hWs3 m (qs.flatMap pCells) (by omega) (by simp) ?_; intro a4 c4 w4 hown4 hgrow4 hat4)
 obtain ⟨w5, e5⟩ : ∃ w5, w4.alloc (.map #[] 0) = w5 := ⟨_, rfl⟩
 have b5 : Below w4.heap.size w4 w5 := by rw [← e5]; exact bel1' _ _
 have hsl5 : SlotM w5 w4.heap.size [] := by rw [← e5]; exact SlotM.nil w4
 have z5 : w5.heap.size = w4.heap.size + 1 := by rw [← e5]; simp
 obtain ⟨w6, e6, b6, z6, X6⟩ := box_new w5 #[.slice a4 m c4, .map (some w4.heap.size), .slice none 0 0] 100
 rw [z5] at X6
 (try rw [e5])
 (try rw [e6])
 have hb34 : Below w3.heap.size w3 w4 := (Below.refl _ _).grown hgrow4 (Nat.le_refl _) (fun q hq => by simp [Value.ownBlock] at hq)
 have hb36 := Ext.trans' (Ext.trans' hb34 b5) b6
 have HX6 := Lib.hid (And.intro hb36 (And.intro X6 (And.intro (hsl5.ext b6) (And.intro hown4 (And.intro (Ext.trans' b5 b6) (And.intro hat4 (And.intro hb34 (And.intro z5 z6))))))))
 clear x0 x1 x2 x3
 obtain ⟨x0, x1, x2, x3, _⟩ := (HB3.out.2.1.ext hb36).four
 clear hown4 hgrow4 hat4 b5 hsl5 b6 X6 hb34 hb36 e5 e6 z5 z6
 have HB6 := Lib.hid (Ext.trans' HB3.out.1 HX6.out.1)
 have C := HVA.out w6 HB6.out
 rw [HGP.out.1, if_pos rfl] at C
 rw [HQ.out.2.2.2] at C
 (go_wp2_with fail; go_fit (C); rintro e w7 ⟨rv, rfl, hnums, b7⟩)
 obtain ⟨ra, rc, rfl, hrc1, hrc2⟩ := hnums.len
 unfold maxLen at hrc2
 obtain ⟨vs, hvs⟩ : ∃ vs, varsT (.mk 2 n s ts) [] = vs := ⟨_, rfl⟩
 have hnd : vs.Nodup := by rw [← hvs]; exact vars_nodup _ _ List.nodup_nil
 have hvl : vs.length ≤ 2000 := by rw [← hvs]; exact vars_le HGP.out.1
 rw [hvs] at hnums hrc1
 rw [hvs]
 obtain ⟨S, hS⟩ : ∃ S, vs.length = S := ⟨_, rfl⟩
 rw [hS] at hrc1 hnums hvl
 rw [hS]
 have HVS := Lib.hid (And.intro hvs (And.intro hnd hS))
 have HB67 := Lib.hid b7
 have hb6 := HX6.out
 have HX7 := Lib.hid (And.intro (Ext.trans' HX6.out.1 b7) (And.intro (HX6.out.2.1.ext b7) (And.intro (HX6.out.2.2.1.ext b7) (And.intro hnums (Ext.trans' HB6.out b7)))))
 have HI0 := Lib.hid (And.intro (show SlotM w7 w4.heap.size (vs.take 0) from HX7.out.2.2.1) (Touch.refl' [w4.heap.size] w7))
 have HI64 := Lib.hid (fun x hx => (by
  have h1 := hx
  rw [← hvs] at h1
  exact occ_i64 _ _ HV.out x (((mem_vars2 _ []).1 h1).elim (fun h => by cases h) id) : I64 x) : ∀ x ∈ vs, I64 x)
 clear hvs hnd hS hnums b7 C x0 x1 x2 x3 hb6
 go_wp2_with fail
 go_loopw [31, 5, 6] (fun v _ _ wr => ∃ i : Nat, i ≤ S ∧ v = .int .i64 i ∧ Hid (SlotM wr w4.heap.size (vs.take i) ∧ Touch [w4.heap.size] w7 wr)) (fun v _ _ _ => S - (RowKit.intOf v).toNat)
 case atStart => exact ⟨0, Nat.zero_le _, rfl, HI0⟩
 case round =>
  obtain ⟨i, hi, rfl, HI⟩ := hrel
  have hmb : ¬ w4.heap.size + 1 ∈ [w4.heap.size] := by simp
  obtain ⟨g0, g1, g2, gf⟩ := (HI.out.2.box hmb HX7.out.2.1).three
  by_cases hil : i < S
  ·obtain ⟨x, hx⟩ : ∃ x, vs[i]? = some x := ⟨_, List.getElem?_eq_getElem (by rw [HVS.out.2.2]; exact hil)⟩
   obtain ⟨nb, no, rfl, hnb, hcell⟩ := HX7.out.2.2.2.1.get hx
   have hcw := HI.out.2.cell (fun hm => HX7.out.2.2.1.cell_ne hcell (List.mem_singleton.1 hm)) hcell
   have hxm := List.mem_of_getElem? hx
   obtain ⟨w8, hrun, hsl8, ht8⟩ := HI.out.1.store (HI64.out x hxm) (by rw [List.length_take]; omega) (nodup_take HVS.out.2.1 hx)
   rw [List.length_take, Nat.min_eq_left (by rw [HVS.out.2.2]; omega)] at hrun
   have H8 := Lib.hid (show SlotM w8 w4.heap.size (vs.take (i + 1)) ∧ Touch [w4.heap.size] w7 w8 from ⟨by
    rw [List.take_add_one, hx]; exact hsl8, HI.out.2.trans ht8 (fun k hk => Or.inl hk)⟩)
   clear hx hnb hcell hxm hsl8 ht8 HI
   go_wp2
   go_roundw
   case rel => exact ⟨i + 1, by omega, by go_num, H8⟩
   case measure => simp [RowKit.intOf]; omega
  ·have him : i = S := by omega
   subst him
   have hsl := HI.out.1
   rw [List.take_of_length_le (by rw [HVS.out.2.2]; exact Nat.le_refl _)] at hsl
   have ht := HI.out.2
   have hbx := ht.box hmb HX7.out.2.1
   have hcnt := fun ty => hsl.count ty
   rw [HVS.out.2.2] at hcnt
   have HK9 := make_bools i (by omega) wr
   obtain ⟨w9, e9, b9, z9, X9⟩ := box_new wr (madeCells #[.bool false] i) 4
   have hbits := fun j hj => bool_cell wr i j hj
   rw [e9] at hbits
   have HX9 := Lib.hid (And.intro (hbx.ext b9) (And.intro (hsl.ext b9) (And.intro X9 (And.intro hbits (And.intro (ht.trans (Touch.of_below b9 [w4.heap.size]) (fun k hk => Or.inl hk)) z9)))))
   have hmbr : w4.heap.size + 1 < wr.heap.size := hbx.lt
   obtain ⟨k0, k1, k2, kf⟩ := (hbx.ext b9).three
   have HSL := Lib.hid hsl
   clear hbits b9 X9 z9 hsl ht hbx HI
   go_upto_region 10 with fail
   have hmk : MkS w2.heap.size (w9.setCell ⟨w4.heap.size + 1, 2, none⟩ (.slice (some ⟨wr.heap.size, 0, none⟩) i i)) (w4.heap.size + 1) w4.heap.size wr.heap.size i vs (.slice a4 m c4) qs [] := by
    have h9 := HX9.out
    have t10 := touch_one w9 (w4.heap.size + 1) 2 (.slice (some ⟨wr.heap.size, 0, none⟩) i i)
    have t47 : Touch [] w4 w7 := Touch.of_below (Ext.trans' HX6.out.2.2.2.2.1 HB67.out) _
    have t49 : Touch [] w4 w9 := t47.trans h9.2.2.2.2.1 (fun k hk => Or.inr (by have := List.mem_singleton.1 hk; omega))
    have t4 : Touch [] w4 (w9.setCell ⟨w4.heap.size + 1, 2, none⟩ (.slice (some ⟨wr.heap.size, 0, none⟩) i i)) := t49.trans t10 (fun k hk => Or.inr (by have := List.mem_singleton.1 hk; omega))
    have ho : RowP w4 w2.heap.size 31 (.slice a4 m c4) qs := by have := HX6.out.2.2.2.1; unfold RowP; rw [HQ.out.2.2.1]; exact this
    have hlt := fun k hk => (ho.lt k hk).2
    have hsz := HB23.out.size
    have h34 := HX6.out.2.2.2.2.2.2.1.size
    refine ⟨h9.1.set (k := 2) (u := .slice (some ⟨wr.heap.size, 0, none⟩) i i) (by simp), ho.keep (fun k hk => t4.block k (hlt k hk) (by simp)), h9.2.1.block (t10.block _ h9.2.1.lt (by simp)), fun x hx => ?_, fun j => by rw [World.frozen?_setCell]; exact h9.2.2.1.fz j, Nat.lt_of_lt_of_le h9.2.2.1.lt t10.size, ⟨by omega, by omega, by omega, fun e => by have := hlt _ e; omega, fun e => by have := hlt _ e; omega, fun e => by have := hlt _ e; omega⟩, ⟨HVS.out.2.2, hvl⟩, by omega, by omega, by omega⟩
    rw [far_cell (by omega)]
    have hp := pos_lt hx
    rw [HVS.out.2.2] at hp
    exact h9.2.2.2.1 _ hp
   have hb10 : Below w2.heap.size w2 (w9.setCell ⟨w4.heap.size + 1, 2, none⟩ (.slice (some ⟨wr.heap.size, 0, none⟩) i i)) := by
    have hsz := HB23.out.size
    have h34 := HX6.out.2.2.2.2.2.2.1.size
    have hb37 := HX7.out.1
    have hb27 : Below w2.heap.size w2 w7 := Ext.trans' HB23.out hb37
    exact (hb27.trans (HX9.out.2.2.2.2.1.below hb27.size (fun k hk => by have := List.mem_singleton.1 hk; omega))).trans ((touch_one w9 (w4.heap.size + 1) 2 _).below (Nat.le_trans hb27.size HX9.out.2.2.2.2.1.size) (fun k hk => by have := List.mem_singleton.1 hk; omega))
   obtain ⟨w10, hw10⟩ : ∃ w10, w9.setCell ⟨w4.heap.size + 1, 2, none⟩ (.slice (some ⟨wr.heap.size, 0, none⟩) i i) = w10 := ⟨_, rfl⟩
   rw [hw10] at hmk hb10 ⊢
   clear hw10 k0 k1 k2 kf hcnt HK9 g0 g1 g2 gf e9
   obtain ⟨k0, k1, k2, kf⟩ := hmk.box.three
   obtain ⟨x0, x1, x2, x3, _⟩ := (HB2.out.2.1.ext hb10).four
   have hcnt := fun ty => hmk.map.count ty
   rw [HVS.out.2.2] at hcnt
   go_upto_region 11 with fail
   obtain ⟨w11, e11, b11, z11, X11⟩ := box_new w10 #[.int .i64 m, .int .i64 i, .int .i64 0, .slice none 0 0] 25
   obtain ⟨cb, hcb⟩ : ∃ cb, w10.heap.size = cb := ⟨_, rfl⟩
   rw [hcb] at X11
   have HI0 := Lib.hid (show HdS w2 (.mk 2 n s ts) (w4.heap.size + 1) w4.heap.size wr.heap.size cb i m vs 0 w11 (.slice a4 m c4) (.slice none 0 0) qs [] [] from
    ⟨hmk.ext b11, X11, World.ownsRow_nil _ _ _ _, rfl, ⟨sizesN ts, ts, by
     show (headC (.mk 2 n s ts)).l = [] ++ _
     rw [List.nil_append, HQ.out.2.2.1]
     unfold headC
     show flatI (varsT (.mk 2 n s ts) []) (sizesN ts) ts 0 ts.length [] = _
     rw [HVS.out.1, HQ.out.2.2.2], by rw [List.drop_zero]; exact HQ.out.1, by rw [HQ.out.2.2.1, Nat.zero_add, HQ.out.2.2.2], Nat.le_refl _, formed_argsL (good_parts HGP.out.1).2.2, fun x hx => by
      rw [← HVS.out.1, mem_vars2]
      exact Or.inr ((occ_kids (good_parts HGP.out.1).2.2).2 (Or.inr hx))⟩, fun p hp => TmV.ext HB2.out.1 _ _ (HQ.out.2.1 p hp), fun x hx => (by cases hx), Ext.trans' hb10 b11,
     ⟨by rw [← hcb]; have := hmk.lts.1; omega, by rw [← hcb]; have := hmk.lts.2.1; omega, by rw [← hcb]; have := hmk.lts.2.2.1; omega, fun e => by have := hmk.lts.2.2.2 _ e; omega⟩, ⟨by simp [Value.ownBlock], by simp [Value.ownBlock], by simp [Value.ownBlock], by simp [Value.ownBlock], fun k hk => by simp [Value.ownBlock] at hk⟩, by rw [← hcb]; exact hb10.size⟩)
   rw [e11]
   rw [hcb]
   clear e11 b11 z11 X11 hmk hb10 k0 k1 k2 kf x0 x1 x2 x3 hcnt HX9
   obtain ⟨mb, hmbe⟩ : ∃ mb, w4.heap.size + 1 = mb := ⟨_, rfl⟩
   obtain ⟨qb, hqbe⟩ : ∃ qb, w4.heap.size = qb := ⟨_, rfl⟩
   obtain ⟨sb, hsbe⟩ : ∃ sb, wr.heap.size = sb := ⟨_, rfl⟩
   rw [hmbe, hqbe, hsbe] at HI0
   rw [hmbe]
   have HLL := Lib.hid (show (headC (.mk 2 n s ts)).l.length = sizesN ts from cflat_size _ _ _ _ _ _ (Nat.le_refl _))
   obtain ⟨i6, hi6, hz6, hs6, hb6⟩ := info_parts (show (Try.prog.info? 36).map (fun i => (i.zero, i.size, i.bytes)) = some (some (.agg #[.string ⟨#[]⟩, .int .i64 0, .int .i64 0, .int .i64 0, .int .i64 0, .string ⟨#[]⟩]), 6, 64) by kernel_rfl)
   clear hmbe hqbe hsbe hcb HX7 HX6 HSL HB67 HI64 HB6 HB3 hmb hmbr
   have hS6 := HI0.out.mks.size.2
   go_wp2_with fail
   go_loopw [8] (fun v w12 => ∃ j vr vl ps seen done, v = .int .i64 (j : Nat) ∧ Hid (HdS w2 (.mk 2 n s ts) mb qb sb cb i m vs j w12 vr vl ps seen done) ∧ j ≤ 2000) (fun v _ => 2000 - (RowKit.intOf v).toNat)
   case atStart => exact ⟨0, _, _, _, _, _, rfl, HI0, by omega⟩
   case round =>
    obtain ⟨j, vr, vl, ps, seen, done, rfl, HI, hj⟩ := hrel
    have h := HI.out
    obtain ⟨vra, vrc, hvr, hvrl⟩ := row_formk h.mks.row
    obtain ⟨vla, vlc, hvl, hvll⟩ := row_formk h.lrow
    subst hvr hvl
    obtain ⟨k0, k1, k2, kf⟩ := h.mks.box.three
    obtain ⟨d0, d1, d2, d3, df⟩ := h.cbox.four
    by_cases hil : j < ps.length
    ·obtain ⟨p, hp⟩ : ∃ p, ps[j]? = some p := ⟨_, List.getElem?_eq_getElem hil⟩
     obtain ⟨q1, q2, q3, q3', q4⟩ := h.pure_next hp
     have hsz9 := HGP.out.2
     rw [HLL.out] at q3 q3'
     have HM := Lib.hid (fun (wq : World) (hb : Below wr.heap.size wr wq) => mstep_at (W := w2) (h.mks.ext hb) (Ext.trans' h.bel hb) hp (h.tm p (List.mem_of_getElem? hp)) q1 q2 (by omega))
     have HP := Lib.hid (And.intro hp q4)
     obtain ⟨L, hL⟩ : ∃ L, ps.length = L := ⟨_, rfl⟩
     rw [hL] at k0 hil
     have HL := Lib.hid hL
     clear q1 q2 q4 hp h hL
     go_upto_region 14 with fail
     refine wp_region_held_drew (S := fun _ => True) (by kernel_rfl) trivial (fun hHeld => ?_)
     first | (refine held_t (i := 0) hHeld ?_; constructor; constructor; intro wq hq; focus ((try dsimp only at hq); go_simp; first | done | with_reducible rfl | fail)) | refine held_s (i := 0) hHeld ?_ | fail
     first | (refine held_t (i := 2) hHeld ?_; constructor; constructor; intro wq hq; focus ((try dsimp only at hq); go_simp; first | done | with_reducible rfl | fail)) | refine held_s (i := 2) hHeld ?_ | fail
     try simp only [Act.put, lay4]
     refine wpAnyH_ready (rs := [1, 3]) (by kernel_rfl) (by simp) ?_
     refine AllReadyH.cons (by simp only [ops3]; rfl) (fun K hK => ?_) (AllReadyH.cons (by simp only [ops3]; rfl) (fun K hK => ?_) AllReadyH.nil)
     ·go_simp
      skip
      refine hK.out _ _ (trivial) (fun hHeld => ?_)
      clear hK K
      try simp only [Act.put, lay4]
      refine held_c 3 fun K hK => ?_
      go_simp
      (go_at_call 55; refine (HM.out _ (Below.refl _ _).drew).mono ?_; rintro e w5 ⟨vr', qs', he, m5, hq1, hq2, t5, hv5⟩; obtain ⟨x, hx⟩ : ∃ x, stepI vs seen j ps.length p.1 = x := ⟨_, rfl⟩; rw [hx] at he; obtain ⟨xo, xa, xb, xc, xn, xs⟩ := x; unfold insVal at he; subst he; have H5 := Lib.hid (And.intro m5 (And.intro hq1 (And.intro hq2 (And.intro t5 (And.intro hv5 hx))))); have hcb5 := t5.box (by have f := HI.out.far; simp; exact ⟨f.1, f.2.2.1, f.2.2.2⟩) (HI.out.cbox.ext (Below.refl _ _).drew); have HCB5 := Lib.hid hcb5; have HROW := Lib.hid (owns_row_block (w := wr.drew) (w' := w5) HI.out.lrow (fun k hk => t5.block k (HI.out.lrow.lt k hk).2 (by have fl := HI.out.farl; simp only [List.mem_cons, Option.mem_toList, not_or]; exact ⟨fun e => fl.1 (by rw [hk, e]), fun e => fl.2.2.1 (by rw [hk, e]), fun e => fl.2.2.2.2 k hk e⟩))); have hs5 : w2.heap.size ≤ w5.heap.size := (Nat.le_trans HI.out.bel.size t5.size); have e3 := hcb5.four.2.2.2.1; have e3' := (cell_later (bel1' w5 (.cells #[.string xo, .int .i64 xa, .int .i64 xb, .int .i64 xc, .int .i64 xn, .string xs] 36)) e3); clear m5 hq1 hq2 t5 hv5 hcb5 hx)
      refine hK.out _ _ (trivial) (fun hHeld => ?_)
      clear hK K
      try simp only [Act.put, lay4]
      refine held_c 4 fun K hK => ?_
      go_simp
      skip
      refine hK.out _ _ (trivial) (fun hHeld => ?_)
      clear hK K
      try simp only [Act.put, lay4]
      refine held_c 5 fun K hK => ?_
      (refine step_append_k (by rfl) _ _ 23 (by rfl) w2.heap.size 36 i6 (.agg #[.string ⟨#[]⟩, .int .i64 0, .int .i64 0, .int .i64 0, .int .i64 0, .string ⟨#[]⟩]) 6 64 Try.underlying23 hi6 hz6 hs6 (by decide) hb6 rfl (.slice vla j vlc) j (done.flatMap insCells) (by rfl) (HROW.out.alloc _) (some ⟨w5.heap.size, 0, none⟩) 1 1 [.string xo, .int .i64 xa, .int .i64 xb, .int .i64 xc, .int .i64 xn, .string xs] (by rfl) (by rfl) (Or.inr ⟨_, rfl, fun q u' hu' => cell_new w5 #[.string xo, .int .i64 xa, .int .i64 xb, .int .i64 xc, .int .i64 xn, .string xs] _ q u' hu'⟩) (by simp [Value.oneCell']) (by unfold maxLen; omega) (by omega) (by simp; omega) (j + 1) ((done ++ [(⟨xo, xa, xb, xc, xn, xs⟩ : InsM)]).flatMap insCells) rfl (by simp [insCells]) ?_; intro a7 c7 w7 hown7 hgrow7 hat7; have HG7 := Lib.hid (And.intro hown7 (And.intro hgrow7 hat7)); have hcb7 := (HCB5.out.ext (bel1' w5 (.cells #[.string xo, .int .i64 xa, .int .i64 xb, .int .i64 xc, .int .i64 xn, .string xs] 36))).block (hgrow7.block cb (by have := HCB5.out.lt; simp; omega) (fun e => HI.out.farl.2.2.2.1 e.symm)) (Nat.lt_of_lt_of_le (by have := HCB5.out.lt; simp; omega) hgrow7.size); obtain ⟨f0, f1, f2, f3, ff⟩ := hcb7.four; clear hown7 hgrow7 hat7 hcb7)
      refine hK.out _ _ (trivial) (fun hHeld => ?_)
      clear hK K
      try simp only [Act.put, lay4]
      first | (refine held_t (i := 6) hHeld ?_; constructor; constructor; intro wq hq; focus ((try dsimp only at hq); go_simp; first | done | with_reducible rfl | fail)) | refine held_s (i := 6) hHeld ?_ | fail
      try simp only [Act.put, lay4]
      refine held_c 7 fun K hK => ?_
      go_simp
      skip
      refine hK.out _ _ (trivial) (fun hHeld => ?_)
      clear hK K
      try simp only [Act.put, lay4]
      refine wpAnyH_done (by kernel_rfl) ?_ _
      have HN := Lib.hid (HI.out.next (qs := qs') HP.out.1 H5.out.1 H5.out.2.1 H5.out.2.2.1 ((Touch.of_below (Below.refl _ _).drew _).trans H5.out.2.2.2.1 (fun k hk => Or.inl hk)) H5.out.2.2.2.2.1 (bel1' w5 (.cells #[.string xo, .int .i64 xa, .int .i64 xb, .int .i64 xc, .int .i64 xn, .string xs] 36)) (vl' := .slice a7 (j + 1) c7) (by rw [H5.out.2.2.2.2.2]; exact HG7.out.1) HG7.out.2.1 HG7.out.2.2 (by have := HVS.out.2.2; omega) (by rw [HLL.out]; omega))
      clear hHeld e3 e3' f0 f1 f2 f3 ff k0 k1 k2 kf d0 d1 d2 d3 df hs5
      go_wp2
      go_roundw
      case rel => exact ⟨j + 1, _, _, _, _, _, by go_num, HN, by omega⟩
      case measure => simp [RowKit.intOf]; omega
     ·go_simp
      (go_at_call 55; refine (HM.out _ (Below.refl _ _).drew).mono ?_; rintro e w5 ⟨vr', qs', he, m5, hq1, hq2, t5, hv5⟩; obtain ⟨x, hx⟩ : ∃ x, stepI vs seen j ps.length p.1 = x := ⟨_, rfl⟩; rw [hx] at he; obtain ⟨xo, xa, xb, xc, xn, xs⟩ := x; unfold insVal at he; subst he; have H5 := Lib.hid (And.intro m5 (And.intro hq1 (And.intro hq2 (And.intro t5 (And.intro hv5 hx))))); have hcb5 := t5.box (by have f := HI.out.far; simp; exact ⟨f.1, f.2.2.1, f.2.2.2⟩) (HI.out.cbox.ext (Below.refl _ _).drew); have HCB5 := Lib.hid hcb5; have HROW := Lib.hid (owns_row_block (w := wr.drew) (w' := w5) HI.out.lrow (fun k hk => t5.block k (HI.out.lrow.lt k hk).2 (by have fl := HI.out.farl; simp only [List.mem_cons, Option.mem_toList, not_or]; exact ⟨fun e => fl.1 (by rw [hk, e]), fun e => fl.2.2.1 (by rw [hk, e]), fun e => fl.2.2.2.2 k hk e⟩))); have hs5 : w2.heap.size ≤ w5.heap.size := (Nat.le_trans HI.out.bel.size t5.size); have e3 := hcb5.four.2.2.2.1; have e3' := (cell_later (bel1' w5 (.cells #[.string xo, .int .i64 xa, .int .i64 xb, .int .i64 xc, .int .i64 xn, .string xs] 36)) e3); clear m5 hq1 hq2 t5 hv5 hcb5 hx)
      refine hK.out _ _ (trivial) (fun hHeld => ?_)
      clear hK K
      try simp only [Act.put, lay4]
      refine wpAnyH_ready (rs := [1, 4]) (by kernel_rfl) (by simp) ?_
      refine AllReadyH.cons (by simp only [ops3]; rfl) (fun K hK => ?_) (AllReadyH.cons (by simp only [ops3]; rfl) (fun K hK => ?_) AllReadyH.nil)
      ·go_simp
       skip
       refine hK.out _ _ (trivial) (fun hHeld => ?_)
       clear hK K
       try simp only [Act.put, lay4]
       refine held_c 4 fun K hK => ?_
       go_simp
       skip
       refine hK.out _ _ (trivial) (fun hHeld => ?_)
       clear hK K
       try simp only [Act.put, lay4]
       refine held_c 5 fun K hK => ?_
       (refine step_append_k (by rfl) _ _ 23 (by rfl) w2.heap.size 36 i6 (.agg #[.string ⟨#[]⟩, .int .i64 0, .int .i64 0, .int .i64 0, .int .i64 0, .string ⟨#[]⟩]) 6 64 Try.underlying23 hi6 hz6 hs6 (by decide) hb6 rfl (.slice vla j vlc) j (done.flatMap insCells) (by rfl) (HROW.out.alloc _) (some ⟨w5.heap.size, 0, none⟩) 1 1 [.string xo, .int .i64 xa, .int .i64 xb, .int .i64 xc, .int .i64 xn, .string xs] (by rfl) (by rfl) (Or.inr ⟨_, rfl, fun q u' hu' => cell_new w5 #[.string xo, .int .i64 xa, .int .i64 xb, .int .i64 xc, .int .i64 xn, .string xs] _ q u' hu'⟩) (by simp [Value.oneCell']) (by unfold maxLen; omega) (by omega) (by simp; omega) (j + 1) ((done ++ [(⟨xo, xa, xb, xc, xn, xs⟩ : InsM)]).flatMap insCells) rfl (by simp [insCells]) ?_; intro a7 c7 w7 hown7 hgrow7 hat7; have HG7 := Lib.hid (And.intro hown7 (And.intro hgrow7 hat7)); have hcb7 := (HCB5.out.ext (bel1' w5 (.cells #[.string xo, .int .i64 xa, .int .i64 xb, .int .i64 xc, .int .i64 xn, .string xs] 36))).block (hgrow7.block cb (by have := HCB5.out.lt; simp; omega) (fun e => HI.out.farl.2.2.2.1 e.symm)) (Nat.lt_of_lt_of_le (by have := HCB5.out.lt; simp; omega) hgrow7.size); obtain ⟨f0, f1, f2, f3, ff⟩ := hcb7.four; clear hown7 hgrow7 hat7 hcb7)
       refine hK.out _ _ (trivial) (fun hHeld => ?_)
       clear hK K
       try simp only [Act.put, lay4]
       first | (refine held_t (i := 6) hHeld ?_; constructor; constructor; intro wq hq; focus ((try dsimp only at hq); go_simp; first | done | with_reducible rfl | fail)) | refine held_s (i := 6) hHeld ?_ | fail
       try simp only [Act.put, lay4]
       refine held_c 7 fun K hK => ?_
       go_simp
       skip
       refine hK.out _ _ (trivial) (fun hHeld => ?_)
       clear hK K
       try simp only [Act.put, lay4]
       refine wpAnyH_done (by kernel_rfl) ?_ _
       have HN := Lib.hid (HI.out.next (qs := qs') HP.out.1 H5.out.1 H5.out.2.1 H5.out.2.2.1 ((Touch.of_below (Below.refl _ _).drew _).trans H5.out.2.2.2.1 (fun k hk => Or.inl hk)) H5.out.2.2.2.2.1 (bel1' w5 (.cells #[.string xo, .int .i64 xa, .int .i64 xb, .int .i64 xc, .int .i64 xn, .string xs] 36)) (vl' := .slice a7 (j + 1) c7) (by rw [H5.out.2.2.2.2.2]; exact HG7.out.1) HG7.out.2.1 HG7.out.2.2 (by have := HVS.out.2.2; omega) (by rw [HLL.out]; omega))
       clear hHeld e3 e3' f0 f1 f2 f3 ff k0 k1 k2 kf d0 d1 d2 d3 df hs5
       go_wp2
       go_roundw
       case rel => exact ⟨j + 1, _, _, _, _, _, by go_num, HN, by omega⟩
       case measure => simp [RowKit.intOf]; omega
      ·go_simp
       skip
       refine hK.out _ _ (trivial) (fun hHeld => ?_)
       clear hK K
       try simp only [Act.put, lay4]
       refine held_c 1 fun K hK => ?_
       go_simp
       skip
       refine hK.out _ _ (trivial) (fun hHeld => ?_)
       clear hK K
       try simp only [Act.put, lay4]
       refine held_c 5 fun K hK => ?_
       (refine step_append_k (by rfl) _ _ 23 (by rfl) w2.heap.size 36 i6 (.agg #[.string ⟨#[]⟩, .int .i64 0, .int .i64 0, .int .i64 0, .int .i64 0, .string ⟨#[]⟩]) 6 64 Try.underlying23 hi6 hz6 hs6 (by decide) hb6 rfl (.slice vla j vlc) j (done.flatMap insCells) (by rfl) (HROW.out.alloc _) (some ⟨w5.heap.size, 0, none⟩) 1 1 [.string xo, .int .i64 xa, .int .i64 xb, .int .i64 xc, .int .i64 xn, .string xs] (by rfl) (by rfl) (Or.inr ⟨_, rfl, fun q u' hu' => cell_new w5 #[.string xo, .int .i64 xa, .int .i64 xb, .int .i64 xc, .int .i64 xn, .string xs] _ q u' hu'⟩) (by simp [Value.oneCell']) (by unfold maxLen; omega) (by omega) (by simp; omega) (j + 1) ((done ++ [(⟨xo, xa, xb, xc, xn, xs⟩ : InsM)]).flatMap insCells) rfl (by simp [insCells]) ?_; intro a7 c7 w7 hown7 hgrow7 hat7; have HG7 := Lib.hid (And.intro hown7 (And.intro hgrow7 hat7)); have hcb7 := (HCB5.out.ext (bel1' w5 (.cells #[.string xo, .int .i64 xa, .int .i64 xb, .int .i64 xc, .int .i64 xn, .string xs] 36))).block (hgrow7.block cb (by have := HCB5.out.lt; simp; omega) (fun e => HI.out.farl.2.2.2.1 e.symm)) (Nat.lt_of_lt_of_le (by have := HCB5.out.lt; simp; omega) hgrow7.size); obtain ⟨f0, f1, f2, f3, ff⟩ := hcb7.four; clear hown7 hgrow7 hat7 hcb7)
       refine hK.out _ _ (trivial) (fun hHeld => ?_)
       clear hK K
       try simp only [Act.put, lay4]
       first | (refine held_t (i := 6) hHeld ?_; constructor; constructor; intro wq hq; focus ((try dsimp only at hq); go_simp; first | done | with_reducible rfl | fail)) | refine held_s (i := 6) hHeld ?_ | fail
       try simp only [Act.put, lay4]
       refine held_c 7 fun K hK => ?_
       go_simp
       skip
       refine hK.out _ _ (trivial) (fun hHeld => ?_)
       clear hK K
       try simp only [Act.put, lay4]
       refine wpAnyH_done (by kernel_rfl) ?_ _
       have HN := Lib.hid (HI.out.next (qs := qs') HP.out.1 H5.out.1 H5.out.2.1 H5.out.2.2.1 ((Touch.of_below (Below.refl _ _).drew _).trans H5.out.2.2.2.1 (fun k hk => Or.inl hk)) H5.out.2.2.2.2.1 (bel1' w5 (.cells #[.string xo, .int .i64 xa, .int .i64 xb, .int .i64 xc, .int .i64 xn, .string xs] 36)) (vl' := .slice a7 (j + 1) c7) (by rw [H5.out.2.2.2.2.2]; exact HG7.out.1) HG7.out.2.1 HG7.out.2.2 (by have := HVS.out.2.2; omega) (by rw [HLL.out]; omega))
       clear hHeld e3 e3' f0 f1 f2 f3 ff k0 k1 k2 kf d0 d1 d2 d3 df hs5
       go_wp2
       go_roundw
       case rel => exact ⟨j + 1, _, _, _, _, _, by go_num, HN, by omega⟩
       case measure => simp [RowKit.intOf]; omega
    ·have him : j = ps.length := by
      obtain ⟨K, q, h1, h2, h3, h4, h5, h6⟩ := h.pure
      have h9 : ps.length = j + q.length := h3
      omega
     obtain ⟨hdn, hpl⟩ : (headC (.mk 2 n s ts)).l = done ∧ ps.length = sizesN ts := by
      obtain ⟨K, q, h1, h2, h3, h4, h5, h6⟩ := h.pure
      have hq : q = [] := by
       have : q.length = 0 := by omega
       exact List.length_eq_zero_iff.1 this
      rw [hq] at h1
      have hfl : flatI vs K [] j ps.length seen = [] := by cases K <;> rw [flatI]
      rw [hfl, List.append_nil] at h1
      exact ⟨h1, by rw [← HLL.out, h1, h.len, him]⟩
     have hr2 := (HB2.out.2.2.ext h.bel)
     obtain ⟨r0, r1, r2, r3, rf⟩ := hr2.four
     have hcbn : W.heap.size + 1 ≠ cb := by have := h.cown; have := HZ2.out; omega
     have r0' : (wr.setCell ⟨cb, 2, none⟩ (.int .i64 (ps.length : Nat))).cell? ⟨W.heap.size + 1, 0, none⟩ = some (.int .i64 0) := (far_cell hcbn).trans r0
     have r1' : (wr.setCell ⟨cb, 2, none⟩ (.int .i64 (ps.length : Nat))).cell? ⟨W.heap.size + 1, 1, none⟩ = some (.int .i64 0) := (far_cell hcbn).trans r1
     have r2' : (wr.setCell ⟨cb, 2, none⟩ (.int .i64 (ps.length : Nat))).cell? ⟨W.heap.size + 1, 2, none⟩ = some (.int .i64 0) := (far_cell hcbn).trans r2
     have r3' : (wr.setCell ⟨cb, 2, none⟩ (.int .i64 (ps.length : Nat))).cell? ⟨W.heap.size + 1, 3, none⟩ = some (.slice none 0 0) := (far_cell hcbn).trans r3
     have hbx8 := h.cbox.set (k := 2) (u := .int .i64 (ps.length : Nat)) (by simp)
     obtain ⟨d0', d1', d2', d3', df'⟩ := (show Box (wr.setCell ⟨cb, 2, none⟩ (.int .i64 (ps.length : Nat))) cb [.int .i64 m, .int .i64 i, .int .i64 (ps.length : Nat), .slice vla j vlc] from hbx8).four
     have hce : headCE (.mk 2 n s ts) = (headC (.mk 2 n s ts), 0) := by unfold headCE; exact if_pos ⟨HGP.out.1, rfl⟩
     have HCE := Lib.hid (And.intro hce (And.intro hdn (And.intro hpl him)))
     clear hce hdn hpl hr2 hbx8
     subst him
     clear r0 r1 r2 r3 hil
     go_wp2
     refine bodyPost_ret (v := .tuple #[.agg #[.int .i64 m, .int .i64 i, .int .i64 (ps.length : Nat), .slice vla ps.length vlc], .int .i64 0]) (by rw [results_cell_tmp rfl]; go_simp) rfl ?_
     have hW2 := Ext.trans' HB2.out.1 h.bel
     have t8 := touch_one wr cb 2 (.int .i64 (ps.length : Nat))
     have hb8 : Below W.heap.size W (wr.setCell ⟨cb, 2, none⟩ (.int .i64 (ps.length : Nat))) := hW2.trans (t8.below hW2.size (fun k hk => by have := List.mem_singleton.1 hk; have := h.cown; have := HZ2.out; omega))
     have hb9 := Below.set4 (b := W.heap.size + 1) hb8 (by omega) (.int .i64 m) (.int .i64 i) (.int .i64 (ps.length : Nat)) (.slice vla ps.length vlc)
     refine ⟨_, by rw [HCE.out.1], ?_, hb9⟩
     rw [HCE.out.1]
     have hlr : (set4 (wr.setCell ⟨cb, 2, none⟩ (.int .i64 (ps.length : Nat))) (W.heap.size + 1) (.int .i64 m) (.int .i64 i) (.int .i64 (ps.length : Nat)) (.slice vla ps.length vlc)).ownsRow w2.heap.size 36 6 (.slice vla ps.length vlc) ps.length (done.flatMap insCells) :=
      owns_row_block (owns_row_block h.lrow (fun k hk => t8.block k (h.lrow.lt k hk).2 (fun hm => h.farl.2.2.2.1 (by rw [hk, List.mem_singleton.1 hm])))) (fun k hk => by
       have hk2 := (h.lrow.lt k hk).1
       have hk3 := (h.lrow.lt k hk).2
       have t9 := touch4C (wr.setCell ⟨cb, 2, none⟩ (.int .i64 (ps.length : Nat))) (W.heap.size + 1) (.int .i64 m) (.int .i64 i) (.int .i64 (ps.length : Nat)) (.slice vla ps.length vlc)
       exact t9.block k (Nat.lt_of_lt_of_le hk3 t8.size) (fun hm => by have := List.mem_singleton.1 hm; have := HZ2.out; omega))
     have hdl : done.length = ps.length := h.len
     refine ⟨vla, ps.length, vlc, ?_, ?_, ?_, ?_, ?_, ?_⟩
     ·show Value.agg _ = Value.agg #[.int .i64 ((ts.length : Nat) : Int), .int .i64 (((varsT (.mk 2 n s ts) []).length : Nat) : Int), .int .i64 ((sizesN ts : Nat) : Int), _]
      rw [HQ.out.2.2.2, HVS.out.1, HVS.out.2.2, HCE.out.2.2.1]
     ·show I64 ((ts.length : Nat) : Int)
      rw [HQ.out.2.2.2]; unfold I64; omega
     ·show I64 (((varsT (.mk 2 n s ts) []).length : Nat) : Int)
      rw [HVS.out.1, HVS.out.2.2]; unfold I64; omega
     ·show I64 ((sizesN ts : Nat) : Int)
      have := HGP.out.2; unfold I64; omega
     ·rw [HCE.out.2.1]
      rw [← hdl] at hlr ⊢
      exact Elems.owned insCells_len (owns_row_block hlr (fun k hk => hide_get _ _ _ (by have := (hlr.lt k hk).1; unfold under; have := HZ2.out; simp; omega)))
     ·rw [HCE.out.2.1]
      exact h.ins
end Go.Proofs.Ytchbbaehdcmcfaa
/- Stage 15's laws: awake. -/
namespace Go.Proofs.Ytchbbaehdcmcfaa
open Go.RowKit
set_option linter.unusedVariables false
theorem tms1 {w : World} {t : Tm} {v0 v1 v2 v3 : Value} (h : TmV w t (.agg #[v0, v1, v2, v3])) (ty : TypeId) : Tms (w.alloc (.cells #[v0, v1, v2, v3] ty)) (.slice (some ⟨w.heap.size, 0, none⟩) 1 1) [t] := by
 obtain ⟨w1, e1, B1, z1, X1⟩ := box_new w #[v0, v1, v2, v3] ty
 rw [e1]
 refine ⟨some ⟨w.heap.size, 0, none⟩, 1, rfl, by simp, by unfold maxLen; omega, by unfold BIG; simp, Or.inr ⟨_, 0, rfl, X1.lt, ?_⟩⟩
 rw [TmRow, TmRow]
 exact ⟨⟨_, _, _, _, X1.cells 0 _ rfl, X1.cells 1 _ rfl, X1.cells 2 _ rfl, X1.cells 3 _ rfl, TmV.ext B1 _ _ h⟩, trivial⟩
theorem tms2 {w : World} {t u : Tm} {v0 v1 v2 v3 u0 u1 u2 u3 : Value} (h : TmV w t (.agg #[v0, v1, v2, v3])) (g : TmV w u (.agg #[u0, u1, u2, u3])) (ty : TypeId) : Tms (w.alloc (.cells #[v0, v1, v2, v3, u0, u1, u2, u3] ty)) (.slice (some ⟨w.heap.size, 0, none⟩) 2 2) [t, u] := by
 obtain ⟨w1, e1, B1, z1, X1⟩ := box_new w #[v0, v1, v2, v3, u0, u1, u2, u3] ty
 rw [e1]
 refine ⟨some ⟨w.heap.size, 0, none⟩, 2, rfl, by simp, by unfold maxLen; omega, by unfold BIG; simp, Or.inr ⟨_, 0, rfl, X1.lt, ?_⟩⟩
 rw [TmRow, TmRow, TmRow]
 exact ⟨⟨_, _, _, _, X1.cells 0 _ rfl, X1.cells 1 _ rfl, X1.cells 2 _ rfl, X1.cells 3 _ rfl, TmV.ext B1 _ _ h⟩, ⟨_, _, _, _, X1.cells 4 _ rfl, X1.cells 5 _ rfl, X1.cells 6 _ rfl, X1.cells 7 _ rfl, TmV.ext B1 _ _ g⟩, trivial⟩
theorem i64_9 : I64 9 := by unfold I64; omega
theorem big1 (b : UInt8) : (⟨#[b]⟩ : ByteArray).size ≤ BIG := by unfold BIG; simp [ByteArray.size]
theorem big0 : (⟨#[]⟩ : ByteArray).size ≤ BIG := by unfold BIG; decide
set_option maxHeartbeats 4000000 in
set_option maxRecDepth 100000 in
theorem awake15_at (w : World) : Calls Try.prog 12 #[] w fun e w' => e = .returned (.bool true) ∧ Below w.heap.size w w' := by
 have heq0 : ∀ wq, (Op.equalIn 10000 36 (.agg #[.string ⟨#[118, 97, 114]⟩, .int .i64 0, .int .i64 0, .int .i64 0, .int .i64 0, .string ⟨#[]⟩]) (.agg #[.string ⟨#[118, 97, 114]⟩, .int .i64 0, .int .i64 0, .int .i64 0, .int .i64 0, .string ⟨#[]⟩])).run Try.prog wq = .ok true wq := fun wq => by rw [eq_ins]; simp
 have heq1 : ∀ wq, (Op.equalIn 10000 36 (.agg #[.string ⟨#[99, 111, 109, 112]⟩, .int .i64 1, .int .i64 1, .int .i64 2, .int .i64 0, .string ⟨#[102]⟩]) (.agg #[.string ⟨#[99, 111, 109, 112]⟩, .int .i64 1, .int .i64 1, .int .i64 2, .int .i64 0, .string ⟨#[102]⟩])).run Try.prog wq = .ok true wq := fun wq => by rw [eq_ins]; simp
 have heq2 : ∀ wq, (Op.equalIn 10000 36 (.agg #[.string ⟨#[118, 97, 108]⟩, .int .i64 2, .int .i64 0, .int .i64 0, .int .i64 0, .string ⟨#[]⟩]) (.agg #[.string ⟨#[118, 97, 108]⟩, .int .i64 2, .int .i64 0, .int .i64 0, .int .i64 0, .string ⟨#[]⟩])).run Try.prog wq = .ok true wq := fun wq => by rw [eq_ins]; simp
 go_enter Try.func12, Try.ntmps12
 (go_wp2_with fail; go_fit (var_at _ 9); rintro e w1 ⟨rfl, b1⟩)
 have HB1 := Lib.hid b1
 clear b1
 (go_wp2_with fail; go_fit (var_at _ 9); rintro e w2 ⟨rfl, b2⟩)
 have HB2 := Lib.hid (Ext.trans' HB1.out b2)
 clear b2
 have hx := tms1 (w := w2) (leaf_tm w2 i64_0 i64_9 big0) 31
 have C := comp_at ⟨#[102]⟩ (big1 _) hx
 have HBA := Lib.hid (Ext.trans' HB2.out (bel1' w2 (.cells #[.int .i64 0, .int .i64 9, .string ⟨#[]⟩, .slice none 0 0] 31)))
 clear hx
 (go_wp2_with fail; go_fit (C); rintro e w3 ⟨a3, c3, rfl, ht3, b3⟩)
 have HB3 := Lib.hid (Ext.trans' HBA.out b3)
 have hx := tms2 (w := w3) (leaf_tm w3 i64_0 i64_9 big0) ht3 31
 have C := comp_at ⟨#[112]⟩ (big1 _) hx
 have HBB := Lib.hid (Ext.trans' HB3.out (bel1' w3 (.cells #[.int .i64 0, .int .i64 9, .string ⟨#[]⟩, .slice none 0 0, .int .i64 2, .int .i64 0, .string ⟨#[102]⟩, .slice a3 ([.mk 0 9 ⟨#[]⟩ []] : List Tm).length c3] 31)))
 clear hx b3 ht3
 (go_wp2_with fail; go_fit (C); rintro e w4 ⟨a4, c4, rfl, ht4, b4⟩)
 have HB4 := Lib.hid (Ext.trans' HBB.out b4)
 have C := headS_at ht4
 unfold HeadS at C
 rw [show headCE (Tm.mk 2 0 ⟨#[112]⟩ [Tm.mk 0 9 ⟨#[]⟩ [], Tm.mk 2 0 ⟨#[102]⟩ [Tm.mk 0 9 ⟨#[]⟩ []]]) = (k15C, 0) from k15C_head] at C
 clear ht4 b4
 (go_wp2_with fail; go_fit (C); rintro e w5 ⟨v5, rfl, hc5', b5⟩)
 have hc5 := hc5'.stay (Stays.unhide _ _)
 clear hc5'
 have HB5 := Lib.hid (Ext.trans' HB4.out b5)
 have HC5 := Lib.hid hc5
 obtain ⟨ca, cm, ck, hv5, _, _, _, hel, _⟩ := hc5
 replace hv5 : v5 = .agg #[.int .i64 2, .int .i64 1, .int .i64 3, .slice ca cm ck] := hv5
 subst hv5
 obtain ⟨hcm, hcm1, hcm2⟩ := ins_len hel
 have hcm' : cm = 3 := hcm
 subst hcm'
 unfold maxLen at hcm2
 obtain ⟨b, off, hab, _, d0, d1, d2, d3, d4, d5⟩ := ins_get hel (i := 0) (x := ⟨opVar, 0, 0, 0, 0, ⟨#[]⟩⟩) rfl
 subst hab
 obtain ⟨b', off', hab, _, f0, f1, f2, f3, f4, f5⟩ := ins_get hel (i := 1) (x := ⟨opComp, 1, 1, 2, 0, f15S⟩) rfl
 obtain ⟨hb1, hb2⟩ : b' = b ∧ off' = off := by injection hab with h; injection h with h1 h2; exact ⟨h1.symm, h2.symm⟩
 subst hb1 hb2
 obtain ⟨b'', off'', hab, _, g0, g1, g2, g3, g4, g5⟩ := ins_get hel (i := 2) (x := ⟨opVal, 2, 0, 0, 0, ⟨#[]⟩⟩) rfl
 obtain ⟨hb1, hb2⟩ : b'' = b' ∧ off'' = off' := by injection hab with h; injection h with h1 h2; exact ⟨h1.symm, h2.symm⟩
 subst hb1 hb2
 unfold opVar at d0
 unfold opComp at f0
 unfold f15S at f5
 unfold opVal at g0
 clear hab hel hcm b5 C
 go_upto_region 2 with fail
 obtain ⟨w6, e6, b6, z6, X6⟩ := box_new w5 #[.int .i64 2, .int .i64 1, .int .i64 3, .slice (some ⟨b'', off'', none⟩) 3 ck] 25
 rw [e6]
 have C : Calls Try.prog 19 #[.agg #[.int .i64 2, .int .i64 1, .int .i64 3, .slice (some ⟨b'', off'', none⟩) 3 ck]] w6 fun e w' => e = .returned (.bool (goodK k15C)) ∧ Below w6.heap.size w6 w' := cgood_at (HC5.out.ext b6)
 rw [show goodK k15C = true by decide +kernel] at C
 have HB6 := Lib.hid (Ext.trans' HB5.out b6)
 obtain ⟨x0, x1, x2, x3, _⟩ := X6.four
 replace d0 : w6.cell? ⟨b'', off'', none⟩ = some (.string ⟨#[118, 97, 114]⟩) := cell_later b6 d0
 replace d1 : w6.cell? ⟨b'', off'' + 1, none⟩ = some (.int .i64 0) := cell_later b6 d1
 replace d2 : w6.cell? ⟨b'', off'' + 2, none⟩ = some (.int .i64 0) := cell_later b6 d2
 replace d3 : w6.cell? ⟨b'', off'' + 3, none⟩ = some (.int .i64 0) := cell_later b6 d3
 replace d4 : w6.cell? ⟨b'', off'' + 4, none⟩ = some (.int .i64 0) := cell_later b6 d4
 replace d5 : w6.cell? ⟨b'', off'' + 5, none⟩ = some (.string ⟨#[]⟩) := cell_later b6 d5
 replace f0 : w6.cell? ⟨b'', off'' + 6, none⟩ = some (.string ⟨#[99, 111, 109, 112]⟩) := cell_later b6 f0
 replace f1 : w6.cell? ⟨b'', off'' + 7, none⟩ = some (.int .i64 1) := cell_later b6 f1
 replace f2 : w6.cell? ⟨b'', off'' + 8, none⟩ = some (.int .i64 1) := cell_later b6 f2
 replace f3 : w6.cell? ⟨b'', off'' + 9, none⟩ = some (.int .i64 2) := cell_later b6 f3
 replace f4 : w6.cell? ⟨b'', off'' + 10, none⟩ = some (.int .i64 0) := cell_later b6 f4
 replace f5 : w6.cell? ⟨b'', off'' + 11, none⟩ = some (.string ⟨#[102]⟩) := cell_later b6 f5
 replace g0 : w6.cell? ⟨b'', off'' + 12, none⟩ = some (.string ⟨#[118, 97, 108]⟩) := cell_later b6 g0
 replace g1 : w6.cell? ⟨b'', off'' + 13, none⟩ = some (.int .i64 2) := cell_later b6 g1
 replace g2 : w6.cell? ⟨b'', off'' + 14, none⟩ = some (.int .i64 0) := cell_later b6 g2
 replace g3 : w6.cell? ⟨b'', off'' + 15, none⟩ = some (.int .i64 0) := cell_later b6 g3
 replace g4 : w6.cell? ⟨b'', off'' + 16, none⟩ = some (.int .i64 0) := cell_later b6 g4
 replace g5 : w6.cell? ⟨b'', off'' + 17, none⟩ = some (.string ⟨#[]⟩) := cell_later b6 g5
 clear e6 b6 z6 X6
 (go_wp2_with fail; go_fit (C); rintro e w7 ⟨rfl, b7⟩)
 have HB7 := Lib.hid (Ext.trans' HB6.out b7)
 clear b7
 go_wp2
 go_ret
 exact ⟨rfl, HB7.out⟩
end Go.Proofs.Ytchbbaehdcmcfaa
/- Stage 11's laws: how deep a term is asked of. -/
namespace Go.Proofs.Ytchbbaehdcmcfaa
open Go.RowKit
set_option linter.unusedVariables false
set_option maxHeartbeats 2000000 in
theorem deep15_at : ∀ (N : Nat) (x : Tm), sizeN x ≤ N → ∀ (left : Int), I64 left → ∀ (w : World) (v : Value), TmV w x v →
  Calls Try.prog 26 #[v, .int .i64 left] w fun e w' => e = .returned (.bool (deepT x left)) ∧ Below w.heap.size w w'
 | 0, x, h, left, hl, w, v, hv => by have := size_pos x; omega
 | N + 1, .mk k n s ts, h, left, hl, w, v, hv => by
  obtain ⟨u, rfl, hs, hk, hn, hu⟩ := tmV_iff.1 hv
  obtain ⟨a, c, rfl, h1, h2, h3⟩ := hu.len
  unfold BIG at h3
  unfold I64 at hl
  have hD : deepT (.mk k n s ts) left = if left < 1 ∨ 12 < ts.length then true else deepsT ts (left - 1) := by rw [deepT]
  by_cases hlt : left < 1
  ·rw [hD, if_pos (Or.inl hlt)]
   clear hD
   go_enter Try.func26, Try.ntmps26
   go_wp2
   go_ret
   exact ⟨rfl, bel1' _ _⟩
  obtain ⟨m, hm⟩ : ∃ m, ts.length = m := ⟨_, rfl⟩
  by_cases h12 : 12 < m
  ·rw [hD, if_pos (Or.inr (by rw [hm]; exact h12))]
   rw [hm] at h1 h3 ⊢
   clear hD hv hu hm
   go_enter Try.func26, Try.ntmps26
   go_wp2
   go_ret
   exact ⟨rfl, bel1' _ _⟩
  rw [hD, if_neg (by rw [hm]; omega)]
  have hI : I64 (left - 1) := by unfold I64; omega
  have IH := Lib.hid (fun (y : Tm) (hy : y ∈ ts) => deep15_at N y (mem_size h hy) (left - 1) hI)
  have HU := Lib.hid hu
  have HM := Lib.hid hm
  rw [hm] at h1 h3 hu HU ⊢
  obtain ⟨r, hr⟩ : ∃ r, deepsT ts (left - 1) = r := ⟨_, rfl⟩
  rw [hr]
  have HR := Lib.hid hr
  clear hD hv hu hm hr h
  go_enter Try.func26, Try.ntmps26
  go_wp2_with fail
  go_loopw [5] (fun v wr => ∃ i : Nat, i ≤ m ∧ v = .int .i64 i ∧ Hid (deepsT (ts.drop i) (left - 1) = r) ∧ Hid (Below (w.alloc (.cells #[.int .i64 k, .int .i64 n, .string s, .slice a m c] 31)).heap.size (w.alloc (.cells #[.int .i64 k, .int .i64 n, .string s, .slice a m c] 31)) wr)) (fun v _ => m - (RowKit.intOf v).toNat)
  case atStart => exact ⟨0, Nat.zero_le _, rfl, Lib.hid (by rw [List.drop_zero]; exact HR.out), Lib.hid (Below.refl _ _)⟩
  case round =>
   obtain ⟨i, hi, rfl, HD, HB⟩ := hrel
   obtain ⟨e0, e1, e2, e3⟩ := box_cells w 31 _ _ _ _ HB.out
   by_cases hil : i < m
   ·obtain ⟨y, hy⟩ : ∃ y, ts[i]? = some y := ⟨_, List.getElem?_eq_getElem (by rw [HM.out]; exact hil)⟩
    have hdr : ts.drop i = y :: ts.drop (i + 1) := by
     obtain ⟨hlt', rfl⟩ := List.getElem?_eq_some_iff.1 hy
     exact List.drop_eq_getElem_cons hlt'
    have hd := HD.out
    rw [hdr, deepsT] at hd
    have HBW := Lib.hid (Ext.trans' (bel1' w _) HB.out)
    obtain ⟨b, off, k', n', s', u', rfl, hbb, _, _, _, c0, c1, c2, c3, _, ht⟩ := (HU.out.ext HBW.out).get hy
    have ih := IH.out y (List.mem_of_getElem? hy) wr _ ht
    clear hdr HD ht
    cases hq : deepT y (left - 1)
    ·rw [hq, Bool.false_or] at hd
     rw [hq] at ih
     have HD := Lib.hid hd
     clear hq hd hy
     (go_wp2_with fail; go_fit (ih); rintro e w2 ⟨rfl, b2⟩)
     have B2 := Lib.hid (Ext.trans' HB.out b2)
     clear b2
     go_wp2
     go_roundw
     case rel => exact ⟨i + 1, by omega, by go_num, HD, B2⟩
     case measure => simp [RowKit.intOf]; omega
    ·rw [hq, Bool.true_or] at hd
     rw [hq] at ih
     subst hd
     clear hq hy HR
     (go_wp2_with fail; go_fit (ih); rintro e w2 ⟨rfl, b2⟩)
     have B2 := Lib.hid (Ext.trans' HBW.out b2)
     clear b2
     go_wp2
     go_ret
     exact ⟨rfl, B2.out⟩
   ·have hd := HD.out
    rw [List.drop_eq_nil_of_le (by rw [HM.out]; omega), deepsT] at hd
    subst hd
    clear HR HD
    go_wp2
    go_ret
    exact ⟨rfl, Ext.trans' (bel1' w _) HB.out⟩
end Go.Proofs.Ytchbbaehdcmcfaa
