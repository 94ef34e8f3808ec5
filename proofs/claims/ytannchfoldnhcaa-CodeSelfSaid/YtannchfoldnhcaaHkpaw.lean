import Derived.Test.YtannchfoldnhcaaHkpas
import Derived.Test.YtannchfoldnhcaaHkpav
import Derived.Test.YtannchfoldnhcaaHkpam
import Derived.Test.YtannchfoldnhcaaHkpae
import Derived.Test.YtannchfoldnhcaaHkpad
import Derived.Test.YtannchfoldnhcaaHkpac
import Derived.Test.YtannchfoldnhcaaRows
import Derived.Test.YtannchfoldnhcaaHkpab
set_option linter.unusedVariables false
set_option linter.unusedSimpArgs false
/- CodeSelf: walked. -/
namespace Go.Proofs.Ytannchfoldnhcaa
open Go.RowKit
set_option linter.unusedVariables false

theorem fixed_var {N : Nat} {S : List (Int × Tm)} {x : Tm} (hS : OkS N S) (hx : InN N x) (hk : (subT (fullB S) x).k = 0) : fitsB N x = true ∧ ∃ m : Int, subT (fullB S) x = varV m ∧ 0 ≤ m ∧ m < (N : Int) := by
  have h1 := hS.inN hx
  have hs := hS.small
  obtain ⟨k, n, s, ts⟩ := x
  have hk0 : k = 0 := by
    rcases Classical.em (k = 0) with h | h
    · exact h
    · rw [sub_not _ h] at hk; exact absurd hk h
  rcases formed_kids hx.1 with ⟨_, e⟩ | ⟨hk1, _⟩ | ⟨hk1, _⟩
  · have h2 := hx.2 n (by rw [e, occ_varV]; exact List.mem_singleton.2 rfl)
    refine ⟨fitsB_true.2 ⟨?_, hx.2⟩, ?_⟩
    · rw [e]; exact var_good h2.1 (by show n < 2147483648; omega)
    · rcases formed_kids h1.1 with ⟨_, e2⟩ | ⟨hk2, _⟩ | ⟨hk2, _⟩
      · refine ⟨_, e2, h1.2 _ ?_⟩
        rw [e2, occ_varV]
        exact List.mem_singleton.2 rfl
      · omega
      · omega
  · exact absurd (show k = 1 from hk1) (by omega)
  · exact absurd (show k = 2 from hk1) (by omega)
theorem whole_fixed {N : Nat} {R S : List (Int × Tm)} (hs : Sync R S) {x : Tm} {m : Int} (hf : fitsB N x = true) (hm : subT (fullB S) x = varV m) (h0 : 0 ≤ m) (h1 : m < (N : Int)) (hN : N ≤ 65536) : wholeB N R x = (varV m, 0) := by
  unfold wholeB
  rw [if_pos hf, hs.full, hm, if_pos (var_good h0 (by omega))]
def SelfB (W : World) (V : World) (p : Value) (N : Nat) (w : World) : Prop := ∃ F, IsB V F w p N [] ∧ (∀ k ∈ F, W.heap.size ≤ k) ∧ Below W.heap.size W w
set_option maxHeartbeats 16000000 in
set_option maxRecDepth 100000 in
theorem codeSelf_at {W : World} {vx : Value} {t : Tm} (hx : TmV W t vx) : Calls Try.prog 6 #[vx] W fun e w' => IsBool W true e w' := by
  have HV := Lib.hid (fun (wq : World) (hb : Below W.heap.size W wq) => TmV.ext hb _ _ hx)
  have DX := Lib.hid (fun (wq : World) (hb : Below W.heap.size W wq) => deep15_at _ t (Nat.le_refl _) 20 (by unfold I64; omega) wq _ (TmV.ext hb _ _ hx))
  obtain ⟨k, n, s, ts⟩ := t
  obtain ⟨u, rfl, hss, hkk, hnn, hts⟩ := tmV_iff.1 hx
  obtain ⟨a, c, rfl, ha1, ha2, ha3⟩ := hts.len
  unfold maxLen at ha2
  unfold BIG at ha3
  have HTS := Lib.hid hts
  obtain ⟨m, hm⟩ : ∃ m, ts.length = m := ⟨_, rfl⟩
  have HM := Lib.hid (And.intro hm hss)
  rw [hm] at HV DX HTS ha1 ha3 ⊢
  obtain ⟨w1, e1, B1, z1, X1⟩ := box_new W #[.int .i64 k, .int .i64 n, .string s, .slice a m c] 31
  have HE := Lib.hid e1
  have HB1 := Lib.hid (And.intro B1 X1)
  clear B1 z1 e1 X1 hx hss hkk hnn hts hm
  go_enter Try.func6, Try.ntmps6
  go_upto_region 1 with fail
  (try rw [HE.out])
  (go_wp2_with fail; go_fit (awake15_at _); rintro e w2 ⟨rfl, b2⟩)
  have HB2 := Lib.hid (Ext.trans' HB1.out.1 b2)
  have HX2 := Lib.hid (HB1.out.2.ext b2)
  clear b2
  obtain ⟨x0, x1, x2, x3, _⟩ := HX2.out.four
  have C := DX.out w2 HB2.out
  cases hdx : deepT (.mk k n s ts) 20
  rotate_left
  · rw [hdx] at C
    clear hdx
    (go_wp2_with fail; go_fit (C); rintro e w3 ⟨rfl, b3⟩)
    have HB3 := Lib.hid (Ext.trans' HB2.out b3)
    clear b3 C
    go_wp2
    go_ret
    exact ⟨rfl, HB3.out⟩
  rw [hdx] at C
  clear hdx
  (go_wp2_with fail; go_fit (C); rintro e w3 ⟨rfl, b3⟩)
  have HB3 := Lib.hid (Ext.trans' HB2.out b3)
  have HX3 := Lib.hid (HX2.out.ext b3)
  clear b3 C x0 x1 x2 x3
  obtain ⟨x0, x1, x2, x3, _⟩ := HX3.out.four
  have C := Good_at (.mk k n s ts) w3 _ (HV.out w3 HB3.out)
  cases hg : goodT (.mk k n s ts)
  · rw [hg] at C
    clear hg
    (go_wp2_with fail; go_fit (C); rintro e w4 ⟨rfl, b4⟩)
    have HB4 := Lib.hid (Ext.trans' HB3.out b4)
    clear b4 C
    go_wp2
    go_ret
    exact ⟨rfl, HB4.out⟩
  rw [hg] at C
  (go_wp2_with fail; go_fit (C); rintro e w4 ⟨rfl, b4⟩)
  have HB4 := Lib.hid (Ext.trans' HB3.out b4)
  have HX4 := Lib.hid (HX3.out.ext b4)
  have HG := Lib.hid hg
  clear b4 C x0 x1 x2 x3 hg
  obtain ⟨x0, x1, x2, x3, _⟩ := HX4.out.four
  by_cases hk2 : k = 2
  rotate_left
  · have hk2' : (k == 2) = false := by simpa using hk2
    go_wp2
    go_ret
    exact ⟨rfl, HB4.out⟩
  subst hk2
  have hgp := good_parts HG.out
  have C := size_at (.mk 2 n s ts) w4 _ (HV.out w4 HB4.out)
  obtain ⟨Z, hZ⟩ : ∃ Z : Nat, sizeN (.mk 2 n s ts) = Z := ⟨_, rfl⟩
  rw [hZ] at C hgp
  rw [show min Z 2001 = Z by omega] at C
  clear hZ
  have hZ2 := hgp.1
  clear hgp
  by_cases hZ1 : 100 < Z
  · (go_wp2_with fail; go_fit (C); rintro e w5 ⟨rfl, b5⟩)
    have HB5 := Lib.hid (Ext.trans' HB4.out b5)
    clear b5 C
    go_wp2
    go_ret
    exact ⟨rfl, HB5.out⟩
  (go_wp2_with fail; go_fit (C); rintro e w5 ⟨rfl, b5⟩)
  have HB5 := Lib.hid (Ext.trans' HB4.out b5)
  have HX5 := Lib.hid (HX4.out.ext b5)
  clear b5 C x0 x1 x2 x3
  obtain ⟨x0, x1, x2, x3, _⟩ := HX5.out.four
  go_upto_region 5 with fail
  clear hZ1 hZ2
  have C := Vars_at (.mk 2 n s ts) w5 _ (HV.out w5 HB5.out)
  rw [HG.out, if_pos rfl] at C
  (go_wp2_with fail; go_fit (C); rintro e w6 ⟨rv, rfl, hnv, b6⟩)
  obtain ⟨ra, rc, rfl, hrc1, hrc2⟩ := hnv.len
  obtain ⟨K, hK⟩ : ∃ K, (varsT (.mk 2 n s ts) []).length = K := ⟨_, rfl⟩
  have hK2 : K ≤ 2000 := by rw [← hK]; exact vars_le HG.out
  rw [hK] at hrc1 hnv ⊢
  have HNV := Lib.hid (And.intro hnv hK)
  unfold maxLen at hrc2
  have HB6 := Lib.hid (Ext.trans' HB5.out b6)
  have HX6 := Lib.hid (HX5.out.ext b6)
  clear hnv hK b6 C x0 x1 x2 x3
  (go_wp2_with fail; go_fit (New_at (V := w6) (Stays.refl w6)); rintro e w7 ⟨p, F7, rfl, i7, b7, f7⟩)
  obtain ⟨bt, rfl⟩ : ∃ bt, p = .pointer (some ⟨bt, 0, none⟩) := by obtain ⟨bt, _, _, _, rfl, _⟩ := i7.open; exact ⟨bt, rfl⟩
  have HS7 := Lib.hid (show SelfB w6 w6 (.pointer (some ⟨bt, 0, none⟩)) 0 w7 from ⟨F7, i7, f7, b7⟩)
  have HN7 := Lib.hid (Nums.ext HNV.out.1 b7)
  clear i7 f7 b7
  go_wp2_with fail
  go_loopw [5] (fun v wr => wr = w7 ∧ ∃ i : Nat, i ≤ K ∧ v = .int .i64 i ∧ Hid (∀ (j : Nat) (y : Int), j < i → (varsT (.mk 2 n s ts) [])[j]? = some y → y ≤ 1000)) (fun v _ => K - (intOf v).toNat)
  case atStart => exact ⟨rfl, 0, Nat.zero_le _, rfl, Lib.hid (fun j y hj _ => absurd hj (Nat.not_lt_zero _))⟩
  case round =>
    obtain ⟨rfl, i, hi, rfl, HI⟩ := hrel
    by_cases hik : i < K
    · obtain ⟨y, hy⟩ : ∃ y, (varsT (.mk 2 n s ts) [])[i]? = some y := ⟨_, List.getElem?_eq_getElem (by rw [HNV.out.2]; exact hik)⟩
      obtain ⟨gb, go, rfl, _, c0⟩ := HN7.out.get hy
      by_cases hy1 : 1000 < y
      · clear hy
        go_wp2
        go_ret
        obtain ⟨_, _, _, b⟩ := HS7.out
        exact ⟨rfl, Ext.trans' HB6.out b⟩
      · have HNX := Lib.hid (show ∀ (j : Nat) (z : Int), j < i + 1 → (varsT (.mk 2 n s ts) [])[j]? = some z → z ≤ 1000 from fun j z hj hz => by
          by_cases hji : j < i
          · exact HI.out j z hji hz
          · have : j = i := by omega
            subst this
            rw [hy] at hz
            cases hz
            omega)
        clear hy
        go_wp2
        go_roundw
        case rel => exact ⟨trivial, i + 1, by omega, by go_num, HNX⟩
        case measure => simp [intOf]; omega
    · have hik2 : K = i := by omega
      subst hik2
      go_wp2_with fail
      go_loopw [6] (fun v wr => ∃ j : Nat, j ≤ 1001 ∧ v = .int .i64 j ∧ Hid (SelfB w6 w6 (.pointer (some ⟨bt, 0, none⟩)) j wr)) (fun v _ => 1001 - (intOf v).toNat)
      case atStart => exact ⟨0, Nat.zero_le _, rfl, HS7⟩
      case round =>
        obtain ⟨j, hj, rfl, HP⟩ := hrel
        by_cases hjn : j < 1001
        · obtain ⟨F, h1, h2, h3⟩ := HP.out
          have C1 := Fresh_at h1 (by omega)
          have H23 := Lib.hid (And.intro h2 h3)
          clear h1 h2 h3
          (go_wp2_with fail; go_fit (C1); rintro e w8 ⟨F', rfl, h1, t1, hin⟩)
          have HP8 := Lib.hid (show SelfB w6 w6 (.pointer (some ⟨bt, 0, none⟩)) (j + 1) w8 from ⟨F', h1, fun q hq => (hin q hq).elim (H23.out.1 q) (fun h => Nat.le_trans H23.out.2.size h), H23.out.2.trans (t1.below H23.out.2.size H23.out.1)⟩)
          clear h1 t1 hin
          go_wp2
          go_roundw
          case rel => exact ⟨j + 1, by omega, by go_num, HP8⟩
          case measure => simp [intOf]; omega
        · have hj1 : j = 1001 := by omega
          have HPZ := Lib.hid (show SelfB w6 w6 (.pointer (some ⟨bt, 0, none⟩)) 1001 wr from by rw [← hj1]; exact HP.out)
          have hjx : ¬ (j : Int) < 1001 := by omega
          clear hj1
          have hgp := good_parts HG.out
          have hvs : ∀ y ∈ varsT (.mk 2 n s ts) [], 0 ≤ y ∧ y < ((1001 : Nat) : Int) := fun y hy => by
            obtain ⟨q, hq⟩ := List.getElem?_of_mem hy
            have hqK : q < K := by rw [← HNV.out.2]; exact (List.getElem?_eq_some_iff.1 hq).1
            have h1 := HI.out q y hqK hq
            have h2 := occ_pos _ hgp.2.2 y (by simpa using (mem_vars2 (n := y) _ []).1 hy)
            exact ⟨h2, by omega⟩
          obtain ⟨F, hIF, hfF, hbF⟩ := HPZ.out
          have HBR := Lib.hid (Ext.trans' HB6.out hbF)
          have HXR := Lib.hid (HX6.out.ext hbF)
          have HNR := Lib.hid (Nums.ext HNV.out.1 hbF)
          have C := headS_at (HV.out wr HBR.out)
          unfold HeadS at C
          rw [show headCE (.mk 2 n s ts) = (headC (.mk 2 n s ts), 0) from if_pos ⟨HG.out, rfl⟩] at C
          have HF := Lib.hid (And.intro hIF (And.intro hfF hbF))
          have HVS := Lib.hid hvs
          have hnum := head_nums (t := .mk 2 n s ts) rfl
          have HNU := Lib.hid hnum
          clear hIF hfF hbF hvs hgp hnum
          obtain ⟨x0, x1, x2, x3, _⟩ := HXR.out.four
          (go_wp2_with fail; go_fit (C); rintro e w9 ⟨v9, rfl, hc9, b9⟩)
          have hi9 := HF.out.1.ext b9
          have hlt := HF.out.1.lt
          have hre := hi9.rebase
          have hst : Stays (hide (under wr.heap.size) w9) (hide (awayB F) w9) := Stays.less fun k hk => by
            have hk' : wr.heap.size ≤ k := by simpa using hk
            simp only [awayB, decide_eq_false_iff_not]
            intro hm
            have := hlt k hm
            omega
          have hcV := hc9.stay hst
          have hold : Stays w6 (hide (awayB F) w9) := IsB.old (V := w6) (p := .pointer (some ⟨bt, 0, none⟩)) (N := 1001) (R := []) HF.out.2.1 (HF.out.2.2.trans (b9.mono HF.out.2.2.size))
          have haV := (HTS.out.ext HB6.out).stay hold
          obtain ⟨ca, cm, ck, rfl, _⟩ := id hcV
          obtain ⟨w10, e10, b10, z10, X10⟩ := box_new w9 #[.int .i64 (headC (.mk 2 n s ts)).ar, .int .i64 (headC (.mk 2 n s ts)).sl, .int .i64 (headC (.mk 2 n s ts)).rg, .slice ca cm ck] 25
          have CM := matchM_at (E := False) (J := SelfJ (.mk 2 n s ts)) (hre.ext b10) (S0 := []) trivial HG.out rfl hcV haV rfl (by
            rw [List.all_eq_true]
            intro y hy
            exact fits_arg (by decide) HG.out (fun q hq => HVS.out q ((mem_vars2 (n := q) _ []).2 (Or.inr hq))) hy) (by omega) (fun _ => ⟨self_ok, SelfJ.start (good_parts HG.out).2.2 rfl⟩)
          obtain ⟨q1, hq1⟩ : ∃ q1, (headC (.mk 2 n s ts)).ar = q1 := ⟨_, rfl⟩
          obtain ⟨q2, hq2⟩ : ∃ q2, (headC (.mk 2 n s ts)).sl = q2 := ⟨_, rfl⟩
          obtain ⟨q3, hq3⟩ : ∃ q3, (headC (.mk 2 n s ts)).rg = q3 := ⟨_, rfl⟩
          obtain ⟨cb, hcb⟩ : ∃ cb, w9.heap.size = cb := ⟨_, rfl⟩
          rw [hq1, hq2, hq3] at CM e10 X10 ⊢
          rw [hcb] at X10
          have HB10 := Lib.hid (Ext.trans' HBR.out (Ext.trans' b9 b10))
          have HF10 := Lib.hid (show (∀ q ∈ F, w6.heap.size ≤ q) ∧ Below w6.heap.size w6 w10 from ⟨HF.out.2.1, HF.out.2.2.trans ((Ext.trans' b9 b10).mono HF.out.2.2.size)⟩)
          have HN10 := Lib.hid (Nums.ext HNR.out (Ext.trans' b9 b10))
          have HX10 := Lib.hid (And.intro (HXR.out.ext (Ext.trans' b9 b10)) X10)
          clear hst hold hre hlt hq1 hq2 hq3 hcV haV hc9 hi9 b9 b10 X10 z10 C x0 x1 x2 x3
          obtain ⟨x0, x1, x2, x3, _⟩ := HX10.out.1.four
          obtain ⟨y0, y1, y2, y3, _⟩ := HX10.out.2.four
          go_upto_region 17 with fail
          (try rw [e10])
          (try rw [hcb])
          clear e10 hcb
          (go_wp2_with fail; go_fit (CM); rintro e w11 ⟨V1, F1, R1, N1, v1, i1, t1, n1, hN1, hor⟩)
          obtain ⟨hno, hyes⟩ := match_self15 (N := 1001) (N' := N1) (t := .mk 2 n s ts) (S := []) (sl := []) HG.out rfl HVS.out
          clear hyes
          rcases hor with ⟨v, S, L, rfl, hT, hs, hY⟩ | ⟨er, rfl, _, hor⟩
          rotate_left
          · exfalso
            rcases hor with ⟨_, h9⟩ | ⟨_, h9⟩
            · exact hno h9
            · exact h9
          have hall : ∀ (i : Nat) (y : Int) (x : Tm), (varsT (.mk 2 n s ts) [])[i]? = some y → L[i]? = some x → ∃ m : Nat, m < 65536 ∧ wholeB N1 R1 x = (varV m, 0) ∧ wholeB N1 R1 (varV y) = (varV m, 0) := fun i y x hy hx => by
            obtain ⟨g1, g2⟩ := (match_self15 (N := 1001) (N' := N1) (t := .mk 2 n s ts) (S := S) (sl := L) HG.out rfl HVS.out).2 hY i y x hy hx
            obtain ⟨f1, m, f2, f3, f4⟩ := fixed_var hY.oks (hY.inn x (List.mem_of_getElem? hx)) g2
            have hsm := hY.oks.small
            obtain ⟨h1, h2⟩ := HVS.out y (List.mem_of_getElem? hy)
            obtain ⟨mn, rfl⟩ : ∃ mn : Nat, m = (mn : Int) := ⟨m.toNat, by omega⟩
            refine ⟨mn, by omega, whole_fixed hs f1 f2 f3 f4 hsm, whole_fixed hs (fitsB_true.2 ⟨var_good h1 (by omega), fun q hq => ?_⟩) ?_ f3 f4 hsm⟩
            · rw [occ_varV] at hq
              have := List.mem_singleton.1 hq
              omega
            · rw [sub_varV, ← g1, f2]
          obtain ⟨la, lc, rfl, hl1, hl2, _⟩ := hT.len
          unfold maxLen at hl2
          have hLK : L.length = K := by rw [hY.len]; exact HNV.out.2
          rw [hLK] at hl1 hT ⊢
          have HB11 := Lib.hid (HB10.out.trans (t1.below HB10.out.size (fun q hq => Nat.le_trans HB6.out.size (HF10.out.1 q hq))))
          have HL := Lib.hid (And.intro hall hLK)
          have HT := Lib.hid hT
          have HI11 := Lib.hid i1.rebase
          have HN11 := Lib.hid (show Nums w11 (.slice ra K rc) (varsT (.mk 2 n s ts) []) from Nums.ext HNV.out.1 (HF10.out.2.trans (t1.below HF10.out.2.size HF10.out.1)))
          clear hall hLK hT hs hY hno i1 t1 n1 v1 hN1 CM x0 x1 x2 x3 y0 y1 y2 y3
          clear ha1 ha3
          go_wp2_with fail
          go_loopw [12] (fun z wr => ∃ i : Nat, i ≤ K ∧ z = .int .i64 i ∧ Hid (Below w11.heap.size w11 wr)) (fun z _ => K - (intOf z).toNat)
          case atStart => exact ⟨0, Nat.zero_le _, rfl, Lib.hid (Below.refl _ _)⟩
          case round =>
            obtain ⟨i, hi, rfl, HJ⟩ := hrel
            by_cases hiK : i < K
            rotate_left
            · have hiK2 : i = K := by omega
              subst hiK2
              go_wp2
              go_ret
              exact ⟨rfl, HB11.out.trans (HJ.out.mono HB11.out.size)⟩
            obtain ⟨y, hy⟩ : ∃ y, (varsT (.mk 2 n s ts) [])[i]? = some y := ⟨_, List.getElem?_eq_getElem (by rw [HNV.out.2]; exact hiK)⟩
            obtain ⟨x, hx⟩ : ∃ x, L[i]? = some x := ⟨_, List.getElem?_eq_getElem (by rw [HL.out.2]; exact hiK)⟩
            obtain ⟨mm, hm1, hm2, hm3⟩ := HL.out.1 i y x hy hx
            obtain ⟨gb, go, rfl, _, g0⟩ := HN11.out.get hy
            obtain ⟨lb, lo, k1, nn1, s1, u1, rfl, _, _, _, _, l0, l1, l2, l3, _, ht⟩ := HT.out.get hx
            have hun := Stays.unhide (awayB F1) w11
            replace g0 := cell_later HJ.out g0
            replace l0 := cell_later HJ.out (hun.2 _ _ l0)
            replace l1 := cell_later HJ.out (hun.2 _ _ l1)
            replace l2 := cell_later HJ.out (hun.2 _ _ l2)
            replace l3 := cell_later HJ.out (hun.2 _ _ l3)
            have C := Whole_at (HI11.out.ext HJ.out) ht
            rw [hm2] at C
            have HA := Lib.hid (And.intro hm1 hm3)
            have HY := Lib.hid hy
            clear hy hx hm2 hm3 hun ht
            (go_wp2_with fail; go_fit (C); rintro e w12 ⟨r1, rfl, hr1, b12⟩)
            have HR1 := Lib.hid hr1.bare
            obtain ⟨k2, nn2, s2, a2, c2, d2, rfl, f1, f2, f3, fv⟩ := four_of hr1
            obtain rfl : k2 = 0 := by first | exact f1 | exact f1.symm
            obtain ⟨w13, e13, b13, z13, X13⟩ := box_new w12 #[.int .i64 0, .int .i64 nn2, .string s2, .slice a2 c2 d2] 31
            obtain ⟨xb, hxb⟩ : ∃ xb, w12.heap.size = xb := ⟨_, rfl⟩
            rw [hxb] at X13
            have HB13 := Lib.hid (Ext.trans' HJ.out (Ext.trans' b12 b13))
            have HR13 := Lib.hid (TmV.ext b13 _ _ HR1.out)
            have HX13 := Lib.hid X13
            replace g0 := cell_later (Ext.trans' b12 b13) g0
            clear f1 f2 f3 fv hr1 b12 b13 z13 X13 C l0 l1 l2 l3
            go_upto_region 24 with fail
            (try rw [e13])
            (try rw [hxb])
            clear e13 hxb
            (go_wp2_with fail; go_fit (var_at _ y); rintro e w14 ⟨rfl, b14⟩)
            have HB14 := Lib.hid (Ext.trans' HB13.out b14)
            have HX14 := Lib.hid (HX13.out.ext b14)
            have HR14 := Lib.hid (TmV.ext b14 _ _ HR13.out)
            obtain ⟨hy0, hy1⟩ : I64 y ∧ True := ⟨by have := HVS.out y (List.mem_of_getElem? HY.out); unfold I64; omega, trivial⟩
            have C := Whole_at (HI11.out.ext HB14.out) (x := varV y) (leaf_tm (hide (awayB F1) w11) i64_0 hy0 (by unfold BIG; decide))
            rw [HA.out.2] at C
            clear b14
            (go_wp2_with fail; go_fit (C); rintro e w15 ⟨r2, rfl, hr2, b15⟩)
            have HR2 := Lib.hid hr2.bare
            obtain ⟨k3, nn3, s3, a3, c3, d3, rfl, j1, j2, j3, jv⟩ := four_of hr2
            obtain ⟨w16, e16, b16, z16, X16⟩ := box_new w15 #[.int .i64 k3, .int .i64 nn3, .string s3, .slice a3 c3 d3] 31
            obtain ⟨yb, hyb⟩ : ∃ yb, w15.heap.size = yb := ⟨_, rfl⟩
            rw [hyb] at X16
            have HB16 := Lib.hid (Ext.trans' HB14.out (Ext.trans' b15 b16))
            have HX16 := Lib.hid (And.intro (HX14.out.ext (Ext.trans' b15 b16)) X16)
            have C := Same_at (TmV.ext (Ext.trans' b15 b16) _ _ HR14.out) (TmV.ext b16 _ _ HR2.out)
            rw [var_good (by omega) (by omega), same_self] at C
            clear j1 j2 j3 jv hr2 b15 b16 z16 X16 hm1
            obtain ⟨x0, x1, x2, x3, _⟩ := HX16.out.1.four
            obtain ⟨y0, y1, y2, y3, _⟩ := HX16.out.2.four
            go_upto_region 25 with fail
            (try rw [e16])
            (try rw [hyb])
            clear e16 hyb
            (go_wp2_with fail; go_fit (C); rintro e w17 ⟨rfl, b17⟩)
            have HB17 := Lib.hid (Ext.trans' HB16.out b17)
            obtain ⟨p0, p1, p2, p3, _⟩ := (HX16.out.1.ext b17).four
            clear b17 C x0 x1 x2 x3 y0 y1 y2 y3
            go_wp2
            go_roundw
            case rel => exact ⟨i + 1, by omega, by go_num, HB17⟩
            case measure => simp [intOf]; omega
end Go.Proofs.Ytannchfoldnhcaa
/- CodeSelf: a head fits itself, and its slots are its variables: for every input the law answers true. No condition. -/
namespace Go.Proofs.Ytannchfoldnhcaa
open Go.RowKit
namespace codeSelf
open Go.ChangeShapes Go.WideShapes Go.ChangeAt Go.RowKit
theorem own : ownKnob Try.prog.godebug = none := by kernel_rfl
theorem laidOut : laidOutB Try.prog = true := by kernel_rfl
set_option linter.unusedVariables false
set_option maxRecDepth 100000 in
theorem lifted (os : Os) (started : os.Started) (H : Type) (enc : TypeId × Value → H) :
    ReturnsInHanded {} Try.checked os 6 .any (Rows.codeSelfSpec.pre6 enc Try.prog Try.f6 Rows.codeSelfRow.domain false) (Rows.codeSelfSpec.post enc Try.prog Try.f6 false true false false) := by
  refine returnsInHanded_of_change_sized (C := Try.checked) own started (by kernel_rfl) Try.func6
    (ChangeSpec.witness6 (enc := enc) (C := Try.checked) false ⟨#[], #[.agg #[.int .i64 0,.int .i64 0,.string ⟨#[]⟩,.slice none 0 0]], []⟩ 8 (by kernel_rfl) (by kernel_rfl) (by kernel_rfl) (by kernel_rfl)) ?_
  intro W base args ds gs before hval0 hW hcnd hsz0 _
  have hval : ∀ (j : Nat) t v, Try.f6.params[j]? = some t → args[j]? = some v → Value.okWide Try.prog W .any base t v := hval0
  have hW' := hW
  obtain ⟨p, q, hA0, hV, rfl, hfz, hnd⟩ := hW
  have hA : DataW.TrodAll enc Try.prog W 0 (fun _ => true) true Try.f6.params.toList args.toList ds p := hA0
  have hsz : (DataW.weightsEach Try.prog (Try.f6.params.toList ++ []) (ds ++ gs)).all (· ≤ reachBytes) = true := hsz0
  rw [Try.params6] at hA hval hsz
  obtain ⟨v0, vs0, d0, ds0, p0, q0, hargs, rfl, rfl, h0, r0⟩ := trodAll_cons hA
  obtain ⟨rfl, rfl, rfl⟩ := trodAll_nil r0
  obtain rfl : args = #[v0] := by cases args; simp_all
  obtain ⟨rfl, rfl⟩ := trodVars_none hV
  clear hA0 hval0 hsz0
  have k0 := h0
  have lt0 := lt_of_trod h0
  obtain ⟨a0, w0⟩ := term_of_trod h0 (hval 0 31 v0 rfl rfl) (weights_ok hsz (j := 0) (t := 31) (d := d0) rfl rfl)
  refine (codeSelf_at w0).mono fun e W' ⟨he, bel⟩ => ?_
  subst he
  exact ⟨_, rfl, _, _, _, [], _, [], hW', trodAll_mk1 (shut_bool Try.underlying4 _), (trodAll_cons_mk (Below.trod laidOut (by kernel_rfl) (of_decide_eq_true (by kernel_rfl)) k0 bel lt0) trodAll_mk0), rfl, bel.frame _, fun h => by cases h⟩
theorem proved : Rows.CodeSelfSaid :=
  OpenClaim.holds_of_wide 6 Try.f6 rfl rfl rfl rfl rfl rfl rfl ⟨rfl, rfl, rfl, rfl, rfl⟩ rfl rfl rfl rfl rfl (by kernel_rfl) Try.func6 (by kernel_rfl)
    (of_decide_eq_true (by kernel_rfl)) (by unfold Func.isWrapper; first | (rw [if_pos (by decide +kernel)]; kernel_rfl) | (rw [if_neg (by decide +kernel)]; exact ⟨rfl, rfl⟩))
    (fun os started H enc _ => lifted os started H enc)
#print axioms proved
end codeSelf

end Go.Proofs.Ytannchfoldnhcaa
