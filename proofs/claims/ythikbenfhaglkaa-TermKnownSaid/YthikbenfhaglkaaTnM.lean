/- Package term: Depth, walked. -/
import Derived.Test.YthikbenfhaglkaaTnL
namespace Go.Proofs.Ythikbenfhaglkaa
open Go.RowKit
set_option linter.unusedVariables false

theorem depths_drop' : ∀ {ts : List Tm} {i : Nat} {y : Tm}, ts[i]? = some y → depthsN (ts.take (i + 1)) = max (depthsN (ts.take i)) (depthN y)
  | x :: r, 0, y, h => by
    simp at h; subst h
    simp [depthsN]
  | x :: r, i + 1, y, h => by
    have := depths_drop' (ts := r) (i := i) (y := y) (by simpa using h)
    simp only [List.take_succ_cons, depthsN, this]
    omega
  | [], i, y, h => by simp at h
theorem depths_take' (ts : List Tm) (i : Nat) : depthsN (ts.take i) ≤ depthsN ts := by
  induction ts generalizing i with
  | nil => simp
  | cons x r ih =>
    cases i with
    | zero => simp [depthsN]
    | succ i =>
      simp only [List.take_succ_cons, depthsN]
      have := ih i
      omega
theorem depth_args (x : Tm) : depthN x = depthsN x.args + 1 := by cases x; rw [depthN]; rfl
theorem heap_new (w : World) (o : Obj) : (w.alloc o).heap[w.heap.size]? = some o := by
  show (w.heap.push _)[w.heap.size]? = _
  simp
theorem infoTm2 : ∃ j, Try.prog.info? 25 = some j ∧ j.size ≠ 0 := by
  obtain ⟨i0, hi0, _, hs0, _⟩ := info_parts infoTerm
  exact ⟨i0, hi0, by rw [hs0]; decide⟩
theorem zeroI (w : World) : (zeroValue 3).run Try.prog w = .ok (.int .i64 0) w := by kernel_rfl
set_option maxHeartbeats 4000000 in
set_option maxRecDepth 100000 in
theorem depth_in {W : World} {mb : Nat} (hmb : W.heap.size ≤ mb) : ∀ (q : Nat) (x : Tm) (a : Addr) (w : World) (L : List (Addr × Nat)), q ≤ 1000 → TAt W x a → Below W.heap.size W w → PMap w mb L → Noted W L →
    Calls Try.prog 32 #[.map (some mb), .pointer (some a), .int .i64 ((q + 1 : Nat) : Int)] w fun e w' => e = .returned (.int .i64 (min (depthN x) (q + 1) : Nat)) ∧ Below W.heap.size W w' ∧ ∃ L', PMap w' mb L' ∧ Noted W L'
  | 0, x, a, w, L, hq, ht, hb, hm, hn => by
    have hr : min (depthN x) (0 + 1) = 1 := by have := depth_pos x; omega
    rw [hr]
    clear hr
    have HM := Lib.hid hm
    clear hm
    go_enter Try.func32, Try.ntmps32
    go_wp2
    go_ret
    exact ⟨rfl, hb, L, HM.out, hn⟩
  | q + 1, x, a, w, L, hq, ht, hb, hm, hn => by
    obtain ⟨b, off, ao, c, rfl, hbW, c3, g1, g2, g3, g4⟩ := ht.args
    unfold BIG at g3
    obtain ⟨j, hj1, hj2⟩ := infoTm2
    have look := hm.look (P := Try.prog) (t := 56) Try.underlying56 Try.underlying58 hj1 hj2 (zeroI w) ⟨b, off, none⟩ (by
      obtain ⟨cc, ty, e⟩ := ht.plain
      exact ⟨cc, ty, (hb.block b hbW).trans e⟩)
    have hx := depth_args x
    obtain ⟨m, hm0⟩ : ∃ m, x.args.length = m := ⟨_, rfl⟩
    obtain ⟨ts, hts⟩ : ∃ ts, x.args = ts := ⟨_, rfl⟩
    rw [hts] at hx hm0
    rw [hts, hm0] at c3 g1 g3
    have cw := cell_later hb c3
    rw [hts] at g4
    rw [hm0] at g4
    obtain ⟨r, hr⟩ : ∃ r, min (depthN x) (q + 1 + 1) = r := ⟨_, rfl⟩
    rw [hr]
    obtain ⟨Q, hQ⟩ : ∃ Q : Int, ((q + 1 + 1 : Nat) : Int) = Q := ⟨_, rfl⟩
    rw [hQ]
    obtain ⟨p, hp⟩ : ∃ p : Int, ((q + 1 : Nat) : Int) = p := ⟨_, rfl⟩
    have hq1 : Q - 1 = p := by omega
    have HP := Lib.hid hp
    have hp0 : 1 ≤ p := by omega
    have hp1 : p ≤ 100000 := by omega
    clear hp
    have hQ1 : (Q == 1) = false := by apply beq_false_of_ne; omega
    have hQb : Q ≤ 100000 := by omega
    have hQ0 : 2 ≤ Q := by omega
    by_cases h0 : m = 0
    · have : r = 1 := by
        obtain rfl : ts = [] := List.length_eq_zero_iff.1 (by rw [hm0, h0])
        rw [← hr, hx]
        simp [depthsN]
      subst this
      subst h0
      have HM := Lib.hid hm
      have HN := Lib.hid hn
      clear hm look g4 hr hx hn c3 hq1 hQ
      go_enter Try.func32, Try.ntmps32
      go_wp2
      go_ret
      exact ⟨rfl, hb, L, HM.out, HN.out⟩
    obtain ⟨b', off', rfl, hargs⟩ := g4.resolve_left h0
    have HM0 := Lib.hid hm0
    have hm0' : ((m : Int) == 0) = false := by apply beq_false_of_ne; omega
    have HM := Lib.hid hm
    have HN := Lib.hid hn
    have HX := Lib.hid hx
    have HR := Lib.hid hr
    have HT := Lib.hid ht
    have HA := Lib.hid hargs
    have HB := Lib.hid hb
    have HC3 := Lib.hid c3
    rcases look with ⟨d, hd, hrun⟩ | hrun
    · obtain ⟨y, hy, hyd⟩ := hn _ hd
      have hxy : y = x := hy.same ht
      subst hxy
      have hrd : min (d : Int) Q = r := by rw [← hQ]; simp only at hyd; omega
      clear hm hn hx hr hargs hd hyd hy g4 hm0 hq1 hQ ht
      by_cases hdq : (d : Int) ≤ Q
      · have hdr : d = r := by omega
        subst hdr
        clear hrd
        go_enter Try.func32, Try.ntmps32
        go_wp2_with (at_lookup; refine wpList_look_run rfl _ _ _ rfl rfl rfl hrun ?_)
        go_ret
        exact ⟨rfl, HB.out, L, HM.out, HN.out⟩
      · have hdr : Q = r := by omega
        have hdq' : Q < d := by omega
        clear hrd
        go_enter Try.func32, Try.ntmps32
        go_wp2_with (at_lookup; refine wpList_look_run rfl _ _ _ rfl rfl rfl hrun ?_)
        go_ret
        subst hdr
        exact ⟨rfl, HB.out, L, HM.out, HN.out⟩
    · have IH := Lib.hid (fun (i : Nat) (y : Tm) (hy : ts[i]? = some y) (wr : World) (L : List (Addr × Nat)) (hb : Below W.heap.size W wr) (hm : PMap wr mb L) (hn : Noted W L) => depth_in hmb q y _ wr L (by omega) (hargs i y hy) hb hm hn)
      have HQ := Lib.hid hQ
      have HQC := Lib.hid (show Q = (q : Int) + 2 by omega)
      clear hm hn hx hr hargs g4 hm0 hQ ht hts c3
      go_enter Try.func32, Try.ntmps32
      go_wp2_with (at_lookup; refine wpList_look_run rfl _ _ _ rfl rfl rfl hrun ?_)
      go_loopw [9, 36] (fun z v wr => ∃ (i t : Nat) (L : List (Addr × Nat)), i ≤ m ∧ v = .int .i64 i ∧ z = .int .i64 t ∧ Hid (t = 1 + min (depthsN (ts.take i)) (q + 1)) ∧ (t : Int) < Q ∧ Hid (Below W.heap.size W wr) ∧ Hid (PMap wr mb L ∧ Noted W L)) (fun _ v _ => m - (intOf v).toNat)
      case atStart => exact ⟨0, 1, L, Nat.zero_le _, rfl, rfl, Lib.hid (by simp [depthsN]), by omega, HB, Lib.hid ⟨HM.out, HN.out⟩⟩
      case round =>
        obtain ⟨i, t, L1, hi, rfl, rfl, HTT, htq, HB1, HL1⟩ := hrel
        have c3 := cell_later HB1.out HC3.out
        by_cases hil : i < m
        · obtain ⟨y, hy⟩ : ∃ y, ts[i]? = some y := ⟨_, List.getElem?_eq_getElem (by rw [HM0.out]; exact hil)⟩
          have ih := IH.out i y hy wr L1 HB1.out HL1.out.1 HL1.out.2
          rw [HP.out] at ih
          obtain ⟨z, hz⟩ : ∃ z, min (depthN y) (q + 1) = z := ⟨_, rfl⟩
          rw [hz] at ih
          have hds := depths_drop' hy
          have hdt := depths_take' ts (i + 1)
          have hzb : z ≤ q + 1 := by omega
          have HN2 : Hid (max t (1 + z) = 1 + min (depthsN (ts.take (i + 1))) (q + 1)) := Lib.hid (by have := HTT.out; rw [hds]; omega)
          have HE : Hid (1 + z = q + 2 → r = q + 2) := Lib.hid (fun h => by have := HX.out; have := HR.out; omega)
          clear hds hdt hz hy HTT
          by_cases htz : t < 1 + z
          · have htz' : (t : Int) < 1 + z := by omega
            by_cases hzq : 1 + z = q + 2
            · have hrq := HE.out hzq
              have hzQ : (1 : Int) + z = Q := by have := HQC.out; omega
              have HRQ : Hid ((r : Int) = Q) := Lib.hid (by have := HQC.out; omega)
              clear hrq
              (go_wp2_with fail; go_fit (ih); rintro e w2 ⟨rfl, b2, L2, m2, n2⟩)
              have B2 := Lib.hid b2
              have L22 := Lib.hid (And.intro m2 n2)
              clear b2 m2 n2
              go_wp2
              go_ret
              exact ⟨congrArg (fun n => Ending.returned (Value.int .i64 n)) HRQ.out.symm, B2.out, L2, L22.out⟩
            · have hzQ : ¬ (1 : Int) + z = Q := by have := HQC.out; omega
              have hzQ2 : (1 : Int) + z < Q := by have := HQC.out; omega
              have hzQ' : ((1 : Int) + z == Q) = false := beq_false_of_ne hzQ
              have HM2 : Hid (1 + z = 1 + min (depthsN (ts.take (i + 1))) (q + 1)) := Lib.hid (by have := HN2.out; omega)
              (go_wp2_with fail; go_fit (ih); rintro e w2 ⟨rfl, b2, L2, m2, n2⟩)
              have B2 := Lib.hid b2
              have L22 := Lib.hid (And.intro m2 n2)
              clear b2 m2 n2
              go_wp2
              go_roundw
              case rel => exact ⟨i + 1, 1 + z, L2, by omega, by go_num, by go_num, HM2, by simpa using hzQ2, B2, L22⟩
              case measure => simp [intOf]; omega
          · have htz' : ¬ (t : Int) < 1 + z := by omega
            have htz2 : (1 : Int) + z ≤ t := by omega
            have htQ : ¬ (t : Int) = Q := by omega
            have htQ' : ((t : Int) == Q) = false := beq_false_of_ne htQ
            have HM2 : Hid (t = 1 + min (depthsN (ts.take (i + 1))) (q + 1)) := Lib.hid (by have := HN2.out; omega)
            (go_wp2_with fail; go_fit (ih); rintro e w2 ⟨rfl, b2, L2, m2, n2⟩)
            have B2 := Lib.hid b2
            have L22 := Lib.hid (And.intro m2 n2)
            clear b2 m2 n2
            go_wp2
            go_roundw
            case rel => exact ⟨i + 1, t, L2, by omega, by go_num, by go_num, HM2, htq, B2, L22⟩
            case measure => simp [intOf]; omega
        · obtain ⟨L', w4, hrun2, hPM, hgrow, hmem⟩ := HL1.out.1.put (P := Try.prog) (t := 56) Try.underlying56 Try.underlying58 hj1 hj2 ⟨b, off, none⟩ (by
            obtain ⟨cc, ty, e⟩ := HT.out.plain
            exact ⟨cc, ty, (HB1.out.block b hbW).trans e⟩) t
          have htr : t = r ∧ depthN x = t := by
            have a1 := HTT.out
            have a2 := HX.out
            have a3 := HR.out
            have a4 := HQC.out
            rw [List.take_of_length_le (by rw [HM0.out]; omega)] at a1
            omega
          obtain ⟨htr, hxt⟩ := htr
          subst htr
          have HFIN : Hid (Below W.heap.size W w4 ∧ ∃ L', PMap w4 mb L' ∧ Noted W L') := Lib.hid ⟨HB1.out.grown hgrow HB1.out.size (fun k e => by cases e; exact hmb), L', hPM, fun p hp => by
            rcases hmem p hp with h | h
            · exact HL1.out.2 p h
            · rw [h]; exact ⟨x, HT.out, hxt⟩⟩
          clear hPM hgrow hmem hxt HTT
          go_wp2_with (at_mapUpdate; refine wpList_put_run rfl _ _ _ _ rfl rfl rfl rfl hrun2 ?_)
          go_ret
          exact ⟨rfl, HFIN.out⟩
theorem Depth_at {E : Nat → Bool} (x : Tm) (w : World) (v : Value) (hv : TmQ E w x v) : Calls Try.prog 17 #[v] w fun e w' => e = .returned (.int .i64 (min (depthN x) 65 : Nat)) ∧ Below w.heap.size w w' := by
  obtain ⟨r, hr⟩ : ∃ r, min (depthN x) 65 = r := ⟨_, rfl⟩
  rw [hr]
  obtain ⟨u, rfl⟩ := hv.bare.pair
  obtain ⟨kx, hkx⟩ : ∃ k, x.k = k := ⟨_, rfl⟩
  obtain ⟨nx, hnx⟩ : ∃ k, x.n = k := ⟨_, rfl⟩
  obtain ⟨sx, hsx⟩ : ∃ k, x.s = k := ⟨_, rfl⟩
  have hb : Below w.heap.size w (w.alloc (box4 kx nx sx u 25)) := bel1' _ _
  have ht : TAt (w.alloc (box4 kx nx sx u 25)) x ⟨w.heap.size, 0, none⟩ :=
    ⟨_, _, u, rfl, ⟨_, _, heap_new _ _⟩, by rw [hkx]; simp, by rw [hnx]; simp, by rw [hsx]; simp, by simp, (hv.later hb).less (fun _ _ => rfl)⟩
  have hD := depth_in (W := w.alloc (box4 kx nx sx u 25)) (mb := (w.alloc (box4 kx nx sx u 25)).heap.size) (Nat.le_refl _) 64 x ⟨w.heap.size, 0, none⟩ ((w.alloc (box4 kx nx sx u 25)).alloc (.map #[] 0)) [] (by omega) ht (bel1' _ _) ⟨⟨#[], 0, heap_new _ _, rfl⟩, fun p hp => by simp at hp⟩ (fun p hp => by simp at hp)
  rw [show 64 + 1 = 65 from rfl, hr] at hD
  have hs1 : (w.alloc (box4 kx nx sx u 25)).heap.size = w.heap.size + 1 := by simp
  rw [hs1] at hD
  have HH := Lib.hid hb
  show Calls Try.prog 17 #[.agg #[.int .i64 x.k, .int .i64 x.n, .string x.s, u]] w _
  rw [hkx, hnx, hsx]
  clear hkx hnx hsx ht hr hv hb
  have hmm := @run_makeMap Try.prog
  go_enter Try.func17, Try.ntmps17
  (go_wp2_with fail; go_fit (hD); rintro e w1 ⟨rfl, b1, _⟩)
  rw [← hs1] at b1
  have B1 := Lib.hid (Ext.trans' HH.out b1)
  clear b1
  go_wp2
  go_ret
  exact ⟨rfl, B1.out⟩
end Go.Proofs.Ythikbenfhaglkaa
