/- Package term: what is good. -/
import Derived.Test.YtnnadmabgaopdaaTnC
namespace Go.Proofs.Ytnnadmabgaopdaa
open Go.RowKit
set_option linter.unusedVariables false

/-- Of that depth at most, and formed. -/
def okT (t : Tm) (q : Nat) : Bool := decide (depthN t ≤ q) && formedT t
def okL : List Tm → Nat → Bool
  | [], _ => true
  | x :: r, q => okT x q && okL r q
theorem okL_eq : ∀ (l : List Tm) (q : Nat), okL l q = (decide (depthsN l ≤ q) && formedL l)
  | [], q => by simp [okL, depthsN, formedL]
  | x :: r, q => by
    rw [okL, okL_eq r q, depthsN, formedL]
    unfold okT
    by_cases h1 : depthN x ≤ q
    · by_cases h2 : depthsN r ≤ q
      · rw [decide_eq_true h1, decide_eq_true h2, decide_eq_true (by omega)]
        cases formedT x <;> cases formedL r <;> rfl
      · rw [decide_eq_true h1, decide_eq_false h2, decide_eq_false (by omega)]
        cases formedT x <;> rfl
    · have e : decide (max (depthN x) (depthsN r) ≤ q) = false := decide_eq_false (by omega)
      rw [decide_eq_false h1, e]
      rfl
theorem okT_zero (t : Tm) : okT t 0 = false := by
  unfold okT
  have := depth_pos t
  rw [decide_eq_false (by omega)]
  rfl
theorem okT_succ (k n : Int) (s : ByteArray) (ts : List Tm) (q : Nat) : okT (.mk k n s ts) (q + 1) = (plainT k n s.data.toList ts.length && okL ts q) := by
  unfold okT
  rw [okL_eq, formedT, depthN]
  by_cases h : depthsN ts ≤ q
  · rw [decide_eq_true h, decide_eq_true (by omega)]
    cases plainT k n s.data.toList ts.length <;> rfl
  · rw [decide_eq_false h, decide_eq_false (by omega)]
    cases plainT k n s.data.toList ts.length <;> rfl
set_option maxHeartbeats 4000000 in
set_option maxRecDepth 100000 in
theorem good_at : ∀ (q : Nat) (x : Tm), q ≤ 1000000 → ∀ (w : World) (v : Value), TmV w x v →
    Calls Try.prog 30 #[v, .int .i64 q] w fun e w' => e = .returned (.bool (okT x q)) ∧ Below w.heap.size w w'
  | 0, x, hq, w, v, hv => by
    obtain ⟨k, n, s, u, rfl⟩ := hv.four
    rw [okT_zero]
    clear hv
    go_enter Try.func30, Try.ntmps30
    go_wp2
    go_ret
    exact ⟨rfl, bel1' _ _⟩
  | q + 1, .mk k n s ts, hq, w, v, hv => by
    obtain ⟨u, rfl, hs, hk, hn, hu⟩ := tmV_iff.1 hv
    obtain ⟨a, c, rfl, h1, h2, h3⟩ := hu.len
    unfold BIG at h3 hs
    rw [okT_succ]
    obtain ⟨m, hm⟩ : ∃ m, ts.length = m := ⟨_, rfl⟩
    have IH := Lib.hid (fun (y : Tm) => good_at q y (by omega))
    have HU := Lib.hid hu
    have HM := Lib.hid hm
    rw [hm] at h1 h3 hu HU ⊢
    have F := fun w => fits_at (k := k) (n := n) (s := s) (a := a) (m := m) (c := c) hs hn h1 h2 h3 w
    obtain ⟨p, hp⟩ : ∃ p, plainT k n s.data.toList m = p := ⟨_, rfl⟩
    rw [hp] at F ⊢
    obtain ⟨Q, hQ⟩ : ∃ Q : Int, ((q + 1 : Nat) : Int) = Q := ⟨_, rfl⟩
    rw [hQ]
    have hq1 : Q - 1 = q := by omega
    have hQ0 : (Q == 0) = false := by apply beq_false_of_ne; omega
    have hQb : Q ≤ 1000001 := by omega
    have hQ1 : 0 < Q := by omega
    clear hv hu hm hp hQ
    cases p
    · rw [Bool.false_and]
      go_enter Try.func30, Try.ntmps30
      (go_wp2_with fail; go_fit (F _); rintro e w1 ⟨rfl, b1⟩)
      have B1 := Lib.hid (Ext.trans' (bel1' w _) b1)
      clear b1
      go_wp2
      go_ret
      exact ⟨rfl, B1.out⟩
    · rw [Bool.true_and]
      obtain ⟨r, hr⟩ : ∃ r, okL ts q = r := ⟨_, rfl⟩
      rw [hr]
      have HR := Lib.hid hr
      clear hr
      go_enter Try.func30, Try.ntmps30
      (go_wp2_with fail; go_fit (F _); rintro e w1 ⟨rfl, b1⟩)
      obtain ⟨e0, e1, e2, e3⟩ := box_cells w 25 _ _ _ _ b1
      have B1 := Lib.hid (Ext.trans' (bel1' w _) b1)
      clear b1 F
      go_wp2_with fail
      go_loopw [17] (fun v wr => ∃ i : Nat, i ≤ m ∧ v = .int .i64 i ∧ Hid (okL (ts.drop i) q = r) ∧ Hid (Below w.heap.size w wr)) (fun v _ => m - (intOf v).toNat)
      case atStart => exact ⟨0, Nat.zero_le _, rfl, Lib.hid (by rw [List.drop_zero]; exact HR.out), B1⟩
      case round =>
        obtain ⟨i, hi, rfl, HD, HB⟩ := hrel
        by_cases hil : i < m
        · obtain ⟨y, hy⟩ : ∃ y, ts[i]? = some y := ⟨_, List.getElem?_eq_getElem (by rw [HM.out]; exact hil)⟩
          have hdr : ts.drop i = y :: ts.drop (i + 1) := by
            obtain ⟨hlt', rfl⟩ := List.getElem?_eq_some_iff.1 hy
            exact List.drop_eq_getElem_cons hlt'
          have hd := HD.out
          rw [hdr, okL] at hd
          obtain ⟨b, off, k', n', s', u', rfl, hbb, _, _, _, c0, c1, c2, c3, htu, ht⟩ := (HU.out.ext HB.out).get hy
          obtain ⟨au, cu, rfl, _⟩ := htu.len
          clear htu
          have ih := IH.out y _ _ (TmV.ext (bel1' wr (box4 k' n' s' (.slice au y.args.length cu) 25)) _ _ ht)
          clear hdr HD ht
          cases hq : okT y q
          · rw [hq, Bool.false_and] at hd
            rw [hq] at ih
            subst hd
            clear hq hy HR
            (go_wp2_with fail; go_fit (ih); rintro e w2 ⟨rfl, b2⟩)
            have B2 := Lib.hid (Ext.trans' HB.out (Ext.trans' (bel1' _ _) b2))
            clear b2
            go_wp2
            go_ret
            exact ⟨rfl, B2.out⟩
          · rw [hq, Bool.true_and] at hd
            rw [hq] at ih
            have HD := Lib.hid hd
            clear hq hd hy
            (go_wp2_with fail; go_fit (ih); rintro e w2 ⟨rfl, b2⟩)
            have B2 := Lib.hid (Ext.trans' HB.out (Ext.trans' (bel1' _ _) b2))
            clear b2
            go_wp2
            go_roundw
            case rel => exact ⟨i + 1, by omega, by go_num, HD, B2⟩
            case measure => simp [intOf]; omega
        · have hd := HD.out
          rw [List.drop_eq_nil_of_le (by rw [HM.out]; omega), okL] at hd
          subst hd
          clear HR HD
          go_wp2
          go_ret
          exact ⟨rfl, HB.out⟩
theorem Good_at (x : Tm) (w : World) (v : Value) (hv : TmV w x v) : Calls Try.prog 20 #[v] w fun e w' => e = .returned (.bool (goodT x)) ∧ Below w.heap.size w w' := by
  have S := fun w (h : TmV w x v) => size_at x w v h
  have G := fun w (h : TmV w x v) => good_at 64 x (by omega) w v h
  have hg : goodT x = (decide (sizeN x ≤ 2000) && okT x 64) := by
    unfold goodT okT
    rw [Bool.and_assoc]
  obtain ⟨k, n, s, u, rfl⟩ := hv.four
  have hv0 := TmV.ext (bel1' w (box4 k n s u 25)) _ _ hv
  obtain ⟨p, hp⟩ : ∃ p, min (sizeN x) 2001 = p := ⟨_, rfl⟩
  rw [hp] at S
  rw [hg]
  generalize okT x 64 = f at G ⊢
  clear hg hv
  by_cases h1 : p ≤ 2000
  · rw [decide_eq_true (by omega), Bool.true_and]
    clear hp
    go_enter Try.func20, Try.ntmps20
    (go_wp2_with fail; go_fit (S _ hv0); rintro e w1 ⟨rfl, b1⟩)
    obtain ⟨e0, e1, e2, e3⟩ := box_cells w 25 _ _ _ _ b1
    have hv1 := TmV.ext b1 _ _ hv0
    (go_wp2_with fail; go_fit (G _ hv1); rintro e w2 ⟨rfl, b2⟩)
    have B2 := Lib.hid (Ext.trans' (bel1' w _) (Ext.trans' b1 b2))
    clear b1 b2
    go_wp2
    go_ret
    exact ⟨rfl, B2.out⟩
  · rw [decide_eq_false (by omega), Bool.false_and]
    clear hp
    go_enter Try.func20, Try.ntmps20
    (go_wp2_with fail; go_fit (S _ hv0); rintro e w1 ⟨rfl, b1⟩)
    obtain ⟨e0, e1, e2, e3⟩ := box_cells w 25 _ _ _ _ b1
    have B1 := Lib.hid (Ext.trans' (bel1' w _) b1)
    clear b1
    go_wp2
    go_ret
    exact ⟨rfl, B1.out⟩
end Go.Proofs.Ytnnadmabgaopdaa
