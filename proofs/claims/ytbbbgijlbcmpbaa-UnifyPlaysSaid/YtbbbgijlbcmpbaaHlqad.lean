import Derived.Test.YtbbbgijlbcmpbaaHlqac
import Derived.Deep.QuietTactic
import Derived.Test.YtbbbgijlbcmpbaaHlqab
import Derived.Deep.RegionHeld3
import Derived.Deep.LoopGhost
import Derived.Test.YtbbbgijlbcmpbaaHlqaa
import Derived.Test.YtbbbgijlbcmpbaaRows
set_option linter.unusedVariables false
set_option linter.unusedSimpArgs false
/- Package term: Same. -/
namespace Go.Proofs.Ytbbbgijlbcmpbaa
open Go.RowKit
set_option linter.unusedVariables false

theorem same_mk' (k n k' n' : Int) (s s' : ByteArray) (ts ts' : List Tm) : sameT (.mk k n s ts) (.mk k' n' s' ts') = (k == k' && n == n' && s.data.toList == s'.data.toList && sameL ts ts') := by rw [sameT]
theorem sames_len' : ∀ {a b : List Tm}, ¬ a.length = b.length → sameL a b = false
  | [], [], h => absurd rfl h
  | x :: r, y :: q, h => by
    rw [sameL, sames_len' (a := r) (b := q) (by simpa using h), Bool.and_false]
  | [], y :: q, _ => by simp [sameL]
  | x :: r, [], _ => by simp [sameL]
theorem sames_step' {a b : List Tm} {i : Nat} {x y : Tm} (hx : a[i]? = some x) (hy : b[i]? = some y) : sameL (a.drop i) (b.drop i) = (sameT x y && sameL (a.drop (i + 1)) (b.drop (i + 1))) := by
  obtain ⟨h1, rfl⟩ := List.getElem?_eq_some_iff.1 hx
  obtain ⟨h2, rfl⟩ := List.getElem?_eq_some_iff.1 hy
  rw [List.drop_eq_getElem_cons h1, List.drop_eq_getElem_cons h2, sameL]
set_option maxHeartbeats 4000000 in
set_option maxRecDepth 100000 in
theorem equal_at {w : World} {va vb : Value} {ts ts' : List Tm} (hu : Tms w va ts) (hu' : Tms w vb ts')
    (IH : Hid (∀ x ∈ ts, ∀ (y : Tm) (w : World) (va vb : Value), TmV w x va → TmV w y vb → Calls Try.prog 74 #[va, vb] w fun e w' => e = .returned (.bool (sameT x y)) ∧ Below w.heap.size w w')) :
    Calls Try.prog 99 #[va, vb, .func (.func 74) #[] #[]] w fun e w' => e = .returned (.bool (sameL ts ts')) ∧ Below w.heap.size w w' := by
  obtain ⟨a, c, rfl, h1, h2, h3⟩ := hu.len
  obtain ⟨a', c', rfl, h1', h2', h3'⟩ := hu'.len
  unfold BIG at h3 h3'
  obtain ⟨m, hm⟩ : ∃ m, ts.length = m := ⟨_, rfl⟩
  obtain ⟨m', hm'⟩ : ∃ m', ts'.length = m' := ⟨_, rfl⟩
  by_cases g : m = m'
  · subst g
    obtain ⟨r, hr⟩ : ∃ r, sameL ts ts' = r := ⟨_, rfl⟩
    rw [hr]
    have HR := Lib.hid hr
    have HU := Lib.hid hu
    have HU' := Lib.hid hu'
    have HM := Lib.hid hm
    have HM' := Lib.hid hm'
    rw [hm] at h1 h3 HU hu ⊢
    rw [hm'] at h1' h3' HU' hu' ⊢
    clear hr hm hm' hu hu'
    go_enter Try.func99, Try.ntmps99
    go_wp2_with fail
    go_loopw [17] (fun v wr => ∃ i : Nat, i ≤ m ∧ v = .int .i64 i ∧ Hid (sameL (ts.drop i) (ts'.drop i) = r) ∧ Hid (Below w.heap.size w wr)) (fun v _ => m - (intOf v).toNat)
    case atStart => exact ⟨0, Nat.zero_le _, rfl, Lib.hid (by rw [List.drop_zero, List.drop_zero]; exact HR.out), Lib.hid (Below.refl _ _)⟩
    case round =>
      obtain ⟨i, hi, rfl, HD, HB⟩ := hrel
      by_cases hil : i < m
      · obtain ⟨x, hx⟩ : ∃ x, ts[i]? = some x := ⟨_, List.getElem?_eq_getElem (by rw [HM.out]; exact hil)⟩
        obtain ⟨y, hy⟩ : ∃ y, ts'[i]? = some y := ⟨_, List.getElem?_eq_getElem (by rw [HM'.out]; exact hil)⟩
        have hd := HD.out
        rw [sames_step' hx hy] at hd
        obtain ⟨b, off, k1, n1, s1, u1, rfl, hbb, _, _, _, c0, c1, c2, c3, htu, ht⟩ := (HU.out.ext HB.out).get hx
        obtain ⟨b', off', k2, n2, s2, u2, rfl, hbb', _, _, _, d0, d1, d2, d3, htu', ht'⟩ := (HU'.out.ext HB.out).get hy
        obtain ⟨au, cu, rfl, _⟩ := htu.len
        obtain ⟨au', cu', rfl, _⟩ := htu'.len
        clear htu htu'
        have hw : Below wr.heap.size wr ((wr.alloc (box4 k1 n1 s1 (.slice au x.args.length cu) 31)).alloc (box4 k2 n2 s2 (.slice au' y.args.length cu') 31)) := (bel1' wr _).alloc (by simp) _
        have ih := IH.out x (List.mem_of_getElem? hx) y _ _ _ (TmV.ext hw _ _ ht) (TmV.ext hw _ _ ht')
        have HWW := Lib.hid hw
        clear HD ht ht' hx hy hw
        cases hq : sameT x y
        · rw [hq, Bool.false_and] at hd
          rw [hq] at ih
          subst hd
          clear hq HR
          (go_wp2_with fail; go_fit (ih); rintro e w2 ⟨rfl, b2⟩)
          have B2 := Lib.hid (Ext.trans' HB.out (Ext.trans' HWW.out b2))
          clear b2
          go_wp2
          go_ret
          exact ⟨rfl, B2.out⟩
        · rw [hq, Bool.true_and] at hd
          rw [hq] at ih
          have HD := Lib.hid hd
          clear hq hd
          (go_wp2_with fail; go_fit (ih); rintro e w2 ⟨rfl, b2⟩)
          have B2 := Lib.hid (Ext.trans' HB.out (Ext.trans' HWW.out b2))
          clear b2
          go_wp2
          go_roundw
          case rel => exact ⟨i + 1, by omega, by go_num, HD, B2⟩
          case measure => simp [intOf]; omega
      · have hd := HD.out
        rw [List.drop_eq_nil_of_le (by rw [HM.out]; omega), List.drop_eq_nil_of_le (by rw [HM'.out]; omega), sameL] at hd
        subst hd
        clear HR HD
        go_wp2
        go_ret
        exact ⟨rfl, HB.out⟩
  · rw [sames_len' (by rw [hm, hm']; exact g)]
    rw [hm] at h1 ⊢
    rw [hm'] at h1' ⊢
    have g' : ((m : Int) != m') = true := by simp; omega
    have gn : ¬ (m : Int) = m' := by omega
    clear hm hm' hu hu' IH h3 h3'
    go_enter Try.func99, Try.ntmps99
    go_wp2
    go_ret
    exact ⟨rfl, Below.refl _ _⟩
set_option maxHeartbeats 4000000 in
theorem same_at : ∀ (N : Nat) (x : Tm), sizeN x ≤ N → ∀ (y : Tm) (w : World) (va vb : Value), TmV w x va → TmV w y vb →
    Calls Try.prog 74 #[va, vb] w fun e w' => e = .returned (.bool (sameT x y)) ∧ Below w.heap.size w w'
  | 0, x, h, y, w, va, vb, hv, hv' => by have := size_pos x; omega
  | N + 1, .mk k n s ts, h, .mk k' n' s' ts', w, va, vb, hv, hv' => by
    obtain ⟨u, rfl, hs, hk, hn, hu⟩ := tmV_iff.1 hv
    obtain ⟨u', rfl, hs', hk', hn', hu'⟩ := tmV_iff.1 hv'
    obtain ⟨a, c, rfl, h1, h2, h3⟩ := hu.len
    obtain ⟨a', c', rfl, h1', h2', h3'⟩ := hu'.len
    unfold BIG at h3 h3' hs hs'
    have IH := Lib.hid (fun (x : Tm) (hx : x ∈ ts) => same_at N x (mem_size h hx))
    obtain ⟨m, hm⟩ : ∃ m, ts.length = m := ⟨_, rfl⟩
    obtain ⟨m', hm'⟩ : ∃ m', ts'.length = m' := ⟨_, rfl⟩
    have hmk := same_mk' k n k' n' s s' ts ts'
    have hw : Below w.heap.size w ((w.alloc (box4 k n s (.slice a ts.length c) 31)).alloc (box4 k' n' s' (.slice a' ts'.length c') 31)) := (bel1' w _).alloc (by simp) _
    have HW := Lib.hid hw
    by_cases g1 : k = k'
    · subst g1
      by_cases g2 : n = n'
      · subst g2
        by_cases g3 : s = s'
        · subst g3
          rw [hmk, beq_self_eq_true, beq_self_eq_true, beq_self_eq_true, Bool.true_and, Bool.true_and, Bool.true_and]
          have E := equal_at (hu.ext hw) (hu'.ext hw) IH
          generalize sameL ts ts' = r at E ⊢
          rw [hm] at HW E ⊢
          rw [hm'] at HW E ⊢
          clear hm hm' hv hv' hu hu' IH h hmk hw
          cases r
          · go_enter Try.func74, Try.ntmps74
            (go_wp2_with fail; go_fit (E); rintro e w2 ⟨rfl, b2⟩)
            have B2 := Lib.hid (Ext.trans' HW.out b2)
            clear b2
            go_wp2
            go_ret
            exact ⟨rfl, B2.out⟩
          · go_enter Try.func74, Try.ntmps74
            (go_wp2_with fail; go_fit (E); rintro e w2 ⟨rfl, b2⟩)
            have B2 := Lib.hid (Ext.trans' HW.out b2)
            clear b2
            go_wp2
            go_ret
            exact ⟨rfl, B2.out⟩
        · have hb : (s.data.toList == s'.data.toList) = false := beq_false_of_ne (fun e => g3 (bytes_eq e))
          have hr : sameT (.mk k n s ts) (.mk k n s' ts') = false := by rw [hmk, hb]; simp
          rw [hr]
          have g3' : (s.toList == s'.toList) = false := by rw [Lib.toList_data, Lib.toList_data]; exact hb
          have g3n : ¬ s.toList = s'.toList := by rw [Lib.toList_data, Lib.toList_data]; exact fun e => g3 (bytes_eq e)
          clear hr hmk hm hm' hv hv' hu hu' IH h hb hw
          go_enter Try.func74, Try.ntmps74
          go_wp2
          go_ret
          exact ⟨rfl, HW.out⟩
      · have hr : sameT (.mk k n s ts) (.mk k n' s' ts') = false := by rw [hmk, beq_false_of_ne g2]; simp
        rw [hr]
        have g2' : (n == n') = false := beq_false_of_ne g2
        clear hr hmk hm hm' hv hv' hu hu' IH h hw
        go_enter Try.func74, Try.ntmps74
        go_wp2
        go_ret
        exact ⟨rfl, HW.out⟩
    · have hr : sameT (.mk k n s ts) (.mk k' n' s' ts') = false := by rw [hmk, beq_false_of_ne g1]; simp
      rw [hr]
      have g1' : (k == k') = false := beq_false_of_ne g1
      clear hr hmk hm hm' hv hv' hu hu' IH h hw
      go_enter Try.func74, Try.ntmps74
      go_wp2
      go_ret
      exact ⟨rfl, HW.out⟩
set_option maxHeartbeats 4000000 in
theorem Same_at {x y : Tm} {w : World} {va vb : Value} (hv : TmV w x va) (hv' : TmV w y vb) : Calls Try.prog 25 #[va, vb] w fun e w' => e = .returned (.bool (goodT x && goodT y && sameT x y)) ∧ Below w.heap.size w w' := by
  have GX := fun w (h : TmV w x va) => Good_at x w va h
  have GY := fun w (h : TmV w y vb) => Good_at y w vb h
  have S := fun w (h : TmV w x va) (h' : TmV w y vb) => same_at _ x (Nat.le_refl _) y w va vb h h'
  generalize goodT x = p at GX ⊢
  generalize goodT y = q at GY ⊢
  generalize sameT x y = r at S ⊢
  obtain ⟨k, n, s, u, rfl⟩ := hv.four
  obtain ⟨k', n', s', u', rfl⟩ := hv'.four
  have hw : Below w.heap.size w ((w.alloc (box4 k n s u 31)).alloc (box4 k' n' s' u' 31)) := (bel1' w _).alloc (by simp) _
  have hv0 := TmV.ext hw _ _ hv
  have hv0' := TmV.ext hw _ _ hv'
  clear hv hv'
  have two : ∀ wr : World, Below ((w.alloc (box4 k n s u 31)).alloc (box4 k' n' s' u' 31)).heap.size ((w.alloc (box4 k n s u 31)).alloc (box4 k' n' s' u' 31)) wr →
      (wr.cell? ⟨w.heap.size, 0, none⟩ = some (.int .i64 k) ∧ wr.cell? ⟨w.heap.size, 1, none⟩ = some (.int .i64 n) ∧ wr.cell? ⟨w.heap.size, 2, none⟩ = some (.string s) ∧ wr.cell? ⟨w.heap.size, 3, none⟩ = some u) ∧
      wr.cell? ⟨w.heap.size + 1, 0, none⟩ = some (.int .i64 k') ∧ wr.cell? ⟨w.heap.size + 1, 1, none⟩ = some (.int .i64 n') ∧ wr.cell? ⟨w.heap.size + 1, 2, none⟩ = some (.string s') ∧ wr.cell? ⟨w.heap.size + 1, 3, none⟩ = some u' := fun wr hb =>
    ⟨⟨cell_later hb (by simp), cell_later hb (by simp), cell_later hb (by simp), cell_later hb (by simp)⟩, cell_later hb (by simp), cell_later hb (by simp), cell_later hb (by simp), cell_later hb (by simp)⟩
  have HTW := Lib.hid two
  have HWW := Lib.hid hw
  clear two hw
  cases p
  · rw [Bool.false_and, Bool.false_and]
    clear GY S
    go_enter Try.func25, Try.ntmps25
    (go_wp2_with fail; go_fit (GX _ hv0); rintro e w1 ⟨rfl, b1⟩)
    have B1 := Lib.hid (Ext.trans' HWW.out b1)
    clear b1
    go_wp2
    go_ret
    exact ⟨rfl, B1.out⟩
  rw [Bool.true_and]
  cases q
  · rw [Bool.false_and]
    clear S
    go_enter Try.func25, Try.ntmps25
    (go_wp2_with fail; go_fit (GX _ hv0); rintro e w1 ⟨rfl, b1⟩)
    obtain ⟨⟨c0, c1, c2, c3⟩, d0, d1, d2, d3⟩ := HTW.out _ b1
    (go_wp2_with fail; go_fit (GY _ (TmV.ext b1 _ _ hv0')); rintro e w2 ⟨rfl, b2⟩)
    have B2 := Lib.hid (Ext.trans' HWW.out (Ext.trans' b1 b2))
    clear b1 b2
    go_wp2
    go_ret
    exact ⟨rfl, B2.out⟩
  rw [Bool.true_and]
  cases r
  · go_enter Try.func25, Try.ntmps25
    (go_wp2_with fail; go_fit (GX _ hv0); rintro e w1 ⟨rfl, b1⟩)
    obtain ⟨⟨c0, c1, c2, c3⟩, d0, d1, d2, d3⟩ := HTW.out _ b1
    (go_wp2_with fail; go_fit (GY _ (TmV.ext b1 _ _ hv0')); rintro e w2 ⟨rfl, b2⟩)
    have b12 := Ext.trans' b1 b2
    obtain ⟨⟨c0, c1, c2, c3⟩, d0, d1, d2, d3⟩ := HTW.out _ b12
    (go_wp2_with fail; go_fit (S _ (TmV.ext b12 _ _ hv0) (TmV.ext b12 _ _ hv0')); rintro e w3 ⟨rfl, b3⟩)
    have B3 := Lib.hid (Ext.trans' HWW.out (Ext.trans' b12 b3))
    clear b1 b2 b12 b3
    go_wp2
    go_ret
    exact ⟨rfl, B3.out⟩
  · go_enter Try.func25, Try.ntmps25
    (go_wp2_with fail; go_fit (GX _ hv0); rintro e w1 ⟨rfl, b1⟩)
    obtain ⟨⟨c0, c1, c2, c3⟩, d0, d1, d2, d3⟩ := HTW.out _ b1
    (go_wp2_with fail; go_fit (GY _ (TmV.ext b1 _ _ hv0')); rintro e w2 ⟨rfl, b2⟩)
    have b12 := Ext.trans' b1 b2
    obtain ⟨⟨c0, c1, c2, c3⟩, d0, d1, d2, d3⟩ := HTW.out _ b12
    (go_wp2_with fail; go_fit (S _ (TmV.ext b12 _ _ hv0) (TmV.ext b12 _ _ hv0')); rintro e w3 ⟨rfl, b3⟩)
    have B3 := Lib.hid (Ext.trans' HWW.out (Ext.trans' b12 b3))
    clear b1 b2 b12 b3
    go_wp2
    go_ret
    exact ⟨rfl, B3.out⟩
end Go.Proofs.Ytbbbgijlbcmpbaa
/- Drawn together by pull.py from XPrM XPrN XPrB XPrE XPrF XPrG XPrH XPsB. -/
namespace Go.Proofs.Ytbbbgijlbcmpbaa
open Go.RowKit
set_option linter.unusedVariables false

/-- Of the old blocks only those of M have turned; of them the same are not looked at, the same turn. -/
structure Turn (D M D' M' : Nat → Bool) (w w' : World) : Prop where
  size : w.heap.size ≤ w'.heap.size
  dd : ∀ k, k < w.heap.size → D' k = D k
  mm : ∀ k, k < w.heap.size → M' k = M k
  kept : ∀ k, k < w.heap.size → M k = false → w'.heap[k]? = w.heap[k]?
  ot : Below 0 w w'
theorem Turn.trans {D M D' M' D2 M2 : Nat → Bool} {a b c : World} (h : Turn D M D' M' a b) (g : Turn D' M' D2 M2 b c) : Turn D M D2 M2 a c :=
  ⟨Nat.le_trans h.size g.size, fun k hk => (g.dd k (Nat.lt_of_lt_of_le hk h.size)).trans (h.dd k hk), fun k hk => (g.mm k (Nat.lt_of_lt_of_le hk h.size)).trans (h.mm k hk),
    fun k hk hm => (g.kept k (Nat.lt_of_lt_of_le hk h.size) ((h.mm k hk).trans hm)).trans (h.kept k hk hm), h.ot.trans g.ot⟩
theorem Turn.below {D M : Nat → Bool} {w w' : World} (h : Below w.heap.size w w') : Turn D M D M w w' := ⟨h.size, fun _ _ => rfl, fun _ _ => rfl, fun k hk _ => h.block k hk, h.mono (Nat.zero_le _)⟩
theorem Turn.stays {D M D' M' : Nat → Bool} {w w' : World} (h : Turn D M D' M' w w') (md : ∀ k, M k = true → D k = true) : Stays (hide D w) (hide D' w') :=
  Stays.hide h.size fun k hk hd => ⟨(h.dd k hk).trans hd, h.kept k hk (by cases hm : M k with | false => rfl | true => rw [md k hm] at hd; cases hd)⟩
/-- As many blocks as lie below n and don't turn are as they were. -/
theorem Turn.bel {D M D' M' : Nat → Bool} {w w' : World} (h : Turn D M D' M' w w') {n : Nat} (hn : n ≤ w.heap.size) (hm : ∀ k, k < n → M k = false) : Below n w w' :=
  ⟨h.ot.os, h.ot.tape, h.ot.output, h.size, fun k hk => h.kept k (Nat.lt_of_lt_of_le hk hn) (hm k hk)⟩
/-- A block of one's own that turns in the end. -/
theorem Turn.set {D M D' M' : Nat → Bool} {w w' : World} (h : Turn D M D' M' w w') (a : Addr) (u : Value) (ha : w.heap.size ≤ a.block ∨ M a.block = true) : Turn D M D' M' w (w'.setCell a u) :=
  ⟨Nat.le_trans h.size (by simp [World.setCell]), h.dd, h.mm, fun k hk hm => (Below.heap_setCell w' a u k (fun e => by
    rcases ha with ha | ha
    · omega
    · rw [e, ha] at hm; cases hm)).trans (h.kept k hk hm), h.ot.setCell (Nat.zero_le _) u⟩
theorem row_at {w w' : World} {B k n : Nat} {e : TypeId} {v : Value} {xs : List Value} (h : w.ownsRow B e k v n xs) (hb : ∀ g, v.ownBlock = some g → w'.heap[g]? = w.heap[g]?) : w'.ownsRow B e k v n xs := by
  obtain ⟨h0, h1⟩ := h
  refine ⟨h0, ?_⟩
  rcases h1 with h1 | ⟨g, cap, cur, rfl, hg, hh, h2⟩
  · exact Or.inl h1
  · exact Or.inr ⟨g, cap, cur, rfl, hg, by rw [hb g rfl]; exact hh, h2⟩
theorem row_in {w : World} {B k n : Nat} {e : TypeId} {v : Value} {xs : List Value} (h : w.ownsRow B e k v n xs) {g : Nat} (hg : v.ownBlock = some g) : B ≤ g ∧ g < w.heap.size := by
  rcases h.2 with ⟨rfl, _⟩ | ⟨g', cap, cur, rfl, h1, h2, _⟩
  · cases hg
  · cases hg
    exact ⟨h1, (Array.getElem?_eq_some_iff.1 h2).1⟩
/-- One more block is not looked at. -/
def plusB (D : Nat → Bool) (b : Nat) : Nat → Bool := fun k => k == b || D k
theorem plusB_self (D : Nat → Bool) (b : Nat) : plusB D b b = true := by simp [plusB]
theorem plusB_of {D : Nat → Bool} {b k : Nat} (h : D k = true) : plusB D b k = true := by simp [plusB, h]
theorem plusB_ne {D : Nat → Bool} {b k : Nat} (h : k ≠ b) : plusB D b k = D k := by simp [plusB, h]
/-- A box of one's own is looked at no more. -/
theorem Turn.box {D M D' M' : Nat → Bool} {w w' : World} {b : Nat} (h : Turn (plusB D b) M D' M' w w') (hb : w.heap.size ≤ b) : Turn D M D' M' w w' :=
  ⟨h.size, fun k hk => (h.dd k hk).trans (plusB_ne (by omega)), h.mm, h.kept, h.ot⟩
theorem Turn.into {D M : Nat → Bool} {w w' : World} (h : Below w.heap.size w w') {b : Nat} (hb : w.heap.size ≤ b) : Turn D M (plusB D b) M w w' :=
  ⟨h.size, fun k hk => plusB_ne (by omega), fun _ _ => rfl, fun k hk _ => h.block k hk, h.mono (Nat.zero_le _)⟩
/-- A box of one's own with these values. -/
structure Box (w : World) (b : Nat) (vs : List Value) : Prop where
  cells : ∀ j u, vs[j]? = some u → w.cell? ⟨b, j, none⟩ = some u
  fz : ∀ j, w.frozen? ⟨b, j, none⟩ = false
  lt : b < w.heap.size
theorem box_new (w : World) (cs : Array Value) (ty : TypeId) : ∃ w1, w.alloc (.cells cs ty) = w1 ∧ Below w.heap.size w w1 ∧ w1.heap.size = w.heap.size + 1 ∧ Box w1 w.heap.size cs.toList := by
  refine ⟨_, rfl, bel1' _ _, by simp, fun j u h => ?_, fun j => by simp, by simp⟩
  have := cell_new w cs ty j u h
  rw [add_plain, Nat.zero_add] at this
  exact this
theorem Box.ext {w w' : World} {b : Nat} {vs : List Value} (h : Box w b vs) (hb : Below w.heap.size w w') : Box w' b vs :=
  ⟨fun j u hu => cell_later hb (h.cells j u hu), fun j => (hb.frozen (p := ⟨b, j, none⟩) h.lt).trans (h.fz j), Nat.lt_of_lt_of_le h.lt hb.size⟩
theorem Box.far {w : World} {b c k : Nat} {u : Value} {vs : List Value} (h : Box w b vs) (hne : b ≠ c) : Box (w.setCell ⟨c, k, none⟩ u) b vs :=
  ⟨fun j v hv => by
    rw [World.cell?_setCell_other]
    · exact h.cells j v hv
    · intro e; injection e with e _ _; exact hne e.symm, fun j => by rw [World.frozen?_setCell]; exact h.fz j, by have := h.lt; simpa [World.setCell] using this⟩
theorem Box.set {w : World} {b k : Nat} {u : Value} {vs : List Value} (h : Box w b vs) (hk : k < vs.length) : Box (w.setCell ⟨b, k, none⟩ u) b (vs.set k u) :=
  ⟨fun j v hv => by
    by_cases hj : j = k
    · subst hj
      rw [List.getElem?_set_self hk] at hv
      injection hv with hv
      subst hv
      exact css (h.cells j _ (List.getElem?_eq_getElem hk))
    · rw [List.getElem?_set_ne (by omega)] at hv
      rw [World.cell?_setCell_other]
      · exact h.cells j v hv
      · intro e; injection e with _ e _; exact hj e.symm, fun j => by rw [World.frozen?_setCell]; exact h.fz j, by have := h.lt; simpa [World.setCell] using this⟩
theorem Box.four {w : World} {b : Nat} {v0 v1 v2 v3 : Value} (h : Box w b [v0, v1, v2, v3]) : w.cell? ⟨b, 0, none⟩ = some v0 ∧ w.cell? ⟨b, 1, none⟩ = some v1 ∧ w.cell? ⟨b, 2, none⟩ = some v2 ∧ w.cell? ⟨b, 3, none⟩ = some v3 ∧ ∀ j, w.frozen? ⟨b, j, none⟩ = false :=
  ⟨h.cells 0 _ rfl, h.cells 1 _ rfl, h.cells 2 _ rfl, h.cells 3 _ rfl, h.fz⟩
abbrev set3 (w : World) (b : Nat) (u0 u1 u2 : Value) : World := ((w.setCell ⟨b, 0, none⟩ u0).setCell ⟨b, 1, none⟩ u1).setCell ⟨b, 2, none⟩ u2
abbrev set4 (w : World) (b : Nat) (u0 u1 u2 u3 : Value) : World := (set3 w b u0 u1 u2).setCell ⟨b, 3, none⟩ u3
theorem Turn.set3 {D M D' M' : Nat → Bool} {w w' : World} (h : Turn D M D' M' w w') {b : Nat} (hb : w.heap.size ≤ b ∨ M b = true) (u0 u1 u2 : Value) : Turn D M D' M' w (Go.Proofs.Ytbbbgijlbcmpbaa.set3 w' b u0 u1 u2) :=
  ((h.set ⟨b, 0, none⟩ u0 hb).set ⟨b, 1, none⟩ u1 hb).set ⟨b, 2, none⟩ u2 hb
theorem Turn.set4 {D M D' M' : Nat → Bool} {w w' : World} (h : Turn D M D' M' w w') {b : Nat} (hb : w.heap.size ≤ b ∨ M b = true) (u0 u1 u2 u3 : Value) : Turn D M D' M' w (Go.Proofs.Ytbbbgijlbcmpbaa.set4 w' b u0 u1 u2 u3) :=
  (h.set3 hb u0 u1 u2).set ⟨b, 3, none⟩ u3 hb

theorem far_cell {w : World} {b j c k : Nat} {u : Value} (hne : b ≠ c) : (w.setCell ⟨c, k, none⟩ u).cell? ⟨b, j, none⟩ = w.cell? ⟨b, j, none⟩ := by
  rw [World.cell?_setCell_other]
  intro e; injection e with e _ _; exact hne e.symm

theorem Below.set3 {B : Nat} {w w' : World} (h : Below B w w') {b : Nat} (hb : B ≤ b) (u0 u1 u2 : Value) : Below B w (Go.Proofs.Ytbbbgijlbcmpbaa.set3 w' b u0 u1 u2) :=
  ((h.setCell (p := ⟨b, 0, none⟩) hb _).setCell (p := ⟨b, 1, none⟩) hb _).setCell (p := ⟨b, 2, none⟩) hb _
theorem Below.set4 {B : Nat} {w w' : World} (h : Below B w w') {b : Nat} (hb : B ≤ b) (u0 u1 u2 u3 : Value) : Below B w (Go.Proofs.Ytbbbgijlbcmpbaa.set4 w' b u0 u1 u2 u3) :=
  (Below.set3 h hb u0 u1 u2).setCell (p := ⟨b, 3, none⟩) hb _

def withB (D : Nat → Bool) (v : Value) : Nat → Bool := fun k => D k || v.ownBlock == some k
theorem withB_of {D : Nat → Bool} {v : Value} {k : Nat} (h : D k = true) : withB D v k = true := by simp [withB, h]
theorem withB_own {D : Nat → Bool} {v : Value} {k : Nat} (h : v.ownBlock = some k) : withB D v k = true := by simp [withB, h]
theorem withB_no {D : Nat → Bool} {v : Value} {k : Nat} (h : v.ownBlock ≠ some k) : withB D v k = D k := by simp [withB, h]
theorem Box.block {w w' : World} {b : Nat} {vs : List Value} (h : Box w b vs) (hb : w'.heap[b]? = w.heap[b]?) (hlt : b < w'.heap.size) : Box w' b vs :=
  ⟨fun j u hu => by rw [World.cell?_of_block hb]; exact h.cells j u hu, fun j => by rw [World.frozen?_of_block hb]; exact h.fz j, hlt⟩
def Okd (D M : Nat → Bool) (w : World) : Prop := (∀ k, M k = true → D k = true) ∧ Old D w
/-- Of the new blocks only those of M are not looked at. -/
def Fin (D M' : Nat → Bool) (n : Nat) : Nat → Bool := fun k => if k < n then D k else M' k
theorem fin_old {D M' : Nat → Bool} {n k : Nat} (h : k < n) : Fin D M' n k = D k := if_pos h
theorem fin_new {D M' : Nat → Bool} {n k : Nat} (h : n ≤ k) : Fin D M' n k = M' k := if_neg (by omega)
theorem fin_less {D M D1 M' : Nat → Bool} {w w' : World} (ht : Turn D M D1 M' w w') (ho : Okd D1 M' w') {k : Nat} (h : D1 k = false) : Fin D M' w.heap.size k = false := by
  by_cases hk : k < w.heap.size
  · rw [fin_old hk, ← ht.dd k hk]; exact h
  · rw [fin_new (by omega)]
    cases hm : M' k with
    | false => rfl
    | true => rw [ho.1 k hm] at h; cases h
theorem TmV.fin {D M D1 M' : Nat → Bool} {w w' : World} {t : Tm} {v : Value} (h : TmV (hide D1 w') t v) (ht : Turn D M D1 M' w w') (ho : Okd D1 M' w') : TmV (hide (Fin D M' w.heap.size) w') t v :=
  TmV.stay (Stays.less fun k hk => fin_less ht ho hk) t v h
theorem grown_stays {D : Nat → Bool} {W w' : World} {v v' : Value} (hg : W.grownBy w' v.ownBlock) (hD : ∀ g, v.ownBlock = some g → D g = true) (hv : v'.ownBlock = v.ownBlock ∨ v'.ownBlock = some W.heap.size) : Stays (hide D W) (hide (withB D v') w') :=
  Stays.hide hg.size fun k hk hd => ⟨by
    rw [withB_no]
    · exact hd
    · intro e
      rcases hv with hv | hv
      · rw [hD k (hv.symm.trans e)] at hd; cases hd
      · rw [hv] at e; injection e with e; omega, hg.block k hk (fun e => by rw [hD k e.symm] at hd; cases hd)⟩
theorem Turn.grown {D M D1 M1 : Nat → Bool} {w W w' : World} {v v' : Value} (ht : Turn D M D1 M1 w W) (hg : W.grownBy w' v.ownBlock) (hb : ∀ g, v.ownBlock = some g → w.heap.size ≤ g) (hv : v'.ownBlock = v.ownBlock ∨ v'.ownBlock = some W.heap.size) : Turn D M (withB D1 v') M1 w w' :=
  ⟨Nat.le_trans ht.size hg.size, fun k hk => by
    rw [withB_no]
    · exact ht.dd k hk
    · intro e
      rcases hv with hv | hv
      · have := hb k (hv.symm.trans e); omega
      · rw [hv] at e; injection e with e; have := ht.size; omega, ht.mm, fun k hk hm => (hg.block k (Nat.lt_of_lt_of_le hk ht.size) (fun e => by have := hb k e.symm; omega)).trans (ht.kept k hk hm), ht.ot.grown hg (Nat.zero_le _) (fun _ _ => Nat.zero_le _)⟩
theorem four_of {w : World} {t : Tm} {v : Value} (h : TmV w t v) : ∃ k n s a m c, v = .agg #[.int .i64 k, .int .i64 n, .string s, .slice a m c] ∧ t.k = k ∧ t.n = n ∧ t.s = s ∧ v = pVal (t, .slice a m c) := by
  cases t with
  | mk k n s ts =>
    obtain ⟨u, rfl, _, _, _, hu⟩ := tmV_iff.1 h
    obtain ⟨a, c, rfl, _⟩ := hu.len
    exact ⟨k, n, s, a, _, c, rfl, rfl, rfl, rfl, rfl⟩
theorem Okd.later {D M : Nat → Bool} {w w' : World} (h : Okd D M w) (hb : w.heap.size ≤ w'.heap.size) : Okd D M w' := ⟨h.1, h.2.mono hb⟩
theorem Okd.put4 {D M : Nat → Bool} {w : World} (h : Okd D M w) (b : Nat) (u0 u1 u2 u3 : Value) : Okd D M (set4 w b u0 u1 u2 u3) := h.later (by simp [World.setCell])
theorem Okd.box {D M : Nat → Bool} {w w' : World} (h : Okd D M w) (hb : w.heap.size ≤ w'.heap.size) {b : Nat} (hlt : b < w'.heap.size) : Okd (plusB D b) M w' :=
  ⟨fun k hk => plusB_of (h.1 k hk), fun k hk => (plusB_ne (by omega)).trans (h.2 k (Nat.le_trans hb hk))⟩
/-- A row of the call's own in the making: it is not looked at. -/
def RowY (D M : Nat → Bool) (w : World) (base : Nat) (v : Value) (ps : List TmP) : Prop :=
  RowP w base 48 v ps ∧ (∀ g, v.ownBlock = some g → D g = true ∧ M g = false) ∧ ∀ p ∈ ps, TmV (hide D w) p.1 (pVal p)
theorem RowY.none (D M : Nat → Bool) (w : World) (base : Nat) : RowY D M w base (.slice none 0 0) [] := ⟨World.ownsRow_nil _ _ _ _, fun g hg => (by cases hg), fun p hp => (by cases hp)⟩
theorem RowY.turn {D M D' M' : Nat → Bool} {w w' : World} {base : Nat} {v : Value} {ps : List TmP} (h : RowY D M w base v ps) (ht : Turn D M D' M' w w') (md : ∀ k, M k = true → D k = true) : RowY D' M' w' base v ps := by
  obtain ⟨h1, h2, h3⟩ := h
  refine ⟨row_at h1 (fun g hg => ht.kept g (row_in h1 hg).2 (h2 g hg).2), fun g hg => ?_, fun p hp => TmV.stay (ht.stays md) _ _ (h3 p hp)⟩
  have hlt := (row_in h1 hg).2
  rw [ht.dd g hlt, ht.mm g hlt]
  exact h2 g hg
/-- One more. -/
theorem RowY.more {D M : Nat → Bool} {W w' : World} {base : Nat} {v v' : Value} {ps : List TmP} {p : TmP} (h : RowY D M W base v ps) (hp : TmV (hide D W) p.1 (pVal p)) (ho : Okd D M W) (hg : W.grownBy w' v.ownBlock) (hv : v'.ownBlock = v.ownBlock ∨ v'.ownBlock = some W.heap.size)
    (hr : w'.ownsRow base 48 4 v' (ps.length + 1) (ps.flatMap pCells ++ pCells p)) : RowY (withB D v') M w' base v' (ps ++ [p]) := by
  obtain ⟨h1, h2, h3⟩ := h
  have hs := grown_stays hg (fun g e => (h2 g e).1) hv
  refine ⟨?_, fun g hg' => ⟨withB_own hg', ?_⟩, fun q hq => ?_⟩
  · unfold RowP
    rw [List.length_append, List.flatMap_append, List.length_singleton]
    simpa using hr
  · rcases hv with hv | hv
    · exact (h2 g (hv.symm.trans hg')).2
    · rw [hv] at hg'
      injection hg' with e
      subst e
      cases hm : M W.heap.size with
      | false => rfl
      | true => have := ho.1 _ hm; rw [ho.2 _ (Nat.le_refl _)] at this; cases this
  · rcases List.mem_append.1 hq with hq | hq
    · exact TmV.stay hs _ _ (h3 q hq)
    · simp at hq
      subst hq
      exact TmV.stay hs _ _ hp
/-- The row is looked at again. -/
theorem RowY.fin {D M D1 M' : Nat → Bool} {w w' : World} {v : Value} {ps : List TmP} {base : Nat} (hbase : w.heap.size ≤ base) (h : RowY D1 M' w' base v ps) (ht : Turn D M D1 M' w w') (ho : Okd D1 M' w') (hl : ps.length * 56 ≤ BIG) : Tms (hide (Fin D M' w.heap.size) w') v (ps.map (·.1)) := by
  obtain ⟨h1, h2, h3⟩ := h
  have hh : RowP (hide (Fin D M' w.heap.size) w') base 48 v ps := by
    refine row_at h1 (fun g hg => hide_get _ _ _ ?_)
    rw [fin_new (Nat.le_trans hbase (row_in h1 hg).1)]
    exact (h2 g hg).2
  exact hh.terms (fun p hp => TmV.fin (h3 p hp) ht ho) hl
theorem infoTermR : (Try.prog.info? 48).map (fun i => (i.zero, i.size, i.bytes)) = some (some (.agg #[.int .i64 0, .int .i64 0, .string ⟨#[]⟩, .slice none 0 0]), 4, 56) := by kernel_rfl
abbrev noM : Nat → Bool := fun _ => false
theorem fin_no {D : Nat → Bool} {w : World} (h : Old D w) : Fin D noM w.heap.size = D := by
  funext k
  by_cases hk : k < w.heap.size
  · exact fin_old hk
  · rw [fin_new (by omega)]
    exact (h k (by omega)).symm
theorem okd_no {D : Nat → Bool} {w : World} (h : Old D w) : Okd D noM w := And.intro (fun k hk => absurd hk (by simp)) h
theorem take_next {α : Type} {l : List α} {k : Nat} {x : α} (h : l[k]? = some x) : l.take (k + 1) = l.take k ++ [x] := by rw [List.take_add_one, h]; rfl
theorem RowY.put {D M : Nat → Bool} {w : World} {base : Nat} {v : Value} {ps : List TmP} (h : RowY D M w base v ps) (a : Addr) (u : Value) (hd : D a.block = true) (hne : ∀ g, v.ownBlock = some g → g ≠ a.block) : RowY D M (w.setCell a u) base v ps :=
  ⟨row_at h.1 (fun g hg => Below.heap_setCell w a u g (hne g hg)), h.2.1, fun p hp => TmV.stay (Stays.set a u hd) _ _ (h.2.2 p hp)⟩
theorem far_one {w : World} {b j c k : Nat} {v u : Value} (h : w.cell? ⟨b, j, none⟩ = some v) (hne : b ≠ c) : (w.setCell ⟨c, k, none⟩ u).cell? ⟨b, j, none⟩ = some v := by rw [far_cell hne]; exact h
end Go.Proofs.Ytbbbgijlbcmpbaa
/- Package bind: Walk. -/
namespace Go.Proofs.Ytbbbgijlbcmpbaa
open Go.RowKit
set_option linter.unusedVariables false

/-- What one stands for, looked through: y. -/
structure Wk (N : Nat) (R : List (Int × Tm)) (x y : Tm) : Prop where
  same : subT (fullB R) y = subT (fullB R) x
  good : goodT y = true
  rng : ∀ m ∈ occT y, 0 ≤ m ∧ m < N
def topB (R : List (Int × Tm)) (y : Tm) : Prop := y.k = 0 → getB R y.n = none
def hgt (r : Int → Nat) (y : Tm) : Nat := if y.k = 0 then r y.n + 1 else 0
theorem hgt_less {R : List (Int × Tm)} {r : Int → Nat} (hr : ∀ p ∈ R, ∀ j ∈ occT p.2, r j < r p.1) {n : Int} {t : Tm} (h : getB R n = some t) : hgt r t < r n + 1 := by
  cases t with
  | mk k m s ts =>
    unfold hgt
    by_cases hk : k = 0
    · subst hk
      have := hr _ (get_mem h) m (by rw [occ_var]; simp)
      show (if (0 : Int) = 0 then r m + 1 else 0) < r n + 1
      rw [if_pos rfl]
      show r m + 1 < r n + 1
      have h2 : r m < r n := this
      omega
    · have : (Tm.mk k m s ts).k ≠ 0 := hk
      rw [if_neg this]
      omega
theorem Wk.step {N : Nat} (hN : N ≤ 65536) {R : List (Int × Tm)} (hT : Tri N R) {x : Tm} {n : Int} {t : Tm} (h : Wk N R x (varV n)) (hg : getB R n = some t) : Wk N R x t := by
  have hm := get_mem hg
  have h1 := hT.mem hm
  refine ⟨?_, h1.2.2.1, h1.2.2.2⟩
  rw [← h.same, sub_varV]
  exact (full_mem hN hT hm).symm
theorem dom_iff {R : List (Int × Tm)} {m : Int} : (getB R m).isSome = true ↔ m ∈ domB R := by
  cases h : getB R m with
  | none =>
    have := get_none.1 h
    simp [this]
  | some t =>
    have : m ∈ domB R := List.mem_map.2 ⟨_, get_mem h, rfl⟩
    simp [this]
section
variable {V w : World} {F : List Nat} {p : Value} {N : Nat} {R : List (Int × Tm)}
set_option maxHeartbeats 4000000 in
theorem Walk_at (h : IsB V F w p N R) {x : Tm} {v : Value} (hv : TmV V x v) (hg : goodT x = true) (ho : ∀ m ∈ occT x, 0 ≤ m ∧ m < N) :
    Calls Try.prog 24 #[p, v] w fun e w' => ∃ y v', e = .returned v' ∧ TmV V y v' ∧ Wk N R x y ∧ topB R y ∧ Below w.heap.size w w' := by
  obtain ⟨hT, hN⟩ := h.tri
  obtain ⟨r, hr⟩ := high hN hT
  obtain ⟨bt, av, cv, bs, rfl, hlt, c0, c1, h1, h2, hs⟩ := h.open
  obtain ⟨kx, nx, sx, ax, mx, cx, rfl, fk, fn, fs, fv⟩ := four_of hv
  clear fs fv
  obtain ⟨w1, e1, B1, z1, X1⟩ := box_new w #[.int .i64 kx, .int .i64 nx, .string sx, .slice ax mx cx] 31
  obtain ⟨w2, e2, B2, z2, X2⟩ := box_new w1 #[.int .i64 0, .int .i64 0, .string ⟨#[]⟩, .slice none 0 0] 31
  have X1 := X1.ext B2
  rw [z1] at X2
  have HB := Lib.hid (h)
  have HX := Lib.hid (show (TmV V x (.agg #[.int .i64 kx, .int .i64 nx, .string sx, .slice ax mx cx])) ∧ Wk N R x x ∧ (∀ p ∈ R, ∀ j ∈ occT p.2, r j < r p.1) from ⟨hv, ⟨rfl, hg, ho⟩, hr⟩)
  have HW := Lib.hid (show Below w.heap.size w w2 from Ext.trans' B1 B2)
  have HS := Lib.hid hs
  have HB2 := Lib.hid (And.intro X1 X2)
  have HT := Lib.hid (And.intro hT hN)
  have HC := Lib.hid (And.intro c0 hlt)
  have HK := Lib.hid (And.intro fk fn)
  clear hs h hv hg ho hr B1 B2 X1 X2 hT hN z2 c0 c1 h1 h2 fk fn
  go_enter Try.func24, Try.ntmps24
  go_wp2_with fail
  (try rw [e1])
  (try rw [e2])
  clear e1 e2 z1
  go_loopg [] (hgt r x) (fun g wr => ∃ (y : Tm) (k n : Int) (s : ByteArray) (a : Option Addr) (m c : Nat), TmV V y (.agg #[.int .i64 k, .int .i64 n, .string s, .slice a m c]) ∧ (y.k = k ∧ y.n = n) ∧ Wk N R x y ∧ g = hgt r y ∧ Below w.heap.size w wr ∧ Box wr w.heap.size [.int .i64 k, .int .i64 n, .string s, .slice a m c] ∧ Box wr (w.heap.size + 1) [.int .i64 0, .int .i64 0, .string ⟨#[]⟩, .slice none 0 0])
  case atStart => exact ⟨x, kx, nx, sx, ax, mx, cx, HX.out.1, HK.out, HX.out.2.1, rfl, HW.out, HB2.out.1, HB2.out.2⟩
  case round =>
    obtain ⟨y, k, n, s, a, m, c, hy, ⟨hyk, hyn⟩, hwk, hgk, hbw, hbx, hbz⟩ := hrel
    by_cases hk : k = 0
    · subst hk
      obtain ⟨yk, yn, ys, yt⟩ := y
      cases (show yk = 0 from hyk)
      cases (show yn = n from hyn)
      have hf := (good_parts hwk.good).2.2
      obtain ⟨hvar, hn0, hn1⟩ := formed_var hf
      have hrg := hwk.rng n (by rw [occ_var]; simp)
      obtain ⟨i, rfl⟩ : ∃ i : Nat, n = i := ⟨n.toNat, by omega⟩
      rw [hvar] at hy hwk hgk
      have hiN : i < N := by omega
      obtain ⟨u, hu, _, _, _, hU⟩ := tmV_iff.1 (show TmV V (.mk 0 i ⟨#[]⟩ []) _ from hy)
      obtain ⟨a', c', rfl, _⟩ := hU.len
      simp only [Value.agg.injEq] at hu
      have hu' := congrArg Array.toList hu
      simp only [List.cons.injEq, and_true, true_and, Value.string.injEq, Value.slice.injEq, List.length_nil] at hu'
      obtain ⟨rfl, rfl, rfl, rfl⟩ := hu'
      have C := stands_var (HB.out.ext hbw) i hiN a c
      obtain ⟨x0, x1, x2, x3, xf⟩ := hbx.four
      cases hgt' : getB R i with
      | none =>
        rw [hgt'] at C
        have HY := Lib.hid (show TmV V (varV i) (.agg #[.int .i64 0, .int .i64 i, .string ⟨#[]⟩, .slice a 0 c]) ∧ Wk N R x (varV i) ∧ topB R (varV i) from ⟨hy, hwk, fun _ => hgt'⟩)
        have HBW := Lib.hid hbw
        have HZ := Lib.hid hbz
        have HXX := Lib.hid hbx
        clear hu hU hvar hf hrg hy hwk hgk hbw hbx hbz hgt' hn0 hn1 hyk hyn
        go_wp2_with fail
        go_fit (C)
        rintro e w6 ⟨rfl, b6⟩
        obtain ⟨d0, d1, d2, d3, df⟩ := (HXX.out.ext b6).four
        obtain ⟨z0, z1, z2, z3, zf⟩ := (HZ.out.ext b6).four
        have HB6 := Lib.hid (HBW.out.trans (b6.mono HBW.out.size))
        clear b6 x0 x1 x2 x3 xf
        go_wp2
        refine bodyPost_ret (v := .agg #[.int .i64 0, .int .i64 i, .string ⟨#[]⟩, .slice a 0 c]) (by rw [results_cell1 rfl]; go_simp) rfl ⟨varV i, _, rfl, HY.out.1, HY.out.2.1, HY.out.2.2, ?_⟩
        exact Below.set4 HB6.out (by omega) _ _ _ _
      | some t =>
        rw [hgt'] at C
        obtain ⟨g, rfl, hsl⟩ := HS.out i hiN
        rcases hsl with ⟨hno, _⟩ | ⟨t', tk, tm, tsn, ta, tl, tc, ht', s0, s1, s2, s3, s4, htm⟩
        · rw [hno] at hgt'; cases hgt'
        rw [hgt'] at ht'
        cases ht'
        obtain ⟨q1, q2, q3, q4, q5, q6, hq, hqk, hqn, hqs, hqv⟩ := four_of htm
        simp only [Value.agg.injEq] at hq
        have hq' := congrArg Array.toList hq
        simp only [List.cons.injEq, and_true, true_and, Value.int.injEq, Value.string.injEq, Value.slice.injEq] at hq'
        obtain ⟨rfl, rfl, rfl, rfl, rfl, rfl⟩ := hq'
        have HY := Lib.hid (show TmV V t (.agg #[.int .i64 tk, .int .i64 tm, .string tsn, .slice ta tl tc]) ∧ (t.k = tk ∧ t.n = tm) ∧ Wk N R x t ∧ hgt r t < hgt r (varV i) from ⟨htm, ⟨hqk, hqn⟩, Wk.step HT.out.2 HT.out.1 hwk hgt', hgt_less HX.out.2.2 hgt'⟩)
        have HBW := Lib.hid hbw
        have HZ := Lib.hid hbz
        have HXX := Lib.hid hbx
        have HG := Lib.hid hgk
        have S0 := Lib.hid (And.intro s1 (And.intro s2 (And.intro s3 s4)))
        clear hu hU hvar hf hrg hy hwk hgk hbw hbx hbz hgt' hn0 hn1 hyk hyn hq hqk hqn hqs hqv htm s0 s1 s2 s3 s4
        go_wp2_with fail
        go_fit (C)
        rintro e w6 ⟨rfl, b6⟩
        obtain ⟨d0, d1, d2, d3, df⟩ := (HXX.out.ext b6).four
        have HB6 := Lib.hid (HBW.out.trans (b6.mono HBW.out.size))
        have g0 := cell_later HB6.out HC.out.1
        have g1 := cell_later HB6.out S0.out.1
        have g2 := cell_later HB6.out S0.out.2.1
        have g3 := cell_later HB6.out S0.out.2.2.1
        have g4 := cell_later HB6.out S0.out.2.2.2
        have HX6 := Lib.hid (And.intro (HXX.out.ext b6) (HZ.out.ext b6))
        clear b6 x0 x1 x2 x3 xf
        go_wp2_with fail
        go_region
        go_wp2
        go_roundg (hgt r t)
        case measure => rw [HG.out]; exact HY.out.2.2.2
        case rel =>
          have hb4 : Below w.heap.size w (set4 w6 w.heap.size (.int .i64 tk) (.int .i64 tm) (.string tsn) (.slice ta tl tc)) := Below.set4 HB6.out (Nat.le_refl _) _ _ _ _
          have hx4 : Box (set4 w6 w.heap.size (.int .i64 tk) (.int .i64 tm) (.string tsn) (.slice ta tl tc)) w.heap.size [.int .i64 tk, .int .i64 tm, .string tsn, .slice ta tl tc] :=
            (((HX6.out.1.set (k := 0) (by simp)).set (k := 1) (by simp)).set (k := 2) (by simp)).set (k := 3) (by simp)
          have hz4 : Box (set4 w6 w.heap.size (.int .i64 tk) (.int .i64 tm) (.string tsn) (.slice ta tl tc)) (w.heap.size + 1) _ := (((HX6.out.2.far (c := w.heap.size) (by omega)).far (by omega)).far (by omega)).far (by omega)
          exact ⟨t, tk, tm, tsn, ta, tl, tc, HY.out.1, HY.out.2.1, HY.out.2.2.1, rfl, hb4.drew, hx4.ext (Below.refl _ _).drew, hz4.ext (Below.refl _ _).drew⟩
    · have C := stands_not (n := n) (s := s) (u := .slice a m c) hk (.pointer (some ⟨bt, 0, none⟩)) wr
      have HY := Lib.hid (show TmV V y (.agg #[.int .i64 k, .int .i64 n, .string s, .slice a m c]) ∧ Wk N R x y ∧ topB R y from ⟨hy, hwk, fun h => absurd (hyk.symm.trans h) hk⟩)
      obtain ⟨x0, x1, x2, x3, xf⟩ := hbx.four
      have HBW := Lib.hid hbw
      have HZ := Lib.hid hbz
      have HXX := Lib.hid hbx
      clear hy hwk hgk hbw hbx hbz hyk hyn hk
      go_wp2_with fail
      go_fit (C)
      rintro e w6 ⟨rfl, b6⟩
      obtain ⟨d0, d1, d2, d3, df⟩ := (HXX.out.ext b6).four
      obtain ⟨z0, z1, z2, z3, zf⟩ := (HZ.out.ext b6).four
      have HB6 := Lib.hid (HBW.out.trans (b6.mono HBW.out.size))
      clear b6 x0 x1 x2 x3 xf
      go_wp2
      refine bodyPost_ret (v := .agg #[.int .i64 k, .int .i64 n, .string s, .slice a m c]) (by rw [results_cell1 rfl]; go_simp) rfl ⟨y, _, rfl, HY.out.1, HY.out.2.1, HY.out.2.2, ?_⟩
      exact Below.set4 HB6.out (by omega) _ _ _ _
end
end Go.Proofs.Ytbbbgijlbcmpbaa
/- The document's side of chapter 11: its Binds in memory; Walk. -/
namespace Go.Proofs.Ytbbbgijlbcmpbaa
open Go.RowKit
set_option linter.unusedVariables false

/-- The rows hold what the variables stand for. -/
structure RefOK (V : World) (N : Nat) (R : List (Int × Tm)) (ts : List TmP) (bs : List Bool) : Prop where
  is : ∀ i : Nat, i < N → bs[i]? = some (getB R i).isSome
  held : ∀ (i : Nat) (t : Tm), getB R i = some t → ∃ u, ts[i]? = some (t, u) ∧ TmV V t (pVal (t, u))
/-- p is the document's Binds: N variables, these set, the last first; F: its blocks; what they stand for reads at V. -/
def IsR (V : World) (F : List Nat) (w : World) (p : Value) (N : Nat) (R : List (Int × Tm)) : Prop :=
  ∃ bt v1 v2 v3 ts bs, p = .pointer (some ⟨bt, 0, none⟩) ∧ F = bt :: (v1.ownBlock.toList ++ (v2.ownBlock.toList ++ v3.ownBlock.toList)) ∧ F.Nodup ∧ w.heap[bt]? = some (.cells #[v1, v2, v3] 53 (0, 0)) ∧
    ts.length = N ∧ bs.length = N ∧ w.ownsRow 0 48 4 v1 N (ts.flatMap pCells) ∧ w.ownsRow 0 4 1 v2 N (bs.map Value.bool) ∧ w.ownsRow 0 2 1 v3 R.length (trailV R) ∧
    RefOK V N R ts bs ∧ Tri N R ∧ N ≤ 65536 ∧ Stays V w ∧ Blind V F
section
variable {V w : World} {F : List Nat} {p : Value} {N : Nat} {R : List (Int × Tm)}
theorem IsR.tri (h : IsR V F w p N R) : Tri N R ∧ N ≤ 65536 := by
  obtain ⟨bt, v1, v2, v3, ts, bs, rfl, rfl, hn, h1, h2, h3, h4, h5, h6, h7, h8, h9, h10, h11⟩ := h
  exact ⟨h8, h9⟩
theorem IsR.see (h : IsR V F w p N R) : Stays V w ∧ Blind V F := by
  obtain ⟨bt, v1, v2, v3, ts, bs, rfl, rfl, hn, h1, h2, h3, h4, h5, h6, h7, h8, h9, h10, h11⟩ := h
  exact ⟨h10, h11⟩
theorem IsR.lt (h : IsR V F w p N R) : ∀ k ∈ F, k < w.heap.size := by
  obtain ⟨bt, v1, v2, v3, ts, bs, rfl, rfl, hn, h1, h2, h3, h4, h5, h6, h7, h8, h9, h10, h11⟩ := h
  intro k hk
  simp only [List.mem_cons, List.mem_append, Option.mem_toList] at hk
  rcases hk with rfl | hk | hk | hk
  · exact (Array.getElem?_eq_some_iff.1 h1).1
  · exact (h4.lt k hk).2
  · exact (h5.lt k hk).2
  · exact (h6.lt k hk).2
theorem IsR.keep {w' : World} (h : IsR V F w p N R) (hb : ∀ k ∈ F, w'.heap[k]? = w.heap[k]?) (hs : Stays V w') : IsR V F w' p N R := by
  obtain ⟨bt, v1, v2, v3, ts, bs, rfl, rfl, hn, h1, h2, h3, h4, h5, h6, h7, h8, h9, h10, h11⟩ := h
  exact ⟨bt, v1, v2, v3, ts, bs, rfl, rfl, hn, (hb bt (by simp)).trans h1, h2, h3, owns_row_block h4 (fun k hk => hb k (by simp [hk])), owns_row_block h5 (fun k hk => hb k (by simp [hk])), owns_row_block h6 (fun k hk => hb k (by simp [hk])), h7, h8, h9, hs, h11⟩
theorem IsR.ext {w' : World} (h : IsR V F w p N R) (hb : Below w.heap.size w w') : IsR V F w' p N R := h.keep (fun k hk => hb.block k (h.lt k hk)) (h.see.1.later hb)
theorem IsR.from {V' : World} (h : IsR V F w p N R) (hv : Stays V V') (hs : Stays V' w) (hb : Blind V' F) : IsR V' F w p N R := by
  obtain ⟨bt, v1, v2, v3, ts, bs, rfl, rfl, hn, h1, h2, h3, h4, h5, h6, h7, h8, h9, h10, h11⟩ := h
  exact ⟨bt, v1, v2, v3, ts, bs, rfl, rfl, hn, h1, h2, h3, h4, h5, h6, ⟨h7.is, fun i t hi => by
    obtain ⟨u, e1, e2⟩ := h7.held i t hi
    exact ⟨u, e1, TmV.stay hv _ _ e2⟩⟩, h8, h9, hs, hb⟩
theorem IsR.touch {w' : World} {T : List Nat} (h : IsR V F w p N R) (ht : Touch T w w') (hF : ∀ k ∈ T, ¬ k ∈ F) (hb : Blind V T) : IsR V F w' p N R :=
  h.keep (fun k hk => ht.block k (h.lt k hk) (fun hm => hF k hm hk)) (h.see.1.touch hb ht)
theorem bools_flat (bs : List Bool) : bs.map Value.bool = bs.flatMap (fun b => [Value.bool b]) := by
  induction bs with
  | nil => rfl
  | cons b r ih => rw [List.map_cons, List.flatMap_cons, ih]; rfl
/-- Its cells. -/
theorem IsR.open (h : IsR V F w p N R) : ∃ bt a1 c1 a2 c2 a3 c3, p = .pointer (some ⟨bt, 0, none⟩) ∧ bt < w.heap.size ∧ w.cell? ⟨bt, 0, none⟩ = some (.slice a1 N c1) ∧ w.cell? ⟨bt, 1, none⟩ = some (.slice a2 N c2) ∧ w.cell? ⟨bt, 2, none⟩ = some (.slice a3 R.length c3) ∧
    ∀ n : Nat, n < N → ∃ g1 g2, a1 = some ⟨g1, 0, none⟩ ∧ a2 = some ⟨g2, 0, none⟩ ∧ w.cell? ⟨g2, n, none⟩ = some (.bool (getB R n).isSome) ∧
      ∀ t, getB R n = some t → ∃ k m s au l cu, w.cell? ⟨g1, n * 4, none⟩ = some (.int .i64 k) ∧ w.cell? ⟨g1, n * 4 + 1, none⟩ = some (.int .i64 m) ∧ w.cell? ⟨g1, n * 4 + 2, none⟩ = some (.string s) ∧ w.cell? ⟨g1, n * 4 + 3, none⟩ = some (.slice au l cu) ∧ TmV V t (.agg #[.int .i64 k, .int .i64 m, .string s, .slice au l cu]) ∧ (t.k = k ∧ t.n = m) := by
  obtain ⟨bt, v1, v2, v3, ts, bs, rfl, rfl, hn, h1, h2, h3, h4, h5, h6, h7, h8, h9, h10, h11⟩ := h
  have r1 := h4
  rw [← h2] at r1
  obtain ⟨a1, c1, rfl, e1, e2, e3⟩ := Elems.owned (cells := pCells) (fun _ => rfl) r1
  have r2 := h5
  rw [bools_flat, ← h3] at r2
  obtain ⟨a2, c2, rfl, f1, f2, f3⟩ := Elems.owned (cells := fun b : Bool => [Value.bool b]) (fun _ => rfl) r2
  obtain ⟨a3, c3, hv3⟩ : ∃ a3 c3, v3 = .slice a3 R.length c3 := by
    rcases h6.2 with ⟨e, hz⟩ | ⟨g, cap, cur, e, _⟩
    · exact ⟨none, 0, by rw [e, hz]⟩
    · exact ⟨_, _, e⟩
  subst hv3
  rw [h2] at e1 h1
  rw [h3] at h1
  refine ⟨bt, a1, c1, a2, c2, a3, c3, rfl, (Array.getElem?_eq_some_iff.1 h1).1, by simp [blk_cell h1], by simp [blk_cell h1], by simp [blk_cell h1], fun n hnN => ?_⟩
  rcases e3 with rfl | ⟨g1, off, rfl, _, q1⟩
  · simp at h2; omega
  rcases f3 with rfl | ⟨g2, off2, rfl, _, q2⟩
  · simp at h3; omega
  have ho : off = 0 := by
    rcases h4.2 with ⟨e, _⟩ | ⟨g, cap, cur, e, _⟩
    · cases e
    · cases e; rfl
  have ho2 : off2 = 0 := by
    rcases h5.2 with ⟨e, _⟩ | ⟨g, cap, cur, e, _⟩
    · cases e
    · cases e; rfl
  subst ho ho2
  have b0 := q2 n _ (h7.is n hnN) 0 _ rfl
  rw [Nat.zero_add, Nat.mul_one, Nat.add_zero] at b0
  refine ⟨g1, g2, rfl, rfl, b0, fun t ht => ?_⟩
  obtain ⟨u, s1, s2⟩ := h7.held n t ht
  obtain ⟨k, m, s, au, l, cu, hv, y1, y2, y3, y4⟩ := four_of s2
  have hv' := hv
  simp only [pVal, Value.agg.injEq] at hv'
  have h2' := congrArg Array.toList hv'
  simp only [List.cons.injEq, and_true] at h2'
  obtain ⟨z0, z1, z2, rfl⟩ := h2'
  rw [hv] at s2
  have g0 := q1 n _ s1 0 _ rfl
  have g1 := q1 n _ s1 1 _ rfl
  have g2 := q1 n _ s1 2 _ rfl
  have g3 := q1 n _ s1 3 _ rfl
  rw [z0] at g0
  rw [z1] at g1
  rw [z2] at g2
  simp only [Nat.zero_add, Nat.add_zero] at g0 g1 g2 g3
  exact ⟨k, m, s, au, l, cu, g0, g1, g2, g3, s2, y1, y2⟩
set_option maxHeartbeats 8000000 in
set_option maxRecDepth 100000 in
theorem RWalk_at (h : IsR V F w p N R) {x : Tm} {v : Value} (hv : TmV V x v) (hg : goodT x = true) (ho : ∀ m ∈ occT x, 0 ≤ m ∧ m < N) :
    Calls Try.prog 100 #[p, v] w fun e w' => ∃ y v', e = .returned v' ∧ TmV V y v' ∧ Wk N R x y ∧ topB R y ∧ Below w.heap.size w w' := by
  obtain ⟨hT, hN⟩ := h.tri
  obtain ⟨r, hr⟩ := high hN hT
  obtain ⟨bt, a1, c1, a2, c2, a3, c3, rfl, hlt, d0, d1, d2, hs⟩ := h.open
  obtain ⟨kx, nx, sx, ax, mx, cx, rfl, fk, fn, fs, fv⟩ := four_of hv
  clear fs fv
  obtain ⟨w1, e1, B1, z1, X1⟩ := box_new w #[.int .i64 kx, .int .i64 nx, .string sx, .slice ax mx cx] 48
  obtain ⟨w2, e2, B2, z2, X2⟩ := box_new w1 #[.int .i64 0, .int .i64 0, .string ⟨#[]⟩, .slice none 0 0] 48
  have X1 := X1.ext B2
  rw [z1] at X2
  have HB := Lib.hid (h)
  have HX := Lib.hid (show (TmV V x (.agg #[.int .i64 kx, .int .i64 nx, .string sx, .slice ax mx cx])) ∧ Wk N R x x ∧ (∀ p ∈ R, ∀ j ∈ occT p.2, r j < r p.1) from ⟨hv, ⟨rfl, hg, ho⟩, hr⟩)
  have HW := Lib.hid (show Below w.heap.size w w2 from Ext.trans' B1 B2)
  have HS := Lib.hid hs
  have HB2 := Lib.hid (And.intro X1 X2)
  have HT := Lib.hid (And.intro hT hN)
  have HC := Lib.hid (And.intro d0 (And.intro d1 hlt))
  have HK := Lib.hid (And.intro fk fn)
  clear hs h hv hg ho hr B1 B2 X1 X2 hT hN z2 d0 d1 d2 fk fn
  go_enter Try.func100, Try.ntmps100
  go_wp2_with fail
  (try rw [e1])
  (try rw [e2])
  clear e1 e2 z1
  go_loopg [] (hgt r x) (fun g wr => ∃ (y : Tm) (k n : Int) (s : ByteArray) (a : Option Addr) (m c : Nat), TmV V y (.agg #[.int .i64 k, .int .i64 n, .string s, .slice a m c]) ∧ (y.k = k ∧ y.n = n) ∧ Wk N R x y ∧ g = hgt r y ∧ Below w.heap.size w wr ∧ Box wr w.heap.size [.int .i64 k, .int .i64 n, .string s, .slice a m c] ∧ Box wr (w.heap.size + 1) [.int .i64 0, .int .i64 0, .string ⟨#[]⟩, .slice none 0 0])
  case atStart => exact ⟨x, kx, nx, sx, ax, mx, cx, HX.out.1, HK.out, HX.out.2.1, rfl, HW.out, HB2.out.1, HB2.out.2⟩
  case round =>
    obtain ⟨y, k, n, s, a, m, c, hy, ⟨hyk, hyn⟩, hwk, hgk, hbw, hbx, hbz⟩ := hrel
    have HBW := Lib.hid hbw
    have HZ := Lib.hid hbz
    have HXX := Lib.hid hbx
    obtain ⟨x0, x1, x2, x3, xf⟩ := hbx.four
    have g0 := cell_later hbw HC.out.1
    have g1 := cell_later hbw HC.out.2.1
    by_cases hk : k = 0
    · subst hk
      have hr0 := hwk.rng n (by
        obtain ⟨yk, yn, ys, yt⟩ := y
        cases (show yk = 0 from hyk)
        cases (show yn = n from hyn)
        rw [(formed_var (good_parts hwk.good).2.2).1]
        show n ∈ occT (.mk 0 n ⟨#[]⟩ [])
        rw [occ_var]
        simp)
      obtain ⟨i, rfl⟩ : ∃ i : Nat, n = i := ⟨n.toNat, by omega⟩
      have hiN : i < N := by omega
      have hi0 : (0 : Int) ≤ i := by omega
      have hiN2 : (i : Int) < N := by omega
      obtain ⟨q1, q2, rfl, rfl, s0, hsl⟩ := HS.out i hiN
      have s0' := cell_later hbw s0
      cases hgt' : getB R i with
      | none =>
        rw [hgt'] at s0'
        have s0' : wr.cell? ⟨q2, i, none⟩ = some (.bool false) := s0'
        have HY := Lib.hid (show TmV V y (.agg #[.int .i64 0, .int .i64 i, .string s, .slice a m c]) ∧ Wk N R x y ∧ topB R y from ⟨hy, hwk, fun _ => by rw [hyn]; exact hgt'⟩)
        clear hy hwk hgk hbw hbx hbz hyk hyn hr0 s0 hsl hgt' hi0 hiN
        go_wp2_with fail
        go_quiet (fail)
        obtain ⟨d0, d1, d2, d3, df⟩ := (HXX.out.ext (belN (Below.refl _ _) nq)).four
        obtain ⟨z0, z1, z2, z3, zf⟩ := (HZ.out.ext (belN (Below.refl _ _) nq)).four
        have HB6 := Lib.hid (belN HBW.out nq)
        clear x0 x1 x2 x3 xf g0 g1 s0'
        generalize wr.drewN nq = w6 at *
        go_wp2
        refine bodyPost_ret (v := .agg #[.int .i64 0, .int .i64 i, .string s, .slice a m c]) (by rw [results_cell1 rfl]; go_simp) rfl ⟨y, _, rfl, HY.out.1, HY.out.2.1, HY.out.2.2, ?_⟩
        exact Below.set4 HB6.out (by omega) _ _ _ _
      | some t =>
        rw [hgt'] at s0'
        have s0' : wr.cell? ⟨q2, i, none⟩ = some (.bool true) := s0'
        obtain ⟨tk, tm, tsn, ta, tl, tc, s1, s2, s3, s4, htm, hqk, hqn⟩ := hsl t hgt'
        have hyvar : y = varV i := by
          obtain ⟨yk, yn, ys, yt⟩ := y
          cases (show yk = 0 from hyk)
          cases (show yn = (i : Int) from hyn)
          exact (formed_var (good_parts hwk.good).2.2).1
        subst hyvar
        have HY := Lib.hid (show TmV V t (.agg #[.int .i64 tk, .int .i64 tm, .string tsn, .slice ta tl tc]) ∧ (t.k = tk ∧ t.n = tm) ∧ Wk N R x t ∧ hgt r t < hgt r (varV i) from ⟨htm, ⟨hqk, hqn⟩, Wk.step HT.out.2 HT.out.1 hwk hgt', hgt_less HX.out.2.2 hgt'⟩)
        have HG := Lib.hid hgk
        have S0 := Lib.hid (And.intro s1 (And.intro s2 (And.intro s3 s4)))
        clear hy hwk hgk hbw hbx hbz hyk hyn hr0 s0 hsl hgt' hqk hqn htm s1 s2 s3 s4
        go_wp2_with fail
        go_quiet (fail)
        obtain ⟨d0, d1, d2, d3, df⟩ := (HXX.out.ext (belN (Below.refl _ _) nq)).four
        have HB6 := Lib.hid (belN HBW.out nq)
        have HX6 := Lib.hid (And.intro (HXX.out.ext (belN (Below.refl _ _) nq)) (HZ.out.ext (belN (Below.refl _ _) nq)))
        clear x0 x1 x2 x3 xf g0 g1 s0'
        generalize wr.drewN nq = w6 at *
        have g0 := cell_later HB6.out HC.out.1
        have g1 := cell_later HB6.out S0.out.1
        have g2 := cell_later HB6.out S0.out.2.1
        have g3 := cell_later HB6.out S0.out.2.2.1
        have g4 := cell_later HB6.out S0.out.2.2.2
        go_wp2_with fail
        go_region
        go_wp2
        go_roundg (hgt r t)
        case measure => rw [HG.out]; exact HY.out.2.2.2
        case rel =>
          have hb4 : Below w.heap.size w (set4 w6 w.heap.size (.int .i64 tk) (.int .i64 tm) (.string tsn) (.slice ta tl tc)) := Below.set4 HB6.out (Nat.le_refl _) _ _ _ _
          have hx4 : Box (set4 w6 w.heap.size (.int .i64 tk) (.int .i64 tm) (.string tsn) (.slice ta tl tc)) w.heap.size [.int .i64 tk, .int .i64 tm, .string tsn, .slice ta tl tc] :=
            (((HX6.out.1.set (k := 0) (by simp)).set (k := 1) (by simp)).set (k := 2) (by simp)).set (k := 3) (by simp)
          have hz4 : Box (set4 w6 w.heap.size (.int .i64 tk) (.int .i64 tm) (.string tsn) (.slice ta tl tc)) (w.heap.size + 1) _ := (((HX6.out.2.far (c := w.heap.size) (by omega)).far (by omega)).far (by omega)).far (by omega)
          exact ⟨t, tk, tm, tsn, ta, tl, tc, HY.out.1, HY.out.2.1, HY.out.2.2.1, rfl, hb4.drew, hx4.ext (Below.refl _ _).drew, hz4.ext (Below.refl _ _).drew⟩
    · have hk' : (k == 0) = false := beq_false_of_ne hk
      have HY := Lib.hid (show TmV V y (.agg #[.int .i64 k, .int .i64 n, .string s, .slice a m c]) ∧ Wk N R x y ∧ topB R y from ⟨hy, hwk, fun h => absurd (hyk.symm.trans h) hk⟩)
      clear hy hwk hgk hbw hbx hbz hyk hyn hk
      go_wp2_with fail
      go_quiet (fail)
      obtain ⟨d0, d1, d2, d3, df⟩ := (HXX.out.ext (belN (Below.refl _ _) nq)).four
      obtain ⟨z0, z1, z2, z3, zf⟩ := (HZ.out.ext (belN (Below.refl _ _) nq)).four
      have HB6 := Lib.hid (belN HBW.out nq)
      clear x0 x1 x2 x3 xf g0 g1
      generalize wr.drewN nq = w6 at *
      go_wp2
      refine bodyPost_ret (v := .agg #[.int .i64 k, .int .i64 n, .string s, .slice a m c]) (by rw [results_cell1 rfl]; go_simp) rfl ⟨y, _, rfl, HY.out.1, HY.out.2.1, HY.out.2.2, ?_⟩
      exact Below.set4 HB6.out (by omega) _ _ _ _
end
end Go.Proofs.Ytbbbgijlbcmpbaa
/- Rows of numbers; a term's variables' numbers, one behind the other. -/
namespace Go.Proofs.Ytbbbgijlbcmpbaa
open Go.RowKit
set_option linter.unusedVariables false

/-- A row of numbers of 64 bits. -/
def Nums (w : World) (v : Value) (l : List Int) : Prop := Elems 1 (fun n => [Value.int .i64 n]) w v l
theorem Nums.ext {w w' : World} {v : Value} {l : List Int} (h : Nums w v l) (hb : Below w.heap.size w w') : Nums w' v l := Elems.ext h hb
theorem Nums.nil (w : World) : Nums w (.slice none 0 0) [] := ⟨none, 0, rfl, Nat.le_refl _, Nat.zero_le _, Or.inl rfl⟩
theorem Nums.get {w : World} {a : Option Addr} {m c : Nat} {l : List Int} (h : Nums w (.slice a m c) l) {i : Nat} {x : Int} (hx : l[i]? = some x) : ∃ b off, a = some ⟨b, off, none⟩ ∧ b < w.heap.size ∧ w.cell? ⟨b, off + i, none⟩ = some (.int .i64 x) := by
  obtain ⟨a', c', e, h1, h2, h3⟩ := h
  cases e
  rcases h3 with rfl | ⟨b, off, rfl, hb, hc⟩
  · simp at hx
  · exact ⟨b, off, rfl, hb, by have := hc i x hx 0 _ rfl; simpa using this⟩
theorem Nums.len {w : World} {v : Value} {l : List Int} (h : Nums w v l) : ∃ a c, v = .slice a l.length c ∧ l.length ≤ c ∧ c ≤ maxLen := by
  obtain ⟨a, c, h1, h2, h3, _⟩ := h
  exact ⟨a, c, h1, h2, h3⟩
abbrev numCells (n : Int) : List Value := [Value.int .i64 n]
/-- A row of numbers of the call's own. -/
def RowN (w : World) (base : Nat) (v : Value) (l : List Int) : Prop := w.ownsRow base 2 1 v l.length (l.flatMap numCells)
theorem RowN.nums {w : World} {base : Nat} {v : Value} {l : List Int} (h : RowN w base v l) : Nums w v l := Elems.owned (cells := numCells) (fun _ => rfl) h
theorem RowN.nil (w : World) (base : Nat) : RowN w base (.slice none 0 0) [] := World.ownsRow_nil _ _ _ _
mutual
theorem vars_len : ∀ (t : Tm) (l : List Int), (varsT t l).length ≤ l.length + sizeN t ∧ l.length ≤ (varsT t l).length
  | .mk k n s ts, l => by
    rw [varsT, sizeN]
    by_cases hk : k = 0
    · rw [if_pos hk]
      split
      · omega
      · rw [List.length_append, List.length_singleton]; omega
    · rw [if_neg hk]
      have := varss_len ts l
      omega
theorem varss_len : ∀ (ts : List Tm) (l : List Int), (varsL ts l).length ≤ l.length + sizesN ts ∧ l.length ≤ (varsL ts l).length
  | [], l => by rw [varsL, sizesN]; omega
  | x :: r, l => by
    rw [varsL, sizesN]
    have h1 := vars_len x l
    have h2 := varss_len r (varsT x l)
    omega
end
theorem varss_step {ts : List Tm} {i : Nat} {y : Tm} (h : ts[i]? = some y) (l : List Int) : varsL (ts.take (i + 1)) l = varsT y (varsL (ts.take i) l) := by
  induction ts generalizing i l with
  | nil => simp at h
  | cons x r ih =>
    cases i with
    | zero => simp at h; subst h; simp [varsL]
    | succ i =>
      simp only [List.take_succ_cons, varsL]
      exact ih (by simpa using h) _
/-- Of what was there nothing has turned but one block. -/
def Kept (w w' : World) (row : Option Nat) : Prop := w.heap.size ≤ w'.heap.size ∧ ∀ k, k < w.heap.size → row ≠ some k → w'.heap[k]? = w.heap[k]?
theorem Kept.of {w w' : World} (h : Below w.heap.size w w') (row : Option Nat) : Kept w w' row := ⟨h.size, fun k hk _ => h.block k hk⟩
theorem Kept.cell {w w' : World} {row : Option Nat} (h : Kept w w' row) {b j : Nat} {u : Value} (hne : row ≠ some b) (hc : w.cell? ⟨b, j, none⟩ = some u) : w'.cell? ⟨b, j, none⟩ = some u := by
  have hb : b < w.heap.size := World.block_lt_of_cell? _ _ hc
  rw [World.cell?_of_block (w := w) (h.2 b hb hne)]
  exact hc
theorem Kept.trans {w w1 w2 : World} {r1 r2 : Option Nat} (h1 : Kept w w1 r1) (h2 : Kept w1 w2 r2) (hr : r2 = r1 ∨ ∀ k, r2 = some k → w.heap.size ≤ k) : Kept w w2 r1 :=
  ⟨Nat.le_trans h1.1 h2.1, fun k hk hne => by
    rw [h2.2 k (Nat.lt_of_lt_of_le hk h1.1) (fun e => by
      rcases hr with hr | hr
      · exact hne (by rw [← hr]; exact e)
      · have := hr k e; omega), h1.2 k hk hne]⟩
theorem infoI64 : (Try.prog.info? 2).map (fun i => (i.zero, i.size, i.bytes)) = some (some (.int .i64 0), 1, 8) := by kernel_rfl
end Go.Proofs.Ytbbbgijlbcmpbaa
/- Package term: Vars. -/
namespace Go.Proofs.Ytbbbgijlbcmpbaa
open Go.RowKit
set_option linter.unusedVariables false

theorem cell_one_new' {w : World} (o : Obj) (v : Value) (ty : TypeId) (j : Nat) (u : Value) (h : [v][j]? = some u) : ((w.alloc o).alloc (.cells #[v] ty)).cell? ((⟨w.heap.size + 1, 0, none⟩ : Addr).add j) = some u := by
  have h1 := cell_new (w.alloc o) #[v] ty j u h
  rwa [show (w.alloc o).heap.size = w.heap.size + 1 by simp] at h1
end Go.Proofs.Ytbbbgijlbcmpbaa
