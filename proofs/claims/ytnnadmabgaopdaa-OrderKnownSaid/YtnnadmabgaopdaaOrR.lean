/- The document's own order; order's Test. (gen_or.py) -/
import Derived.Test.YtnnadmabgaopdaaOrK
import Derived.Test.YtnnadmabgaopdaaTmD
namespace Go.Proofs.Ytnnadmabgaopdaa
open Go.RowKit
set_option linter.unusedVariables false

def eArg : Int := 1
/-- What a test says of how two compare. -/
def testB (op : List UInt8) (c : Int) : Bool × Int :=
  if op = [61, 61] then (c == 0, 0) else if op = [92, 61, 61] then (c != 0, 0) else if op = [64, 60] then (decide (c < 0), 0) else if op = [64, 62] then (decide (0 < c), 0)
  else if op = [64, 61, 60] then (decide (c ≤ 0), 0) else if op = [64, 62, 61] then (decide (0 ≤ c), 0) else (false, 1)
def testG (op : List UInt8) (x y : Tm) : Bool × Int := if goodT x && goodT y then testB op (cmpT x y) else (false, 1)
def signI (b : Bool) : Int := if b then -1 else 1
theorem rsign_at (b : Bool) (w : World) : Calls Try.prog 28 #[.bool b] w fun e w' => e = .returned (.int .i64 (signI b)) ∧ w' = w := by
  cases b
  · go_enter Try.func28, Try.ntmps28
    go_wp2
    go_ret
    exact ⟨rfl, rfl⟩
  · go_enter Try.func28, Try.ntmps28
    go_wp2
    go_ret
    exact ⟨rfl, rfl⟩
theorem rkind_at {k n : Int} {s : ByteArray} {a : Option Addr} {m c : Nat} (h1 : m ≤ c) (h2 : c ≤ maxLen) (w : World) : Calls Try.prog 27 #[.agg #[.int .i64 k, .int .i64 n, .string s, .slice a m c]] w fun e w' => e = .returned (.int .i64 (placeK k m)) ∧ Below w.heap.size w w' := by
  by_cases g : k = 2
  · subst g
    by_cases g2 : 0 < m
    · rw [show placeK 2 m = 3 by unfold placeK; rw [if_pos ⟨rfl, g2⟩]]
      have g3 : (0 : Int) < m := by omega
      go_enter Try.func27, Try.ntmps27
      go_wp2
      go_ret
      exact ⟨rfl, bel1' w _⟩
    · rw [show placeK 2 m = 2 by unfold placeK; rw [if_neg (fun e => g2 e.2)]]
      have g3 : ¬ (0 : Int) < m := by omega
      go_enter Try.func27, Try.ntmps27
      go_wp2
      go_ret
      exact ⟨rfl, bel1' w _⟩
  · rw [show placeK k m = k by unfold placeK; rw [if_neg (fun e => g e.1)]]
    have g3 : (k == 2) = false := beq_false_of_ne g
    go_enter Try.func27, Try.ntmps27
    go_wp2
    go_ret
    exact ⟨rfl, bel1' w _⟩
abbrev r2b (W : World) (k n : Int) (s : ByteArray) (u : Value) (k' n' : Int) (s' : ByteArray) (u' : Value) : World :=
  (W.alloc (box4 k n s u 38)).alloc (box4 k' n' s' u' 38)
abbrev Cells8 (wr : World) (b b' : Nat) (k n : Int) (s : ByteArray) (u : Value) (k' n' : Int) (s' : ByteArray) (u' : Value) : Prop :=
    (wr.cell? ⟨b, 0, none⟩ = some (.int .i64 k) ∧ wr.cell? ⟨b, 1, none⟩ = some (.int .i64 n) ∧ wr.cell? ⟨b, 2, none⟩ = some (.string s) ∧ wr.cell? ⟨b, 3, none⟩ = some u) ∧
    (wr.cell? ⟨b', 0, none⟩ = some (.int .i64 k') ∧ wr.cell? ⟨b', 1, none⟩ = some (.int .i64 n') ∧ wr.cell? ⟨b', 2, none⟩ = some (.string s') ∧ wr.cell? ⟨b', 3, none⟩ = some u')
theorem rcells2 (W : World) (k n : Int) (s : ByteArray) (u : Value) (k' n' : Int) (s' : ByteArray) (u' : Value) (wr : World)
    (hb : Below (r2b W k n s u k' n' s' u').heap.size (r2b W k n s u k' n' s' u') wr) : Cells8 wr W.heap.size (W.heap.size + 1) k n s u k' n' s' u' := by
  have h1 := Ext.trans' (bel1' (W.alloc (box4 k n s u 38)) (box4 k' n' s' u' 38)) hb
  have a := box_cells W _ _ _ _ _ h1
  have b := box_cells (W.alloc (box4 k n s u 38)) _ _ _ _ _ hb
  simp only [World.size_alloc] at b
  exact ⟨a, b⟩
theorem sign_int {a b : Int} (h : a ≠ b) : signI (decide (a < b)) = cmpI a b := by
  unfold cmpI signI
  by_cases h1 : a < b
  · simp [h1]
  · have h2 : b < a := by omega
    simp [h1, h2]
theorem sign_bytes {a b : List UInt8} (h : a ≠ b) : signI (Op.bytesLess a b) = cmpB a b := by
  unfold signI
  have h1 := (less_bytes a b h).2
  unfold cmpB at h1 ⊢
  cases h2 : Op.bytesLess a b
  · cases h3 : Op.bytesLess b a
    · rw [h2, h3] at h1; exact absurd rfl h1
    · rfl
  · rfl
set_option maxHeartbeats 8000000 in
set_option maxRecDepth 100000 in
theorem rcmp_at : ∀ (N : Nat) (x : Tm), sizeN x ≤ N → ∀ (y : Tm) (w : World) (va vb : Value), TmV w x va → TmV w y vb →
    Calls Try.prog 18 #[va, vb] w fun e w' => e = .returned (.int .i64 (cmpT x y)) ∧ Below w.heap.size w w'
  | 0, x, h, y, w, va, vb, hv, hv' => by have := size_pos x; omega
  | N + 1, .mk k n s ts, h, .mk k' n' s' ts', w, va, vb, hv, hv' => by
    obtain ⟨u, rfl, hs, hk, hn, hu⟩ := tmV_iff.1 hv
    obtain ⟨u', rfl, hs', hk', hn', hu'⟩ := tmV_iff.1 hv'
    obtain ⟨a, c, rfl, h1, h2, h3⟩ := hu.len
    obtain ⟨a', c', rfl, h1', h2', h3'⟩ := hu'.len
    unfold BIG at h3 h3' hs hs'
    have IH := Lib.hid (fun (x : Tm) (hx : x ∈ ts) => rcmp_at N x (mem_size h hx))
    rw [cmp_mk]
    unfold firstK
    have KA := fun w => rkind_at (k := k) (n := n) (s := s) (a := a) h1 h2 w
    have KB := fun w => rkind_at (k := k') (n := n') (s := s') (a := a') h1' h2' w
    obtain ⟨K, hK⟩ : ∃ K, placeK k ts.length = K := ⟨_, rfl⟩
    obtain ⟨L, hL⟩ : ∃ K, placeK k' ts'.length = K := ⟨_, rfl⟩
    rw [hK] at KA ⊢
    rw [hL] at KB ⊢
    obtain ⟨m, hm⟩ : ∃ m, ts.length = m := ⟨_, rfl⟩
    obtain ⟨m', hm'⟩ : ∃ m', ts'.length = m' := ⟨_, rfl⟩
    have HM := Lib.hid hm
    have HM' := Lib.hid hm'
    have HU := Lib.hid hu
    have HU' := Lib.hid hu'
    rw [hm] at h1 h3 KA HU ⊢
    rw [hm'] at h1' h3' KB HU' ⊢
    have hw : Below w.heap.size w (r2b w k n s (.slice a m c) k' n' s' (.slice a' m' c')) := (bel1' w _).alloc (by simp) _
    have HC := Lib.hid (rcells2 w k n s (.slice a m c) k' n' s' (.slice a' m' c'))
    obtain ⟨w2, hw2⟩ : ∃ w2, (w.alloc (box4 k n s (.slice a m c) 38)).alloc (box4 k' n' s' (.slice a' m' c') 38) = w2 := ⟨_, rfl⟩
    unfold r2b at HC hw
    rw [hw2] at HC hw
    have HW := Lib.hid hw
    have HKA := Lib.hid KA
    have HKB := Lib.hid KB
    have HS := Lib.hid rsign_at
    obtain ⟨R, hR⟩ : ∃ R, or2 (or2 (cmpI K L) (or2 (cmpI n n') (or2 (cmpI m m') (cmpB s.data.toList s'.data.toList)))) (cmpL ts ts') = R := ⟨_, rfl⟩
    rw [hR]
    have HR := Lib.hid hR
    obtain ⟨⟨c0, c1, c2, c3⟩, d0, d1, d2, d3⟩ := HC.out _ (Below.refl _ _)
    clear hR hm hm' hv hv' hu hu' h hw hK hL KA KB
    have HW2 := Lib.hid hw2
    clear hw2 c0 c1 c2 c3 d0 d1 d2 d3
    go_enter Try.func18, Try.ntmps18
    go_wp2_with fail
    rw [HW2.out]
    obtain ⟨⟨c0, c1, c2, c3⟩, d0, d1, d2, d3⟩ := HC.out _ (Below.refl _ _)
    clear HW2
    (refine wp_region_class (fun w' => ((w'.cell? ⟨w.heap.size, 0, none⟩ = some (.int .i64 k) ∧ w'.cell? ⟨w.heap.size, 1, none⟩ = some (.int .i64 n) ∧ w'.cell? ⟨w.heap.size, 2, none⟩ = some (.string s) ∧ w'.cell? ⟨w.heap.size, 3, none⟩ = some (.slice a m c)) ∧ (w'.cell? ⟨w.heap.size + 1, 0, none⟩ = some (.int .i64 k') ∧ w'.cell? ⟨w.heap.size + 1, 1, none⟩ = some (.int .i64 n') ∧ w'.cell? ⟨w.heap.size + 1, 2, none⟩ = some (.string s') ∧ w'.cell? ⟨w.heap.size + 1, 3, none⟩ = some (.slice a' m' c'))) ∧ Below w2.heap.size w2 w') (by kernel_rfl) (by kernel_rfl) (⟨⟨⟨c0, c1, c2, c3⟩, d0, d1, d2, d3⟩, (Below.refl _ _).drew⟩) ?_; (repeat (first | go_big_quiet_skip | (go_big_quiet_want; refine quiet_of ?_; apply Exists.intro; refine ⟨fun wq hq => ?_, ?_⟩; (focus ((try dsimp only at hq); go_simp; (first | done | with_reducible rfl | (first | (go_at_call_of 27 (#[Value.agg #[.int .i64 k, .int .i64 n, .string s, .slice a m c]]); refine (HKA.out wq).mono ?_; rintro e w6 ⟨rfl, h6⟩; exact ⟨rfl, HC.out _ (Below.trans hq.2 (h6.mono hq.2.size)), Below.trans hq.2 (h6.mono hq.2.size)⟩) | (go_at_call_of 27 (#[Value.agg #[.int .i64 k', .int .i64 n', .string s', .slice a' m' c']]); refine (HKB.out wq).mono ?_; rintro e w6 ⟨rfl, h6⟩; exact ⟨rfl, HC.out _ (Below.trans hq.2 (h6.mono hq.2.size)), Below.trans hq.2 (h6.mono hq.2.size)⟩) | fail) | fail))); try simp only [Act.put, List.setIfInBounds_toArray, List.set_cons_zero, List.set_cons_succ]; go_big_quiet_on) | fail)); refine wpQuiet_nil ?_; intro wz hz)
    have B1 := Lib.hid hz.2
    obtain ⟨⟨c0, c1, c2, c3⟩, d0, d1, d2, d3⟩ := HC.out _ hz.2
    clear hz
    by_cases gk : K = L
    rotate_left
    · have g1 : (K != L) = true := by simpa using gk
      have hr := HR.out
      have s1 := sign_int gk
      have hne := (less_int K L gk).2
      rw [or_ne (x := cmpI K L) hne, or_ne (x := cmpI K L) hne, ← s1] at hr
      have HSR := Lib.hid hr
      clear hr s1 hne gk HR
      go_wp2_with fail
      (refine wp_region_class (fun w' => ((w'.cell? ⟨w.heap.size, 0, none⟩ = some (.int .i64 k) ∧ w'.cell? ⟨w.heap.size, 1, none⟩ = some (.int .i64 n) ∧ w'.cell? ⟨w.heap.size, 2, none⟩ = some (.string s) ∧ w'.cell? ⟨w.heap.size, 3, none⟩ = some (.slice a m c)) ∧ (w'.cell? ⟨w.heap.size + 1, 0, none⟩ = some (.int .i64 k') ∧ w'.cell? ⟨w.heap.size + 1, 1, none⟩ = some (.int .i64 n') ∧ w'.cell? ⟨w.heap.size + 1, 2, none⟩ = some (.string s') ∧ w'.cell? ⟨w.heap.size + 1, 3, none⟩ = some (.slice a' m' c'))) ∧ Below wz.heap.size wz w') (by kernel_rfl) (by kernel_rfl) (⟨⟨⟨c0, c1, c2, c3⟩, d0, d1, d2, d3⟩, (Below.refl _ _).drew⟩) ?_; (repeat (first | go_big_quiet_skip | (go_big_quiet_want; refine quiet_of ?_; apply Exists.intro; refine ⟨fun wq hq => ?_, ?_⟩; (focus ((try dsimp only at hq); go_simp; (first | done | with_reducible rfl | (first | (go_at_call_of 27 (#[Value.agg #[.int .i64 k, .int .i64 n, .string s, .slice a m c]]); refine (HKA.out wq).mono ?_; rintro e w6 ⟨rfl, h6⟩; exact ⟨rfl, HC.out _ (Ext.trans' B1.out (Below.trans hq.2 (h6.mono hq.2.size))), Below.trans hq.2 (h6.mono hq.2.size)⟩) | (go_at_call_of 27 (#[Value.agg #[.int .i64 k', .int .i64 n', .string s', .slice a' m' c']]); refine (HKB.out wq).mono ?_; rintro e w6 ⟨rfl, h6⟩; exact ⟨rfl, HC.out _ (Ext.trans' B1.out (Below.trans hq.2 (h6.mono hq.2.size))), Below.trans hq.2 (h6.mono hq.2.size)⟩) | (go_at_call 28; refine (HS.out _ wq).mono ?_; rintro e w6 ⟨rfl, rfl⟩; exact ⟨rfl, hq⟩) | fail) | fail))); try simp only [Act.put, List.setIfInBounds_toArray, List.set_cons_zero, List.set_cons_succ]; go_big_quiet_on) | fail)); refine wpQuiet_nil ?_; intro wz hz)
      have B2 := Lib.hid (Ext.trans' HW.out (Ext.trans' B1.out hz.2))
      clear hz
      go_wp2
      go_ret
      exact ⟨congrArg (fun z => Ending.returned (.int .i64 z)) HSR.out, B2.out⟩
    have g1 : (K != L) = false := by simpa using gk
    have hr := HR.out
    rw [or_eq (x := cmpI K L) (int_zero.2 gk)] at hr
    have HR := Lib.hid hr
    clear hr gk HKA HKB
    by_cases gn : n = n'
    rotate_left
    · have g2 : (n != n') = true := by simpa using gn
      have hr := HR.out
      have s1 := sign_int gn
      have hne := (less_int n n' gn).2
      rw [or_ne (x := cmpI n n') hne, or_ne (x := cmpI n n') hne, ← s1] at hr
      have HSR := Lib.hid hr
      clear hr s1 hne gn HR
      (go_wp2_with fail; go_fit (HS.out _ _); rintro e w3 ⟨rfl, rfl⟩)
      have B2 := Lib.hid (Ext.trans' HW.out B1.out)
      go_wp2
      go_ret
      exact ⟨congrArg (fun z => Ending.returned (.int .i64 z)) HSR.out, B2.out⟩
    have g2 : (n != n') = false := by simpa using gn
    have hr := HR.out
    rw [or_eq (x := cmpI n n') (int_zero.2 gn)] at hr
    have HR := Lib.hid hr
    clear hr gn
    by_cases gm : (m : Int) = m'
    rotate_left
    · have g3 : ((m : Int) != m') = true := by simpa using gm
      have hr := HR.out
      have s1 := sign_int gm
      have hne := (less_int (m : Int) m' gm).2
      rw [or_ne (x := cmpI m m') hne, or_ne (x := cmpI m m') hne, ← s1] at hr
      have HSR := Lib.hid hr
      clear hr s1 hne HR
      (go_wp2_with fail; go_fit (HS.out _ _); rintro e w3 ⟨rfl, rfl⟩)
      have B2 := Lib.hid (Ext.trans' HW.out B1.out)
      go_wp2
      go_ret
      exact ⟨congrArg (fun z => Ending.returned (.int .i64 z)) (by simpa using HSR.out), B2.out⟩
    have gm' : m = m' := by omega
    subst gm'
    have hr := HR.out
    rw [or_eq (x := cmpI m m) (int_zero.2 rfl)] at hr
    have HR := Lib.hid hr
    clear hr gm
    by_cases gs : s.toList = s'.toList
    rotate_left
    · have g4 : (s.toList == s'.toList) = false := beq_false_of_ne gs
      have hr := HR.out
      rw [Lib.toList_data, Lib.toList_data] at gs
      have s1 := sign_bytes gs
      have hne := (less_bytes _ _ gs).2
      rw [or_ne hne, ← s1, ← Lib.toList_data, ← Lib.toList_data] at hr
      have HSR := Lib.hid hr
      clear hr s1 hne gs HR
      (go_wp2_with fail; go_fit (HS.out _ _); rintro e w3 ⟨rfl, rfl⟩)
      have B2 := Lib.hid (Ext.trans' HW.out B1.out)
      go_wp2
      go_ret
      exact ⟨congrArg (fun z => Ending.returned (.int .i64 z)) HSR.out, B2.out⟩
    have g4 : (s.toList == s'.toList) = true := by rw [gs]; simp
    have hr := HR.out
    rw [Lib.toList_data, Lib.toList_data] at gs
    rw [or_eq ((bytes_zero _ _).2 gs)] at hr
    have HR := Lib.hid hr
    clear hr gs
    have HB1 := Lib.hid (Ext.trans' HW.out B1.out)
    go_wp2_with fail
    go_loopw [5] (fun v wr => ∃ i : Nat, i ≤ m ∧ v = .int .i64 i ∧ Hid (cmpL (ts.drop i) (ts'.drop i) = R) ∧ Hid (Below w2.heap.size w2 wr)) (fun v _ => m - (intOf v).toNat)
    case atStart => exact ⟨0, Nat.zero_le _, rfl, Lib.hid (by rw [List.drop_zero, List.drop_zero]; exact HR.out), B1⟩
    case round =>
      obtain ⟨i, hi, rfl, HD, HB⟩ := hrel
      obtain ⟨⟨c0, c1, c2, c3⟩, d0, d1, d2, d3⟩ := HC.out _ HB.out
      have HBW := Lib.hid (Ext.trans' HW.out HB.out)
      by_cases hil : i < m
      · obtain ⟨x, hx⟩ : ∃ x, ts[i]? = some x := ⟨_, List.getElem?_eq_getElem (by rw [HM.out]; exact hil)⟩
        obtain ⟨y, hy⟩ : ∃ y, ts'[i]? = some y := ⟨_, List.getElem?_eq_getElem (by rw [HM'.out]; exact hil)⟩
        have hd := HD.out
        rw [cmps_step hx hy] at hd
        unfold or2 at hd
        obtain ⟨b, off, k1, n1, s1, u1, rfl, hbb, _, _, _, x0, x1, x2, x3, _, ht⟩ := (HU.out.ext HBW.out).get hx
        obtain ⟨b', off', k2, n2, s2, u2, rfl, hbb', _, _, _, y0, y1, y2, y3, _, ht'⟩ := (HU'.out.ext HBW.out).get hy
        have CM := Lib.hid (fun (wq : World) (hq : Below wr.heap.size wr wq) => IH.out x (List.mem_of_getElem? hx) y wq _ _ (TmV.ext hq _ _ ht) (TmV.ext hq _ _ ht'))
        obtain ⟨q, hqq⟩ : ∃ q, cmpT x y = q := ⟨_, rfl⟩
        rw [hqq] at hd CM
        clear HD ht ht' hx hy hqq
        have hil' : (i : Int) < m := by omega
        go_wp2_with fail
        (refine wp_region_class (fun w' => (w'.cell? ⟨w.heap.size, 3, none⟩ = some (.slice (some ⟨b, off, none⟩) m c) ∧ w'.cell? ⟨w.heap.size + 1, 3, none⟩ = some (.slice (some ⟨b', off', none⟩) m c') ∧ w'.cell? ⟨b, off + i * 4, none⟩ = some (.int .i64 k1) ∧ w'.cell? ⟨b, off + i * 4 + 1, none⟩ = some (.int .i64 n1) ∧ w'.cell? ⟨b, off + i * 4 + 2, none⟩ = some (.string s1) ∧ w'.cell? ⟨b, off + i * 4 + 3, none⟩ = some u1 ∧ w'.cell? ⟨b', off' + i * 4, none⟩ = some (.int .i64 k2) ∧ w'.cell? ⟨b', off' + i * 4 + 1, none⟩ = some (.int .i64 n2) ∧ w'.cell? ⟨b', off' + i * 4 + 2, none⟩ = some (.string s2) ∧ w'.cell? ⟨b', off' + i * 4 + 3, none⟩ = some u2) ∧ Below wr.heap.size wr w') (by kernel_rfl) (by kernel_rfl) (⟨⟨c3, d3, x0, x1, x2, x3, y0, y1, y2, y3⟩, (Below.refl _ _).drew⟩) ?_; (repeat (first | go_big_quiet_skip | (go_big_quiet_want; refine quiet_of ?_; apply Exists.intro; refine ⟨fun wq hq => ?_, ?_⟩; (focus ((try dsimp only at hq); go_simp; (first | done | with_reducible rfl | ((go_at_call 18; refine (CM.out wq hq.2).mono ?_; rintro e w6 ⟨rfl, h6⟩; exact ⟨rfl, ⟨cell_later h6 hq.1.1, cell_later h6 hq.1.2.1, cell_later h6 hq.1.2.2.1, cell_later h6 hq.1.2.2.2.1, cell_later h6 hq.1.2.2.2.2.1, cell_later h6 hq.1.2.2.2.2.2.1, cell_later h6 hq.1.2.2.2.2.2.2.1, cell_later h6 hq.1.2.2.2.2.2.2.2.1, cell_later h6 hq.1.2.2.2.2.2.2.2.2.1, cell_later h6 hq.1.2.2.2.2.2.2.2.2.2⟩, Below.trans hq.2 (h6.mono hq.2.size)⟩)) | fail))); try simp only [Act.put, List.setIfInBounds_toArray, List.set_cons_zero, List.set_cons_succ]; go_big_quiet_on) | fail)); refine wpQuiet_nil ?_; intro wz hz)
        have HBz := Lib.hid (Ext.trans' HB.out hz.2)
        clear hz
        by_cases hq : q = 0
        · rw [if_pos hq] at hd
          have HD := Lib.hid hd
          subst hq
          clear hd
          go_wp2
          go_roundw
          case rel => exact ⟨i + 1, by omega, by go_num, HD, HBz⟩
          case measure => simp [intOf]; omega
        · rw [if_neg hq] at hd
          have hq1 : (q != 0) = true := by simpa using hq
          have HQQ := Lib.hid hd
          have HBy := Lib.hid (Ext.trans' HW.out HBz.out)
          clear HR hd
          go_wp2
          go_ret
          exact ⟨congrArg (fun z => Ending.returned (.int .i64 z)) HQQ.out, HBy.out⟩
      · have hd := HD.out
        rw [List.drop_eq_nil_of_le (by rw [HM.out]; omega), List.drop_eq_nil_of_le (by rw [HM'.out]; omega), cmpL] at hd
        subst hd
        have hmi : ¬ (i : Int) < m := by omega
        clear HR HD
        go_wp2
        go_ret
        exact ⟨rfl, HBW.out⟩
end Go.Proofs.Ytnnadmabgaopdaa
