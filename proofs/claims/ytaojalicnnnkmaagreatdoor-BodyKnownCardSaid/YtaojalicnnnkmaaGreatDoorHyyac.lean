import Derived.Test.YtaojalicnnnkmaaGreatDoorHyyab
import Derived.Deep.QuietTactic
import Derived.Deep.RegionHeld3
import Derived.RangeFuncNested
import Derived.RangeFuncBound
import Derived.RangeFuncCalls
import Derived.RangeFuncLeaves
import Derived.Shelf.Abstract
import Derived.Shelf.RegionOpen
import Derived.WalkKit
import Derived.OwnWalkIn
import Derived.TacticsInMore
import Derived.LoopNIn
import Derived.LoopIn
import Derived.Test.YtaojalicnnnkmaaGreatDoorHyyaa
set_option linter.unusedVariables false
set_option linter.unusedSimpArgs false
/- Package term: Same. -/
namespace Go.Proofs.YtaojalicnnnkmaaGreatDoor
open Go.RowKit
set_option linter.unusedVariables false

theorem same_mk' (k n k' n' : Int) (s s' : ByteArray) (ts ts' : List Tm) : sameT (.mk k n s ts) (.mk k' n' s' ts') = (k == k' && n == n' && s.data.toList == s'.data.toList && sameL ts ts') := by rw [sameT]
theorem sames_len' : ∀ {a b : List Tm}, ¬ a.length = b.length → sameL a b = false
  | [], [], h => absurd rfl h
  | x :: r, y :: q, h => by
    rw [sameL, sames_len' (a := r) (b := q) (by simpa using h), Bool.and_false]
  | [], y :: q, _ => by simp [sameL]
  | x :: r, [], _ => by simp [sameL]
theorem sames_step' {a b : List Tm} {i : Nat} {x y : Tm} (hx : a[i]? = some x) (hy : b[i]? = some y) : sameL (a.drop i) (b.drop i) = (sameT x y && sameL (a.drop (i + 1)) (b.drop (i + 1))) := by
  obtain ⟨h1, rfl⟩ := List.getElem?_eq_some_iff.1 hx
  obtain ⟨h2, rfl⟩ := List.getElem?_eq_some_iff.1 hy
  rw [List.drop_eq_getElem_cons h1, List.drop_eq_getElem_cons h2, sameL]
set_option maxHeartbeats 4000000 in
set_option maxRecDepth 100000 in
theorem equal_at {w : World} {va vb : Value} {ts ts' : List Tm} (hu : Tms w va ts) (hu' : Tms w vb ts')
    (IH : Hid (∀ x ∈ ts, ∀ (y : Tm) (w : World) (va vb : Value), TmV w x va → TmV w y vb → Calls Tryz.prog 33 #[va, vb] w fun e w' => e = .returned (.bool (sameT x y)) ∧ Below w.heap.size w w')) :
    Calls Tryz.prog 49 #[va, vb, .func (.func 33) #[] #[]] w fun e w' => e = .returned (.bool (sameL ts ts')) ∧ Below w.heap.size w w' := by
  obtain ⟨a, c, rfl, h1, h2, h3⟩ := hu.len
  obtain ⟨a', c', rfl, h1', h2', h3'⟩ := hu'.len
  unfold BIG at h3 h3'
  obtain ⟨m, hm⟩ : ∃ m, ts.length = m := ⟨_, rfl⟩
  obtain ⟨m', hm'⟩ : ∃ m', ts'.length = m' := ⟨_, rfl⟩
  by_cases g : m = m'
  · subst g
    obtain ⟨r, hr⟩ : ∃ r, sameL ts ts' = r := ⟨_, rfl⟩
    rw [hr]
    have HR := Lib.hid hr
    have HU := Lib.hid hu
    have HU' := Lib.hid hu'
    have HM := Lib.hid hm
    have HM' := Lib.hid hm'
    rw [hm] at h1 h3 HU hu ⊢
    rw [hm'] at h1' h3' HU' hu' ⊢
    clear hr hm hm' hu hu'
    go_enter Tryz.func49, Tryz.ntmps49
    go_wp2_with fail
    go_loopw [17] (fun v wr => ∃ i : Nat, i ≤ m ∧ v = .int .i64 i ∧ Hid (sameL (ts.drop i) (ts'.drop i) = r) ∧ Hid (Below w.heap.size w wr)) (fun v _ => m - (intOf v).toNat)
    case atStart => exact ⟨0, Nat.zero_le _, rfl, Lib.hid (by rw [List.drop_zero, List.drop_zero]; exact HR.out), Lib.hid (Below.refl _ _)⟩
    case round =>
      obtain ⟨i, hi, rfl, HD, HB⟩ := hrel
      by_cases hil : i < m
      · obtain ⟨x, hx⟩ : ∃ x, ts[i]? = some x := ⟨_, List.getElem?_eq_getElem (by rw [HM.out]; exact hil)⟩
        obtain ⟨y, hy⟩ : ∃ y, ts'[i]? = some y := ⟨_, List.getElem?_eq_getElem (by rw [HM'.out]; exact hil)⟩
        have hd := HD.out
        rw [sames_step' hx hy] at hd
        obtain ⟨b, off, k1, n1, s1, u1, rfl, hbb, _, _, _, c0, c1, c2, c3, htu, ht⟩ := (HU.out.ext HB.out).get hx
        obtain ⟨b', off', k2, n2, s2, u2, rfl, hbb', _, _, _, d0, d1, d2, d3, htu', ht'⟩ := (HU'.out.ext HB.out).get hy
        obtain ⟨au, cu, rfl, _⟩ := htu.len
        obtain ⟨au', cu', rfl, _⟩ := htu'.len
        clear htu htu'
        have hw : Below wr.heap.size wr ((wr.alloc (box4 k1 n1 s1 (.slice au x.args.length cu) 31)).alloc (box4 k2 n2 s2 (.slice au' y.args.length cu') 31)) := (bel1' wr _).alloc (by simp) _
        have ih := IH.out x (List.mem_of_getElem? hx) y _ _ _ (TmV.ext hw _ _ ht) (TmV.ext hw _ _ ht')
        have HWW := Lib.hid hw
        clear HD ht ht' hx hy hw
        cases hq : sameT x y
        · rw [hq, Bool.false_and] at hd
          rw [hq] at ih
          subst hd
          clear hq HR
          (go_wp2_with fail; go_fit (ih); rintro e w2 ⟨rfl, b2⟩)
          have B2 := Lib.hid (Ext.trans' HB.out (Ext.trans' HWW.out b2))
          clear b2
          go_wp2
          go_ret
          exact ⟨rfl, B2.out⟩
        · rw [hq, Bool.true_and] at hd
          rw [hq] at ih
          have HD := Lib.hid hd
          clear hq hd
          (go_wp2_with fail; go_fit (ih); rintro e w2 ⟨rfl, b2⟩)
          have B2 := Lib.hid (Ext.trans' HB.out (Ext.trans' HWW.out b2))
          clear b2
          go_wp2
          go_roundw
          case rel => exact ⟨i + 1, by omega, by go_num, HD, B2⟩
          case measure => simp [intOf]; omega
      · have hd := HD.out
        rw [List.drop_eq_nil_of_le (by rw [HM.out]; omega), List.drop_eq_nil_of_le (by rw [HM'.out]; omega), sameL] at hd
        subst hd
        clear HR HD
        go_wp2
        go_ret
        exact ⟨rfl, HB.out⟩
  · rw [sames_len' (by rw [hm, hm']; exact g)]
    rw [hm] at h1 ⊢
    rw [hm'] at h1' ⊢
    have g' : ((m : Int) != m') = true := by simp; omega
    have gn : ¬ (m : Int) = m' := by omega
    clear hm hm' hu hu' IH h3 h3'
    go_enter Tryz.func49, Tryz.ntmps49
    go_wp2
    go_ret
    exact ⟨rfl, Below.refl _ _⟩
set_option maxHeartbeats 4000000 in
theorem same_at : ∀ (N : Nat) (x : Tm), sizeN x ≤ N → ∀ (y : Tm) (w : World) (va vb : Value), TmV w x va → TmV w y vb →
    Calls Tryz.prog 33 #[va, vb] w fun e w' => e = .returned (.bool (sameT x y)) ∧ Below w.heap.size w w'
  | 0, x, h, y, w, va, vb, hv, hv' => by have := size_pos x; omega
  | N + 1, .mk k n s ts, h, .mk k' n' s' ts', w, va, vb, hv, hv' => by
    obtain ⟨u, rfl, hs, hk, hn, hu⟩ := tmV_iff.1 hv
    obtain ⟨u', rfl, hs', hk', hn', hu'⟩ := tmV_iff.1 hv'
    obtain ⟨a, c, rfl, h1, h2, h3⟩ := hu.len
    obtain ⟨a', c', rfl, h1', h2', h3'⟩ := hu'.len
    unfold BIG at h3 h3' hs hs'
    have IH := Lib.hid (fun (x : Tm) (hx : x ∈ ts) => same_at N x (mem_size h hx))
    obtain ⟨m, hm⟩ : ∃ m, ts.length = m := ⟨_, rfl⟩
    obtain ⟨m', hm'⟩ : ∃ m', ts'.length = m' := ⟨_, rfl⟩
    have hmk := same_mk' k n k' n' s s' ts ts'
    have hw : Below w.heap.size w ((w.alloc (box4 k n s (.slice a ts.length c) 31)).alloc (box4 k' n' s' (.slice a' ts'.length c') 31)) := (bel1' w _).alloc (by simp) _
    have HW := Lib.hid hw
    by_cases g1 : k = k'
    · subst g1
      by_cases g2 : n = n'
      · subst g2
        by_cases g3 : s = s'
        · subst g3
          rw [hmk, beq_self_eq_true, beq_self_eq_true, beq_self_eq_true, Bool.true_and, Bool.true_and, Bool.true_and]
          have E := equal_at (hu.ext hw) (hu'.ext hw) IH
          generalize sameL ts ts' = r at E ⊢
          rw [hm] at HW E ⊢
          rw [hm'] at HW E ⊢
          clear hm hm' hv hv' hu hu' IH h hmk hw
          cases r
          · go_enter Tryz.func33, Tryz.ntmps33
            (go_wp2_with fail; go_fit (E); rintro e w2 ⟨rfl, b2⟩)
            have B2 := Lib.hid (Ext.trans' HW.out b2)
            clear b2
            go_wp2
            go_ret
            exact ⟨rfl, B2.out⟩
          · go_enter Tryz.func33, Tryz.ntmps33
            (go_wp2_with fail; go_fit (E); rintro e w2 ⟨rfl, b2⟩)
            have B2 := Lib.hid (Ext.trans' HW.out b2)
            clear b2
            go_wp2
            go_ret
            exact ⟨rfl, B2.out⟩
        · have hb : (s.data.toList == s'.data.toList) = false := beq_false_of_ne (fun e => g3 (bytes_eq e))
          have hr : sameT (.mk k n s ts) (.mk k n s' ts') = false := by rw [hmk, hb]; simp
          rw [hr]
          have g3' : (s.toList == s'.toList) = false := by rw [Lib.toList_data, Lib.toList_data]; exact hb
          have g3n : ¬ s.toList = s'.toList := by rw [Lib.toList_data, Lib.toList_data]; exact fun e => g3 (bytes_eq e)
          clear hr hmk hm hm' hv hv' hu hu' IH h hb hw
          go_enter Tryz.func33, Tryz.ntmps33
          go_wp2
          go_ret
          exact ⟨rfl, HW.out⟩
      · have hr : sameT (.mk k n s ts) (.mk k n' s' ts') = false := by rw [hmk, beq_false_of_ne g2]; simp
        rw [hr]
        have g2' : (n == n') = false := beq_false_of_ne g2
        clear hr hmk hm hm' hv hv' hu hu' IH h hw
        go_enter Tryz.func33, Tryz.ntmps33
        go_wp2
        go_ret
        exact ⟨rfl, HW.out⟩
    · have hr : sameT (.mk k n s ts) (.mk k' n' s' ts') = false := by rw [hmk, beq_false_of_ne g1]; simp
      rw [hr]
      have g1' : (k == k') = false := beq_false_of_ne g1
      clear hr hmk hm hm' hv hv' hu hu' IH h hw
      go_enter Tryz.func33, Tryz.ntmps33
      go_wp2
      go_ret
      exact ⟨rfl, HW.out⟩
set_option maxHeartbeats 4000000 in
theorem Same_at {x y : Tm} {w : World} {va vb : Value} (hv : TmV w x va) (hv' : TmV w y vb) : Calls Tryz.prog 12 #[va, vb] w fun e w' => e = .returned (.bool (goodT x && goodT y && sameT x y)) ∧ Below w.heap.size w w' := by
  have GX := fun w (h : TmV w x va) => Good_at x w va h
  have GY := fun w (h : TmV w y vb) => Good_at y w vb h
  have S := fun w (h : TmV w x va) (h' : TmV w y vb) => same_at _ x (Nat.le_refl _) y w va vb h h'
  generalize goodT x = p at GX ⊢
  generalize goodT y = q at GY ⊢
  generalize sameT x y = r at S ⊢
  obtain ⟨k, n, s, u, rfl⟩ := hv.four
  obtain ⟨k', n', s', u', rfl⟩ := hv'.four
  have hw : Below w.heap.size w ((w.alloc (box4 k n s u 31)).alloc (box4 k' n' s' u' 31)) := (bel1' w _).alloc (by simp) _
  have hv0 := TmV.ext hw _ _ hv
  have hv0' := TmV.ext hw _ _ hv'
  clear hv hv'
  have two : ∀ wr : World, Below ((w.alloc (box4 k n s u 31)).alloc (box4 k' n' s' u' 31)).heap.size ((w.alloc (box4 k n s u 31)).alloc (box4 k' n' s' u' 31)) wr →
      (wr.cell? ⟨w.heap.size, 0, none⟩ = some (.int .i64 k) ∧ wr.cell? ⟨w.heap.size, 1, none⟩ = some (.int .i64 n) ∧ wr.cell? ⟨w.heap.size, 2, none⟩ = some (.string s) ∧ wr.cell? ⟨w.heap.size, 3, none⟩ = some u) ∧
      wr.cell? ⟨w.heap.size + 1, 0, none⟩ = some (.int .i64 k') ∧ wr.cell? ⟨w.heap.size + 1, 1, none⟩ = some (.int .i64 n') ∧ wr.cell? ⟨w.heap.size + 1, 2, none⟩ = some (.string s') ∧ wr.cell? ⟨w.heap.size + 1, 3, none⟩ = some u' := fun wr hb =>
    ⟨⟨cell_later hb (by simp), cell_later hb (by simp), cell_later hb (by simp), cell_later hb (by simp)⟩, cell_later hb (by simp), cell_later hb (by simp), cell_later hb (by simp), cell_later hb (by simp)⟩
  have HTW := Lib.hid two
  have HWW := Lib.hid hw
  clear two hw
  cases p
  · rw [Bool.false_and, Bool.false_and]
    clear GY S
    go_enter Tryz.func12, Tryz.ntmps12
    (go_wp2_with fail; go_fit (GX _ hv0); rintro e w1 ⟨rfl, b1⟩)
    have B1 := Lib.hid (Ext.trans' HWW.out b1)
    clear b1
    go_wp2
    go_ret
    exact ⟨rfl, B1.out⟩
  rw [Bool.true_and]
  cases q
  · rw [Bool.false_and]
    clear S
    go_enter Tryz.func12, Tryz.ntmps12
    (go_wp2_with fail; go_fit (GX _ hv0); rintro e w1 ⟨rfl, b1⟩)
    obtain ⟨⟨c0, c1, c2, c3⟩, d0, d1, d2, d3⟩ := HTW.out _ b1
    (go_wp2_with fail; go_fit (GY _ (TmV.ext b1 _ _ hv0')); rintro e w2 ⟨rfl, b2⟩)
    have B2 := Lib.hid (Ext.trans' HWW.out (Ext.trans' b1 b2))
    clear b1 b2
    go_wp2
    go_ret
    exact ⟨rfl, B2.out⟩
  rw [Bool.true_and]
  cases r
  · go_enter Tryz.func12, Tryz.ntmps12
    (go_wp2_with fail; go_fit (GX _ hv0); rintro e w1 ⟨rfl, b1⟩)
    obtain ⟨⟨c0, c1, c2, c3⟩, d0, d1, d2, d3⟩ := HTW.out _ b1
    (go_wp2_with fail; go_fit (GY _ (TmV.ext b1 _ _ hv0')); rintro e w2 ⟨rfl, b2⟩)
    have b12 := Ext.trans' b1 b2
    obtain ⟨⟨c0, c1, c2, c3⟩, d0, d1, d2, d3⟩ := HTW.out _ b12
    (go_wp2_with fail; go_fit (S _ (TmV.ext b12 _ _ hv0) (TmV.ext b12 _ _ hv0')); rintro e w3 ⟨rfl, b3⟩)
    have B3 := Lib.hid (Ext.trans' HWW.out (Ext.trans' b12 b3))
    clear b1 b2 b12 b3
    go_wp2
    go_ret
    exact ⟨rfl, B3.out⟩
  · go_enter Tryz.func12, Tryz.ntmps12
    (go_wp2_with fail; go_fit (GX _ hv0); rintro e w1 ⟨rfl, b1⟩)
    obtain ⟨⟨c0, c1, c2, c3⟩, d0, d1, d2, d3⟩ := HTW.out _ b1
    (go_wp2_with fail; go_fit (GY _ (TmV.ext b1 _ _ hv0')); rintro e w2 ⟨rfl, b2⟩)
    have b12 := Ext.trans' b1 b2
    obtain ⟨⟨c0, c1, c2, c3⟩, d0, d1, d2, d3⟩ := HTW.out _ b12
    (go_wp2_with fail; go_fit (S _ (TmV.ext b12 _ _ hv0) (TmV.ext b12 _ _ hv0')); rintro e w3 ⟨rfl, b3⟩)
    have B3 := Lib.hid (Ext.trans' HWW.out (Ext.trans' b12 b3))
    clear b1 b2 b12 b3
    go_wp2
    go_ret
    exact ⟨rfl, B3.out⟩
end Go.Proofs.YtaojalicnnnkmaaGreatDoor
/- Worlds of which some blocks are not looked at: terms that read without them. Nothing here speaks of one program. -/
namespace Go.Proofs.YtaojalicnnnkmaaGreatDoor
open Go.RowKit
set_option linter.unusedVariables false

/-- The world without these blocks. -/
def hide (D : Nat → Bool) (w : World) : World := { w with heap := w.heap.mapIdx fun i o => if D i then Obj.deferred none else o }
theorem hide_size (D : Nat → Bool) (w : World) : (hide D w).heap.size = w.heap.size := by unfold hide; simp
theorem hide_get (D : Nat → Bool) (w : World) (k : Nat) (h : D k = false) : (hide D w).heap[k]? = w.heap[k]? := by
  unfold hide
  simp only [Array.getElem?_mapIdx]
  cases w.heap[k]? with
  | none => rfl
  | some o => simp [h]
theorem hide_gone (D : Nat → Bool) (w : World) (a : Addr) (h : D a.block = true) : (hide D w).cell? a = none := by
  unfold World.cell? hide
  simp only [Array.getElem?_mapIdx]
  cases w.heap[a.block]? with
  | none => rfl
  | some o => simp [h]
theorem hide_cell (D : Nat → Bool) (w : World) (a : Addr) (h : D a.block = false) : (hide D w).cell? a = w.cell? a := World.cell?_of_block (hide_get D w a.block h)
theorem hide_none (w : World) : hide (fun _ => false) w = w := by
  unfold hide
  have : (w.heap.mapIdx fun i o => if (fun _ => false) i = true then Obj.deferred none else o) = w.heap := by
    apply Array.ext
    · simp
    · intro i h1 h2; simp
  rw [this]
/-- Each cell that is there is there still. -/
def Stays (w w' : World) : Prop := w.heap.size ≤ w'.heap.size ∧ ∀ a v, w.cell? a = some v → w'.cell? a = some v
theorem Stays.trans {a b c : World} (h : Stays a b) (h' : Stays b c) : Stays a c := ⟨Nat.le_trans h.1 h'.1, fun x v hv => h'.2 x v (h.2 x v hv)⟩
theorem Stays.hide {D D' : Nat → Bool} {w w' : World} (hs : w.heap.size ≤ w'.heap.size) (hk : ∀ k, k < w.heap.size → D k = false → D' k = false ∧ w'.heap[k]? = w.heap[k]?) : Stays (hide D w) (hide D' w') := by
  refine ⟨by rw [hide_size, hide_size]; exact hs, fun a v hv => ?_⟩
  have hlt : a.block < w.heap.size := by
    have := World.block_lt_of_cell? _ _ hv
    rwa [hide_size] at this
  cases hd : D a.block with
  | true => rw [hide_gone D w a hd] at hv; cases hv
  | false =>
    obtain ⟨h1, h2⟩ := hk _ hlt hd
    rw [hide_cell D w a hd] at hv
    rw [hide_cell D' w' a h1, World.cell?_of_block h2]
    exact hv
theorem Stays.unhide (D : Nat → Bool) (w : World) : Stays (Go.Proofs.YtaojalicnnnkmaaGreatDoor.hide D w) w := by
  refine ⟨by rw [hide_size]; exact Nat.le_refl _, fun a v hv => ?_⟩
  cases hd : D a.block with
  | true => rw [hide_gone D w a hd] at hv; cases hv
  | false => rwa [hide_cell D w a hd] at hv
/-- Nothing old has turned; of the old blocks the same are hidden. -/
theorem Stays.below {D D' : Nat → Bool} {w w' : World} (hb : Below w.heap.size w w') (hD : ∀ k, k < w.heap.size → D k = false → D' k = false) : Stays (Go.Proofs.YtaojalicnnnkmaaGreatDoor.hide D w) (Go.Proofs.YtaojalicnnnkmaaGreatDoor.hide D' w') :=
  Stays.hide hb.size fun k hk hd => ⟨hD k hk hd, hb.block k hk⟩
theorem Stays.less {D D' : Nat → Bool} {w : World} (hD : ∀ k, D k = false → D' k = false) : Stays (Go.Proofs.YtaojalicnnnkmaaGreatDoor.hide D w) (Go.Proofs.YtaojalicnnnkmaaGreatDoor.hide D' w) :=
  Stays.hide (Nat.le_refl _) fun k _ hd => ⟨hD k hd, rfl⟩
theorem Stays.set {D : Nat → Bool} {w : World} (a : Addr) (v : Value) (h : D a.block = true) : Stays (Go.Proofs.YtaojalicnnnkmaaGreatDoor.hide D w) (Go.Proofs.YtaojalicnnnkmaaGreatDoor.hide D (w.setCell a v)) :=
  Stays.hide (by simp [World.setCell]) fun k _ hd => ⟨hd, Below.heap_setCell w a v k (fun e => by rw [e, h] at hd; cases hd)⟩
mutual
theorem TmV.stay {w w' : World} (hb : Stays w w') : ∀ (x : Tm) (v : Value), TmV w x v → TmV w' x v
  | .mk k n s ts, v, h => by
    rw [TmV] at h ⊢
    obtain ⟨a, c, h1, h2, h3, h4, h5, h6, h7, h8⟩ := h
    refine ⟨a, c, h1, h2, h3, h4, h5, h6, h7, ?_⟩
    rcases h8 with h8 | ⟨b, off, e1, e2, e3⟩
    · exact Or.inl h8
    · exact Or.inr ⟨b, off, e1, Nat.lt_of_lt_of_le e2 hb.1, TmRow.stay hb ts b off e3⟩
theorem TmRow.stay {w w' : World} (hb : Stays w w') : ∀ (l : List Tm) (b off : Nat), TmRow w l b off → TmRow w' l b off
  | [], b, off, _ => by rw [TmRow]; trivial
  | x :: r, b, off, h => by
    rw [TmRow] at h ⊢
    obtain ⟨⟨c0, c1, c2, c3, h0, h1, h2, h3, h4⟩, h5⟩ := h
    exact ⟨⟨c0, c1, c2, c3, hb.2 _ _ h0, hb.2 _ _ h1, hb.2 _ _ h2, hb.2 _ _ h3, TmV.stay hb x _ h4⟩, TmRow.stay hb r b (off + 4) h5⟩
end
theorem Tms.stay {w w' : World} {v : Value} {l : List Tm} (h : Tms w v l) (hb : Stays w w') : Tms w' v l := by
  obtain ⟨a, c, h1, h2, h3, h4, h5⟩ := h
  refine ⟨a, c, h1, h2, h3, h4, ?_⟩
  rcases h5 with h5 | ⟨b, off, e1, e2, e3⟩
  · exact Or.inl h5
  · exact Or.inr ⟨b, off, e1, Nat.lt_of_lt_of_le e2 hb.1, TmRow.stay hb l b off e3⟩
/-- A row of the call's own that is not hidden. -/
theorem RowP.hide {w : World} {base : Nat} {ty : TypeId} {v : Value} {ps : List TmP} {D : Nat → Bool} (h : RowP w base ty v ps) (hD : ∀ k, base ≤ k → (∃ cur, w.heap[k]? = some (.cells cur ty (0, 0))) → D k = false) : RowP (Go.Proofs.YtaojalicnnnkmaaGreatDoor.hide D w) base ty v ps := by
  obtain ⟨h1, h2⟩ := h
  refine ⟨h1, ?_⟩
  rcases h2 with h2 | ⟨g, cap, cur, hv, hg, hh, r⟩
  · exact Or.inl h2
  · exact Or.inr ⟨g, cap, cur, hv, hg, by rw [hide_get D w g (hD g hg ⟨_, hh⟩)]; exact hh, r⟩
def Old (D : Nat → Bool) (w : World) : Prop := ∀ k, w.heap.size ≤ k → D k = false
theorem Old.mono {D : Nat → Bool} {w w' : World} (h : Old D w) (hs : w.heap.size ≤ w'.heap.size) : Old D w' := fun k hk => h k (Nat.le_trans hs hk)
/-- What reads without the hidden blocks reads so later, if nothing old has turned. -/
theorem TmV.later {D : Nat → Bool} {w w' : World} (hb : Below w.heap.size w w') {x : Tm} {v : Value} (h : TmV (hide D w) x v) : TmV (hide D w') x v := TmV.stay (Stays.below hb fun _ _ h => h) x v h
theorem TmV.bare {D : Nat → Bool} {w : World} {x : Tm} {v : Value} (h : TmV (hide D w) x v) : TmV w x v := TmV.stay (Stays.unhide D w) x v h
end Go.Proofs.YtaojalicnnnkmaaGreatDoor
/- Package term: Comp, Items, of worlds of which some blocks are hidden. -/
namespace Go.Proofs.YtaojalicnnnkmaaGreatDoor
open Go.RowKit
set_option linter.unusedVariables false

theorem pairs_hide {D : Nat → Bool} {w : World} {a : Option Addr} {m c : Nat} {l : List Tm} (h : Tms (hide D w) (.slice a m c) l) : ∃ (ps : List TmP), ps.length = m ∧ m = l.length ∧ ps.map (·.1) = l ∧ (∀ p ∈ ps, TmV (hide D w) p.1 (pVal p)) ∧ m * 56 ≤ BIG ∧ (m = 0 ∨ ∃ ad, a = some ad ∧ ∀ j u, (ps.flatMap pCells)[j]? = some u → w.cell? (ad.add j) = some u) := by
  obtain ⟨ps, ao, c', e, hpl, hpm, hpa, hbig, hsrc⟩ := h.pairs
  cases e
  refine ⟨ps, hpl, rfl, hpm, hpa, hbig, ?_⟩
  rcases hsrc with h0 | ⟨ad, rfl, hc⟩
  · exact Or.inl h0
  · exact Or.inr ⟨ad, rfl, fun j u hu => (Stays.unhide D w).2 _ _ (hc j u hu)⟩
theorem comp_hide {D : Nat → Bool} {w : World} {v : Value} {l : List Tm} (s : ByteArray) (hs : s.size ≤ BIG) (hD : Old D w) (h : Tms (hide D w) v l) :
    Calls Tryz.prog 26 #[.string s, v] w fun e w' => ∃ a c, e = .returned (.agg #[.int .i64 2, .int .i64 0, .string s, .slice a l.length c]) ∧ TmV (hide D w') (.mk 2 0 s l) (.agg #[.int .i64 2, .int .i64 0, .string s, .slice a l.length c]) ∧ Below w.heap.size w w' := by
  obtain ⟨ao, c, rfl, _⟩ := h.len
  obtain ⟨ps, hpl, _, hpm, hpa, hbig, hsrc⟩ := pairs_hide h
  refine (comp_ps (c := c) ps s hpl hbig (pCells_one ps hpa) hsrc).mono ?_
  rintro e w' ⟨a, c', rfl, hR, hB⟩
  refine ⟨a, c', rfl, ?_, hB⟩
  have hT := (hR.hide (D := D) (fun k hk _ => hD k (by omega))).terms (fun p hp => TmV.later hB (hpa p hp)) (by rw [hpl]; exact hbig)
  rw [hpm] at hT
  exact tmV_iff.2 ⟨_, rfl, hs, i64_2, i64_0, hT⟩
end Go.Proofs.YtaojalicnnnkmaaGreatDoor
/- slices.Backward at terms: from the last item to the first. -/
namespace Go.Proofs.YtaojalicnnnkmaaGreatDoor
open Go.RowKit Go.Shelf
attribute [local go_sem] Oper.semAt_some
set_option linter.unusedVariables false

/-- What lies below n, and block b, are kept. -/
def Kq (n b : Nat) (A B : World) : Prop := A.heap.size ≤ B.heap.size ∧ ∀ k, (k < n ∨ k = b) → B.heap[k]? = A.heap[k]?
theorem Kq.refl (n b : Nat) (A : World) : Kq n b A A := ⟨Nat.le_refl _, fun _ _ => rfl⟩
theorem Kq.trans {n b : Nat} {A B C : World} (h : Kq n b A B) (k : Kq n b B C) : Kq n b A C := ⟨Nat.le_trans h.1 k.1, fun i hi => (k.2 i hi).trans (h.2 i hi)⟩
theorem Kq.cell {n b : Nat} {A B : World} (h : Kq n b A B) {p : Addr} (hp : p.block < n ∨ p.block = b) : B.cell? p = A.cell? p := World.cell?_of_block (h.2 p.block hp)
theorem Kq.put {n b : Nat} {w : World} (hn : n ≤ w.heap.size) (hb : b < w.heap.size) (W : World) (l : Nat) (o o' : Obj) (hl : w.heap.size ≤ l) (h : W.heap[l]? = some o) (_ : o.isCells = false) (_ : o.isWalk = false) : Kq n b W (W.putObj l o') := by
  have hlt := (Array.getElem?_eq_some_iff.1 h).1
  exact ⟨(grownBy_putObj' W l o').size, fun k hk => (grownBy_putObj' W l o').block k (by omega) (fun e => by cases e; omega)⟩
theorem Kq.below {n b : Nat} {A B : World} (h : Below A.heap.size A B) (hn : n ≤ A.heap.size) (hb : b < A.heap.size) : Kq n b A B := ⟨h.size, fun k hk => h.block k (by omega)⟩
/-- An item: a term, the value of its Args, in that world. -/
abbrev Item (D : Nat → Bool) (w : World) := { p : TmP // TmV (hide D w) p.1 (pVal p) }
/-- What a round is handed: the index, the item. -/
def back {D : Nat → Bool} {w : World} (xs : List (Item D w)) : List (Nat × Item D w) := xs.reverse.mapIdx fun j x => (xs.length - 1 - j, x)
theorem back_len {D : Nat → Bool} {w : World} (xs : List (Item D w)) : (back xs).length = xs.length := by simp [back]
theorem back_get {D : Nat → Bool} {w : World} {xs : List (Item D w)} {k : Nat} (hk : k < xs.length) : ∃ x : Item D w, xs[xs.length - 1 - k]? = some x ∧ (back xs)[k]? = some (xs.length - 1 - k, x) ∧ (back xs).take (k + 1) = (back xs).take k ++ [(xs.length - 1 - k, x)] := by
  have h1 : xs.length - 1 - k < xs.length := by omega
  have h2 : (back xs)[k]? = some (xs.length - 1 - k, xs[xs.length - 1 - k]) := by
    unfold back
    rw [List.getElem?_mapIdx, List.getElem?_reverse hk, List.getElem?_eq_getElem h1]
    rfl
  exact ⟨xs[xs.length - 1 - k], List.getElem?_eq_getElem h1, h2, by rw [List.take_add_one, h2]; rfl⟩
abbrev encB {D : Nat → Bool} {w : World} (x : Nat × Item D w) : Array Value := #[.int .i64 (x.1 : Int), .agg #[.int .i64 x.2.1.1.k, .int .i64 x.2.1.1.n, .string x.2.1.1.s, x.2.1.2]]
/-- The cells of these items lie there, from this address on. -/
def Rowed {D : Nat → Bool} {w : World} (W : World) (b off : Nat) (xs : List (Item D w)) : Prop := ∀ (i : Nat) (x : Item D w), xs[i]? = some x → ∀ j u, (pCells x.1)[j]? = some u → W.cell? ⟨b, off + i * 4 + j, none⟩ = some u
set_option maxRecDepth 100000 in
set_option maxHeartbeats 4000000 in
theorem back1_in {D : Nat → Bool} {w : World} (F : Fence) (n : Nat) (hf : F.fn 143) (hro : F.round = none) (hn : 1 ≤ n) (l Bs n₀ b off c m : Nat) (xs : List (Item D w)) (hm : xs.length = m) (hreach : m * 56 ≤ 140737488351232) (hb : b < n₀) (J Jx : List (Nat × Item D w) → World → Prop)
    (hY : ∀ pre x W, J pre W → pre.length < m → YieldAt F (n - 1) Tryz.prog l (encB x) W fun e W' =>
      (e = .returned (.bool true) ∧ J (pre ++ [x]) W' ∧ Kq n₀ Bs W W') ∨ (e = .returned (.bool false) ∧ Jx (pre ++ [x]) W'))
    (W : World) (hBs : W.cell? ⟨Bs, 0, none⟩ = some (.slice (some ⟨b, off, none⟩) m c)) (hmc : m ≤ c) (hcm : c ≤ maxLen) (hc : Rowed W b off xs) (h0 : J [] W) :
    CallsIn F n Tryz.prog 143 #[.func (.yield l) #[] #[], .pointer (some ⟨Bs, 0, none⟩)] W fun e W' => (∃ v, e = .returned v) ∧
      ((∃ ys, ys = back xs ∧ J ys W') ∨ (∃ pre, (∃ k, k ≤ m ∧ pre = (back xs).take k) ∧ Jx pre W')) := by
  refine callsIn_of_wp Tryz.func143 rfl hf ?_ hro
  simp only [Tryz.ntmps143, List.size_toArray, List.length_cons, List.length_nil, Nat.reduceAdd, Nat.reduceSub, Array.replicate_succ, Array.replicate_zero, List.push_toArray, List.append_toArray, List.nil_append, List.cons_append]
  have HM := Lib.hid hm
  have HC := Lib.hid hc
  clear hm hc
  gi_wp2
  gi_loopw [3] (fun i wr => ∃ (k : Nat) (z : Int), k ≤ m ∧ i = .int .i64 z ∧ z = (m : Int) - 1 - k ∧ J ((back xs).take k) wr ∧ Kq n₀ Bs W wr)
    (fun i _ => (intOf i + 1).toNat)
  case atStart => exact ⟨0, (m : Int) - 1, Nat.zero_le _, by go_num, by omega, by simpa using h0, Kq.refl _ _ _⟩
  case round =>
    obtain ⟨k, z, hk, rfl, hz, hJs, hnx⟩ := hrel
    have hbw : wr.cell? ⟨Bs, 0, none⟩ = some (.slice (some ⟨b, off, none⟩) m c) := (hnx.cell (p := ⟨Bs, 0, none⟩) (Or.inr rfl)).trans hBs
    by_cases hlt : k < m
    · obtain ⟨⟨⟨t, u⟩, htv⟩, hx1, hx2, hx3⟩ := back_get (xs := xs) (k := k) (by rw [HM.out]; exact hlt)
      rw [HM.out] at hx1 hx2 hx3
      obtain ⟨fn, tmps, assign, body, hy, hR⟩ := hY _ (m - 1 - k, ⟨(t, u), htv⟩) wr hJs (by rw [List.length_take, back_len, HM.out]; omega)
      (try dsimp only at hy)
      obtain ⟨i, hi⟩ : ∃ i, m - 1 - k = i := ⟨_, rfl⟩
      have hzi : z = i := by omega
      have him : i < m := by omega
      rw [hi] at hx1 hx2 hx3 hy hR
      have cc := fun j u' hu => (hnx.cell (p := ⟨b, off + i * 4 + j, none⟩) (Or.inl hb)).trans (HC.out i _ hx1 j u' hu)
      have c0 := cc 0 _ rfl
      have c1 := cc 1 _ rfl
      have c2 := cc 2 _ rfl
      have c3 := cc 3 _ rfl
      rw [Nat.add_zero] at c0
      clear cc
      subst hzi
      have HI := Lib.hid hi
      clear hz hi hx1 hx2
      have HX := Lib.hid hx3
      clear hx3
      gi_wp2
      refine hR.mono ?_
      rintro e W3 (⟨rfl, hJ3, hk3⟩ | ⟨rfl, hJx3⟩)
      · gi_wp2
        go_roundw
        case rel => exact ⟨k + 1, (i : Int) - 1, by omega, by go_num, by have := HI.out; omega, by rw [HX.out]; exact hJ3, hnx.trans hk3⟩
        case measure => simp [intOf] <;> omega
      · gi_wp2
        refine bodyPost_ret (results_none rfl _ _ _) rfl ?_
        exact ⟨⟨_, rfl⟩, .inr ⟨_, ⟨k + 1, by omega, HX.out.symm⟩, hJx3⟩⟩
    · have hzn : z < 0 := by omega
      have hkm : k = m := by omega
      have HJ := Lib.hid hJs
      subst hkm
      clear hz hJs hY
      gi_wp2
      go_end0
      have h := HJ.out
      rw [List.take_of_length_le (by rw [back_len, HM.out]; exact Nat.le_refl _)] at h
      exact ⟨⟨_, rfl⟩, .inl ⟨_, rfl, h⟩⟩
set_option maxRecDepth 100000 in
set_option maxHeartbeats 1000000 in
theorem back1_nil_in {D : Nat → Bool} {w : World} (F : Fence) (n : Nat) (hf : F.fn 143) (hro : F.round = none) (l Bs c : Nat) (ao : Option Addr) (J : List (Nat × Item D w) → World → Prop)
    (W : World) (hBs : W.cell? ⟨Bs, 0, none⟩ = some (.slice ao 0 c)) (h0 : J [] W) :
    CallsIn F n Tryz.prog 143 #[.func (.yield l) #[] #[], .pointer (some ⟨Bs, 0, none⟩)] W fun e W' => (∃ v, e = .returned v) ∧ J [] W' := by
  refine callsIn_of_wp Tryz.func143 rfl hf ?_ hro
  simp only [Tryz.ntmps143, List.size_toArray, List.length_cons, List.length_nil, Nat.reduceAdd, Nat.reduceSub, Array.replicate_succ, Array.replicate_zero, List.push_toArray, List.append_toArray, List.nil_append, List.cons_append]
  gi_wp2
  gi_loopw [3] (fun i wr => ∃ z : Int, i = .int .i64 z ∧ z = -1 ∧ J [] wr) (fun _ _ => 0)
  case atStart => exact ⟨-1, rfl, rfl, h0⟩
  case round =>
    obtain ⟨z, rfl, hz, hJs⟩ := hrel
    have hzn : z < 0 := by omega
    clear hz
    gi_wp2
    go_end0
    exact ⟨⟨_, rfl⟩, hJs⟩
set_option maxHeartbeats 1000000 in
theorem back_in (F : Fence) (n : Nat) (hf : F.fn 137) (hro : F.round = none) (a : Option Addr) (len cap : Nat) (w : World) :
    CallsIn F n Tryz.prog 137 #[.slice a len cap] w fun e w' => e = .returned (.func (.func 143) #[] #[.pointer (some ⟨w.heap.size, 0, none⟩)]) ∧ w' = w.alloc (.cells #[.slice a len cap] 29) := by
  refine callsIn_of_wp Tryz.func137 rfl hf ?_ hro
  simp only [Tryz.ntmps137, List.size_toArray, List.length_cons, List.length_nil, Nat.reduceAdd, Nat.reduceSub, Array.replicate_succ, Array.replicate_zero, List.push_toArray, List.append_toArray, List.nil_append, List.cons_append]
  gi_wp2
  go_ret
  exact ⟨rfl, rfl⟩
/-- These items are what the slice holds. -/
def HasItems {D : Nat → Bool} {w : World} (W : World) (ao : Option Addr) (m c : Nat) (xs : List (Item D w)) : Prop :=
  xs.length = m ∧ m ≤ c ∧ c ≤ maxLen ∧ m * 56 ≤ 140737488351232 ∧ (m = 0 ∨ ∃ b off, ao = some ⟨b, off, none⟩ ∧ b < w.heap.size ∧ Rowed W b off xs)
theorem items_of {D : Nat → Bool} {w : World} {v : Value} {l : List Tm} (h : Tms (hide D w) v l) : ∃ (ao : Option Addr) (c : Nat) (xs : List (Item D w)), v = .slice ao l.length c ∧ xs.map (fun x => x.1.1) = l ∧ HasItems w ao l.length c xs := by
  obtain ⟨a, c, h1, h2, h3, h4, h5⟩ := h
  unfold BIG at h4
  rcases h5 with rfl | ⟨b, off, rfl, hb, hr⟩
  · exact ⟨a, c, [], h1, rfl, rfl, h2, h3, h4, Or.inl rfl⟩
  · obtain ⟨ps, e1, e2, e3⟩ := hr.pairs
    have hlen : ps.length = l.length := by rw [← e1, List.length_map]
    refine ⟨_, c, ps.pmap (fun p hp => (⟨p, hp⟩ : Item D w)) e2, h1, ?_, ?_, h2, h3, h4, Or.inr ⟨b, off, rfl, by rwa [hide_size] at hb, fun i x hx j u hu => ?_⟩⟩
    · rw [List.map_pmap]
      simpa using e1
    · simp [hlen]
    · rw [List.getElem?_pmap] at hx
      simp only [Option.pmap_eq_some_iff] at hx
      obtain ⟨p, hp, hpi, rfl⟩ := hx
      have hj : j < 4 := (List.getElem?_eq_some_iff.1 hu).1
      have := e3 (i * 4 + j) u (by rw [flat_get pCells_len ps i p hpi j hj]; exact hu)
      rw [Nat.add_assoc]
      exact (Stays.unhide D w).2 _ _ this
theorem back_stops {D : Nat → Bool} {w : World} (F : Fence) (n : Nat) (hf : F.fn 143) (hro : F.round = none) (hn : 1 ≤ n) (Bs n₀ : Nat) (ao : Option Addr) (m c : Nat) (xs : List (Item D w)) (W0 : World) (hW0 : Below w.heap.size w W0) (hn₀ : w.heap.size ≤ n₀) (hBs : Bs < W0.heap.size)
    (hc : W0.cell? ⟨Bs, 0, none⟩ = some (.slice ao m c)) (hI : HasItems w ao m c xs) :
    SeqStopsK F n Tryz.prog 143 #[.pointer (some ⟨Bs, 0, none⟩)] (encB (D := D) (w := w)) (Kq n₀ Bs) (fun ys => ys = back xs)
      (fun pre => ∃ k, k ≤ m ∧ pre = (back xs).take k) m W0 := fun l J Jx W hW _ _ hY h0 => by
  have hc' := (hW.cell (p := ⟨Bs, 0, none⟩) (by show Bs < _; exact hBs)).trans hc
  obtain ⟨h1, h2, h3, h4, h5⟩ := hI
  by_cases hm0 : m = 0
  · subst hm0
    obtain rfl : xs = [] := List.length_eq_zero_iff.1 h1
    exact (back1_nil_in F n hf hro l Bs c ao J W hc' h0).mono fun e W' ⟨he, hj⟩ => ⟨he, .inl ⟨_, rfl, hj⟩⟩
  · obtain ⟨b, off, rfl, hb, hr⟩ := h5.resolve_left hm0
    refine back1_in F n hf hro hn l Bs n₀ b off c m xs h1 h4 (by omega) J Jx hY W hc' h2 h3 (fun i x hx j u hu => ?_) h0
    have hbw : Below w.heap.size w W := hW0.trans (hW.mono hW0.size)
    exact cell_later hbw (hr i x hx j u hu)
end Go.Proofs.YtaojalicnnnkmaaGreatDoor
/- Package term: List. -/
namespace Go.Proofs.YtaojalicnnnkmaaGreatDoor
open Go.RowKit Go.Shelf
attribute [local go_sem] Oper.semAt_some
set_option linter.unusedVariables false

theorem val_slice {w : World} {t : Tm} {u : Value} (h : TmV w t (pVal (t, u))) : ∃ a c, u = .slice a t.args.length c := by
  cases t with
  | mk k n s ts =>
    obtain ⟨u', hu', _, _, _, hq⟩ := tmV_iff.1 h
    simp only [pVal, Value.agg.injEq] at hu'
    have h2 := congrArg Array.toList hu'
    simp only [List.cons.injEq, and_true] at h2
    obtain ⟨a, c, e, _⟩ := hq.len
    exact ⟨a, c, by rw [h2.2.2.2, e]; rfl⟩
/-- The two boxes are hidden, too. -/
def hid2 (D : Nat → Bool) (B : Nat) : Nat → Bool := fun k => D k || k == B || k == B + 1
theorem plus_low {D : Nat → Bool} {B k : Nat} (hk : k < B) (h : D k = false) : hid2 D B k = false := by
  unfold hid2
  rw [h, beq_false_of_ne (by omega), beq_false_of_ne (by omega)]
  rfl
theorem plus_high {D : Nat → Bool} {B k : Nat} (h : D k = false) (hk : B + 2 ≤ k) : hid2 D B k = false := by
  unfold hid2
  rw [h, beq_false_of_ne (by omega), beq_false_of_ne (by omega)]
  rfl
theorem plus_ne {D : Nat → Bool} {B k : Nat} (h : hid2 D B k = false) : D k = false ∧ k ≠ B ∧ k ≠ B + 1 := by
  unfold hid2 at h
  simp only [Bool.or_eq_false_iff, beq_eq_false_iff_ne] at h
  exact ⟨h.1.1, h.1.2, h.2⟩
/-- Between two rounds: the list so far in its box. -/
structure ListAt (D : Nat → Bool) (w W : World) (T : Tm) (u : Value) : Prop where
  tm : TmV (hide (hid2 D w.heap.size) W) T (pVal (T, u))
  b0 : W.cell? ⟨w.heap.size, 0, none⟩ = some (.int .i64 T.k)
  b1 : W.cell? ⟨w.heap.size, 1, none⟩ = some (.int .i64 T.n)
  b2 : W.cell? ⟨w.heap.size, 2, none⟩ = some (.string T.s)
  b3 : W.cell? ⟨w.heap.size, 3, none⟩ = some u
  fz : ∀ j, W.frozen? ⟨w.heap.size, j, none⟩ = false
  fz1 : ∀ j, W.frozen? ⟨w.heap.size + 1, j, none⟩ = false
  r0 : W.cell? ⟨w.heap.size + 1, 0, none⟩ = some (.int .i64 0)
  r1 : W.cell? ⟨w.heap.size + 1, 1, none⟩ = some (.int .i64 0)
  r2 : W.cell? ⟨w.heap.size + 1, 2, none⟩ = some (.string ⟨#[]⟩)
  r3 : W.cell? ⟨w.heap.size + 1, 3, none⟩ = some (.slice none 0 0)
  bel : Below w.heap.size w W
  big : w.heap.size + 3 ≤ W.heap.size
theorem stays_kept {D : Nat → Bool} {A B : World} {row : Option Nat} (hg : A.grownBy B row) (hr : ∀ r, row = some r → ∃ o : Obj, A.heap[r]? = some o ∧ o.isCells = false) : Stays (hide D A) (hide D B) := by
  refine ⟨by rw [hide_size, hide_size]; exact hg.size, fun a v hv => ?_⟩
  cases hd : D a.block with
  | true => rw [hide_gone D A a hd] at hv; cases hv
  | false =>
    rw [hide_cell D A a hd] at hv
    rw [hide_cell D B a hd]
    exact cell_kept hv hg hr
theorem ListAt.kept {D : Nat → Bool} {w A B : World} {T : Tm} {u : Value} {row : Option Nat} {C : Nat} (h : ListAt D w A T u) (hC : w.heap.size ≤ C) (hg : A.grownBy B row) (hr : ∀ r, row = some r → C ≤ r ∧ ∃ o : Obj, A.heap[r]? = some o ∧ o.isCells = false) : ListAt D w B T u := by
  have hr' := fun r e => (hr r e).2
  have zf : ∀ {b j v}, A.cell? ⟨b, 0, none⟩ = some v → B.frozen? ⟨b, j, none⟩ = A.frozen? ⟨b, j, none⟩ := fun {b j v} hv => by
    obtain ⟨o, ho, hc⟩ := cells_of_cell hv
    exact World.frozen?_of_block (grownBy_keeps_cells hg hr' ho hc)
  exact { tm := TmV.stay (stays_kept hg hr') _ _ h.tm, b0 := cell_kept h.b0 hg hr', b1 := cell_kept h.b1 hg hr', b2 := cell_kept h.b2 hg hr', b3 := cell_kept h.b3 hg hr', fz := fun j => (zf h.b0).trans (h.fz j), fz1 := fun j => (zf h.r0).trans (h.fz1 j), r0 := cell_kept h.r0 hg hr', r1 := cell_kept h.r1 hg hr', r2 := cell_kept h.r2 hg hr', r3 := cell_kept h.r3 hg hr', bel := h.bel.grown hg (by have := h.bel.size; omega) (fun k e => by have := (hr k e).1; omega), big := Nat.le_trans h.big hg.size }
theorem ListAt.box {D : Nat → Bool} {w W w4 : World} {T : Tm} {u : Value} {o : Obj} (h : ListAt D w W T u) (hb : Below (W.alloc o).heap.size (W.alloc o) w4) :
    w4.cell? ⟨w.heap.size, 0, none⟩ = some (.int .i64 T.k) ∧ w4.cell? ⟨w.heap.size, 1, none⟩ = some (.int .i64 T.n) ∧ w4.cell? ⟨w.heap.size, 2, none⟩ = some (.string T.s) ∧ w4.cell? ⟨w.heap.size, 3, none⟩ = some u ∧ ∀ j, w4.frozen? ⟨w.heap.size, j, none⟩ = false := by
  have hbig := h.big
  have k0 := (Ext.trans' (bel1' W o) hb).block w.heap.size (by omega)
  exact ⟨(World.cell?_of_block (a := ⟨w.heap.size, 0, none⟩) k0).trans h.b0, (World.cell?_of_block (a := ⟨w.heap.size, 1, none⟩) k0).trans h.b1, (World.cell?_of_block (a := ⟨w.heap.size, 2, none⟩) k0).trans h.b2, (World.cell?_of_block (a := ⟨w.heap.size, 3, none⟩) k0).trans h.b3,
    fun j => by rw [World.frozen?_of_block k0]; exact h.fz j⟩
theorem set_kept {w4 : World} {B : Nat} (v0 v1 v2 v3 : Value) (k : Nat) (hk : k ≠ B) : (setFour w4 B v0 v1 v2 v3).heap[k]? = w4.heap[k]? := by
  unfold setFour
  rw [Below.heap_setCell _ _ _ _ hk, Below.heap_setCell _ _ _ _ hk, Below.heap_setCell _ _ _ _ hk, Below.heap_setCell _ _ _ _ hk]
theorem set_size (w4 : World) (B : Nat) (v0 v1 v2 v3 : Value) : (setFour w4 B v0 v1 v2 v3).heap.size = w4.heap.size := by
  unfold setFour
  simp [World.setCell]
/-- A round's making. -/
theorem ListAt.next {D : Nat → Bool} {w W w4 : World} {T t : Tm} {u ut : Value} {a : Option Addr} {c' : Nat} {o : Obj} (ho : Old D w) (h : ListAt D w W T u) (ht : TmV (hide D w) t (pVal (t, ut)))
    (hR : RowP w4 ((W.alloc o).heap.size + 1) 31 (.slice a 2 c') [(t, ut), (T, u)]) (hb : Below (W.alloc o).heap.size (W.alloc o) w4) :
    ListAt D w (setFour w4 w.heap.size (.int .i64 2) (.int .i64 0) (.string ⟨#[46]⟩) (.slice a 2 c')) (consT t T) (.slice a 2 c') ∧ KeepsOthers W (setFour w4 w.heap.size (.int .i64 2) (.int .i64 0) (.string ⟨#[46]⟩) (.slice a 2 c')) := by
  have hbig := h.big
  have hwW := h.bel
  have hW4 : Below W.heap.size W w4 := Ext.trans' (bel1' W o) hb
  have hw4 : Below w.heap.size w w4 := hwW.trans (hW4.mono hwW.size)
  have hF := four_below (.int .i64 2) (.int .i64 0) (.string ⟨#[46]⟩) (.slice a 2 c') hw4 (Nat.le_refl w.heap.size)
  have kb : ∀ k, k < W.heap.size → w4.heap[k]? = W.heap[k]? := fun k hk => hW4.block k hk
  have c0 := (World.cell?_of_block (a := ⟨w.heap.size, 0, none⟩) (kb w.heap.size (by omega))).trans h.b0
  have c1 := (World.cell?_of_block (a := ⟨w.heap.size, 1, none⟩) (kb w.heap.size (by omega))).trans h.b1
  have c2 := (World.cell?_of_block (a := ⟨w.heap.size, 2, none⟩) (kb w.heap.size (by omega))).trans h.b2
  have c3 := (World.cell?_of_block (a := ⟨w.heap.size, 3, none⟩) (kb w.heap.size (by omega))).trans h.b3
  obtain ⟨d0, d1, d2, d3⟩ := four_cells (.int .i64 2) (.int .i64 0) (.string ⟨#[46]⟩) (.slice a 2 c') c0 c1 c2 c3
  have far := fun j => four_far w4 w.heap.size (.int .i64 2) (.int .i64 0) (.string ⟨#[46]⟩) (.slice a 2 c') (w.heap.size + 1) j (by omega)
  have fr : ∀ b j, (setFour w4 w.heap.size (.int .i64 2) (.int .i64 0) (.string ⟨#[46]⟩) (.slice a 2 c')).frozen? ⟨b, j, none⟩ = w4.frozen? ⟨b, j, none⟩ := fun b j => by
    unfold setFour
    rw [World.frozen?_setCell, World.frozen?_setCell, World.frozen?_setCell, World.frozen?_setCell]
  have k1 := kb (w.heap.size + 1) (by omega)
  have fh : ∀ k, k ≠ w.heap.size → (setFour w4 w.heap.size (.int .i64 2) (.int .i64 0) (.string ⟨#[46]⟩) (.slice a 2 c')).heap[k]? = w4.heap[k]? := fun k hk => by
    unfold setFour
    rw [Below.heap_setCell _ _ _ _ hk, Below.heap_setCell _ _ _ _ hk, Below.heap_setCell _ _ _ _ hk, Below.heap_setCell _ _ _ _ hk]
  have hsz : (setFour w4 w.heap.size (.int .i64 2) (.int .i64 0) (.string ⟨#[46]⟩) (.slice a 2 c')).heap.size = w4.heap.size := by
    unfold setFour
    simp [World.setCell]
  refine ⟨{ tm := ?_, b0 := d0, b1 := d1, b2 := d2, b3 := d3, fz := fun j => by rw [fr, World.frozen?_of_block (kb w.heap.size (by omega))]; exact h.fz j, fz1 := fun j => by rw [fr, World.frozen?_of_block k1]; exact h.fz1 j, r0 := by rw [far, World.cell?_of_block k1]; exact h.r0, r1 := by rw [far, World.cell?_of_block k1]; exact h.r1, r2 := by rw [far, World.cell?_of_block k1]; exact h.r2, r3 := by rw [far, World.cell?_of_block k1]; exact h.r3, bel := hF, big := by rw [hsz]; have := hW4.size; omega }, ?_⟩
  · have hR2 : RowP (setFour w4 w.heap.size (.int .i64 2) (.int .i64 0) (.string ⟨#[46]⟩) (.slice a 2 c')) ((W.alloc o).heap.size + 1) 31 (.slice a 2 c') [(t, ut), (T, u)] := four_row _ _ _ _ hR (by simp; omega)
    have hT := (hR2.hide (D := hid2 D w.heap.size) (fun k hk _ => plus_high (ho k (by simp at hk; omega)) (by simp at hk; omega))).terms (fun p hp => by
      simp at hp
      rcases hp with rfl | rfl
      · exact TmV.stay (Stays.below hF fun k hk hd => plus_low hk hd) _ _ ht
      · refine TmV.stay (Stays.hide (by rw [hsz]; exact hW4.size) fun k hk hd => ⟨hd, ?_⟩) _ _ h.tm
        rw [fh k (plus_ne hd).2.1]
        exact kb k hk) (by unfold BIG; simp)
    exact tmV_iff.2 ⟨_, rfl, by unfold BIG; decide, i64_2, i64_0, hT⟩
  · refine ⟨by rw [hsz]; exact hW4.size, fun k o' hk ho' => ?_⟩
    have hne : k ≠ w.heap.size := fun e => by
      obtain ⟨o2, ho2, hc2⟩ := cells_of_cell h.b0
      rw [e] at hk
      have : o2 = o' := Option.some.inj (ho2.symm.trans hk)
      rw [this, ho'] at hc2
      cases hc2
    rw [fh k hne, kb k (Array.getElem?_eq_some_iff.1 hk).1]
    exact hk
end Go.Proofs.YtaojalicnnnkmaaGreatDoor
/- Package term: List, walked. -/
namespace Go.Proofs.YtaojalicnnnkmaaGreatDoor
open Go.RowKit Go.Shelf
attribute [local go_sem] Oper.semAt_some
set_option linter.unusedVariables false

theorem back_terms {D : Nat → Bool} {w : World} (xs : List (Item D w)) : (back xs).map (fun x => x.2.1.1) = (xs.map (fun x => x.1.1)).reverse := by
  unfold back
  rw [← List.map_reverse]
  apply List.ext_getElem?
  intro i
  rw [List.getElem?_map, List.getElem?_mapIdx, List.getElem?_map]
  cases xs.reverse[i]? <;> rfl
theorem list_rev {D : Nat → Bool} {w : World} (xs : List (Item D w)) : ((back xs).map (fun x => x.2.1.1)).reverse = xs.map (fun x => x.1.1) := by rw [back_terms, List.reverse_reverse]
set_option maxRecDepth 100000 in
set_option maxHeartbeats 8000000 in
theorem list_in {D : Nat → Bool} {w : World} {v : Value} {l : List Tm} {x : Tm} {vt : Value} (ho : Old D w) (hl : Tms (hide D w) v l) (hx : TmV (hide D w) x vt) :
    Calls Tryz.prog 130 #[v, vt] w fun e w' => ∃ r, e = .returned r ∧ TmV (hide D w') (listT l x) r ∧ Below w.heap.size w w' := by
  obtain ⟨ao, c, xs, rfl, hxs, hI⟩ := items_of hl
  obtain ⟨u, rfl⟩ := hx.pair
  obtain ⟨au, cu, rfl⟩ := val_slice hx.bare
  obtain ⟨m, hm⟩ : ∃ m, l.length = m := ⟨_, rfl⟩
  rw [hm] at hI ⊢
  have HXS := Lib.hid hxs
  clear hl hm hxs
  obtain ⟨kx, hkx⟩ : ∃ k, x.k = k := ⟨_, rfl⟩
  obtain ⟨nx, hnx⟩ : ∃ k, x.n = k := ⟨_, rfl⟩
  obtain ⟨sx, hsx⟩ : ∃ k, x.s = k := ⟨_, rfl⟩
  obtain ⟨mx, hmx⟩ : ∃ k, x.args.length = k := ⟨_, rfl⟩
  have hS : ∀ W, Below ((w.alloc (box4 kx nx sx (.slice au mx cu) 31)).alloc (box4 0 0 ⟨#[]⟩ (.slice none 0 0) 31)).heap.size ((w.alloc (box4 kx nx sx (.slice au mx cu) 31)).alloc (box4 0 0 ⟨#[]⟩ (.slice none 0 0) 31)) W → w.heap.size + 3 ≤ W.heap.size → ListAt D w W x (.slice au mx cu) := fun W hb hbig => by
    have hw : Below w.heap.size w W := Ext.trans' ((bel1' _ _).alloc (by simp) _) hb
    rw [hmx] at hx
    exact { tm := TmV.stay (Stays.below hw fun k hk hd => plus_low hk hd) _ _ hx, b0 := by rw [hkx]; exact cell_later hb (by simp), b1 := by rw [hnx]; exact cell_later hb (by simp), b2 := by rw [hsx]; exact cell_later hb (by simp), b3 := cell_later hb (by simp), fz := fun j => by rw [World.frozen?_of_block (hb.block w.heap.size (by simp <;> omega))]; simp, fz1 := fun j => by rw [World.frozen?_of_block (hb.block (w.heap.size + 1) (by simp <;> omega))]; simp, r0 := cell_later hb (by simp), r1 := cell_later hb (by simp), r2 := cell_later hb (by simp), r3 := cell_later hb (by simp), bel := hw, big := hbig }
  show Calls Tryz.prog 130 #[.slice ao m c, .agg #[.int .i64 x.k, .int .i64 x.n, .string x.s, .slice au x.args.length cu]] w _
  rw [hkx, hnx, hsx, hmx]
  have HS := Lib.hid hS
  have HO := Lib.hid ho
  have HI := Lib.hid hI
  clear hkx hnx hsx hmx hS ho hx hI
  refine (callsIn_wide (n := 6)).1 ?_
  refine callsIn_of_wp_marks Tryz.func130 rfl trivial ?_ rfl
  simp only [Tryz.ntmps130, List.size_toArray, List.length_cons, List.length_nil, Nat.reduceAdd, Nat.reduceSub, Array.replicate_succ, Array.replicate_zero, List.push_toArray, List.append_toArray, List.nil_append, List.cons_append]
  gi_wp2_with (refine ⟨trivial, ?_⟩; gi_at_call 137; refine (back_in Fence.wide (6 - 1) trivial rfl _ _ _ _).mono ?_; rintro e w' ⟨rfl, rfl⟩)
  have hsz : (((w.alloc (box4 kx nx sx (.slice au mx cu) 31)).alloc (box4 0 0 ⟨#[]⟩ (.slice none 0 0) 31)).alloc (.cells #[.slice ao m c] 29)).heap.size = w.heap.size + 3 := by simp
  have hbx : (((w.alloc (box4 kx nx sx (.slice au mx cu) 31)).alloc (box4 0 0 ⟨#[]⟩ (.slice none 0 0) 31)).alloc (.cells #[.slice ao m c] 29)).cell? ⟨w.heap.size + 2, 0, none⟩ = some (.slice ao m c) := by
    have h := cell_new ((w.alloc (box4 kx nx sx (.slice au mx cu) 31)).alloc (box4 0 0 ⟨#[]⟩ (.slice none 0 0) 31)) #[.slice ao m c] 29 0 (.slice ao m c) rfl
    rw [add_plain, show ((w.alloc (box4 kx nx sx (.slice au mx cu) 31)).alloc (box4 0 0 ⟨#[]⟩ (.slice none 0 0) 31)).heap.size = w.heap.size + 2 by simp] at h
    exact h
  have hst := HS.out _ (bel1' _ (.cells #[.slice ao m c] 29)) (by rw [hsz]; exact Nat.le_refl _)
  obtain ⟨W0, hW0⟩ : ∃ W0, ((w.alloc (box4 kx nx sx (.slice au mx cu) 31)).alloc (box4 0 0 ⟨#[]⟩ (.slice none 0 0) 31)).alloc (.cells #[.slice ao m c] 29) = W0 := ⟨_, rfl⟩
  unfold box4 at hW0
  unfold box4 at hsz hbx hst
  rw [hW0] at hsz hbx hst ⊢
  clear hW0 HS
  have HO2 := HO.out
  refine wpIn_rangeFunc_ownH rfl (by omega) (gf := 143) (lb := #[.pointer (some ⟨w.heap.size + 1 + 1, 0, none⟩)]) rfl trivial (enters_of Tryz.func143 (by kernel_rfl) rfl)
    (back_stops Fence.wide (6 - 1) trivial rfl (by omega) (w.heap.size + 1 + 1) w.heap.size ao m c xs W0 hst.bel (Nat.le_refl _) (by omega) hbx HI.out) Kq.trans (Kq.put (by omega) (by omega)) (Below.refl _ _) (fun _ => rfl)
    (fun pre W => ∃ T u, T = listT ((pre.map (fun x => x.2.1.1)).reverse) x ∧ ListAt D w W T u)
    (fun _ _ _ => False)
    (fun pre A B row ⟨T, u, h1, h2⟩ hg hr => ⟨T, u, h1, h2.kept (by omega) hg hr⟩)
    (fun _ _ _ _ _ hs _ _ => hs)
    ⟨x, _, rfl, hst⟩
    (fun y a' W => ∃ Bx, w.heap.size + 3 ≤ Bx ∧ (W.cell? ⟨Bx, 0, none⟩ = some (.int .i64 y.2.1.1.k) ∧ W.cell? ⟨Bx, 1, none⟩ = some (.int .i64 y.2.1.1.n) ∧ W.cell? ⟨Bx, 2, none⟩ = some (.string y.2.1.1.s) ∧ W.cell? ⟨Bx, 3, none⟩ = some y.2.1.2) ∧
      a' = { tmps := #[.slice ao m c, .agg #[.int .i64 kx, .int .i64 nx, .string sx, .slice au mx cu], undef, .pointer (some ⟨w.heap.size, 0, none⟩), .pointer (some ⟨w.heap.size + 1, 0, none⟩), undef, .pointer (some ⟨Bx, 0, none⟩), .slice ao m c, .func (.func 143) #[] #[.pointer (some ⟨w.heap.size + 1 + 1, 0, none⟩)], .int .i64 (y.1 : Int), .agg #[.int .i64 y.2.1.1.k, .int .i64 y.2.1.1.n, .string y.2.1.1.s, y.2.1.2], undef, undef, undef, undef, undef], defers := [] })
    (fun y a' _ A B row ⟨Bx, h0, h1, h2⟩ hg hr => ⟨Bx, h0, ⟨cell_kept h1.1 hg (fun r e => (hr r e).2), cell_kept h1.2.1 hg (fun r e => (hr r e).2), cell_kept h1.2.2.1 hg (fun r e => (hr r e).2), cell_kept h1.2.2.2 hg (fun r e => (hr r e).2)⟩, h2⟩)
    ?assign ?body ?done ?stop
  case assign =>
    rintro lp pre ⟨i, ⟨⟨t, ut⟩, htv⟩⟩ W K ⟨T, u, hT, hLA⟩ hK
    have htv2 : TmV w t (pVal (t, ut)) := htv.bare
    obtain ⟨at', ct', hut⟩ := val_slice htv2
    obtain ⟨mt, hmt⟩ : ∃ mt, t.args.length = mt := ⟨_, rfl⟩
    rw [hmt] at hut
    clear htv2 hmt
    subst hut
    have hb1 := hLA.bel
    have hb2 := hLA.big
    gi_wp2
    exact hK _ _ ((KeepsOthers.alloc _ _).from _) (Kq.below (bel1' W _) hb1.size (by omega)) ⟨T, u, hT, hLA.kept (C := w.heap.size) (Nat.le_refl _) (World.grownBy_alloc W _ none) (fun r e => by cases e)⟩ ⟨W.heap.size, hb2, ⟨by simp, by simp, by simp, by simp⟩, rfl⟩
  case body =>
    rintro lp pre ⟨i, ⟨⟨t, ut⟩, htv⟩⟩ a' W hlp ⟨r, hr⟩ ⟨T, u, hT, hLA⟩ ⟨Bx, hBx, ⟨f0, f1, f2, f3⟩, rfl⟩ hlt
    have htv2 : TmV W t (pVal (t, ut)) := TmV.ext hLA.bel _ _ htv.bare
    obtain ⟨at', ct', hut⟩ := val_slice htv2
    obtain ⟨aT, cT, huT⟩ := val_slice hLA.tm.bare
    have hone : ∀ v ∈ ([(t, ut), (T, u)] : List TmP).flatMap pCells, v.oneCell' = true := pCells_one _ (w := W) (fun p hp => by
      simp at hp
      rcases hp with rfl | rfl
      · exact htv2
      · exact hLA.tm.bare)
    obtain ⟨mt, hmt⟩ : ∃ mt, t.args.length = mt := ⟨_, rfl⟩
    obtain ⟨mT, hmT⟩ : ∃ mt, T.args.length = mt := ⟨_, rfl⟩
    rw [hmt] at hut
    rw [hmT] at huT
    have e0 := hLA.b0
    have e1 := hLA.b1
    have e2 := hLA.b2
    have e3 := hLA.b3
    have HTV : Hid (TmV (hide D w) t (pVal (t, ut))) := Lib.hid htv
    have HT := Lib.hid hT
    have HLA := Lib.hid hLA
    clear htv2 hmt hmT hT hLA
    subst hut huT
    have HC := fun (W1 : World) (ad : Addr) (hsrc : ∀ (j : Nat) (v : Value), (([(t, .slice at' mt ct'), (T, .slice aT mT cT)] : List TmP).flatMap pCells)[j]? = some v → W1.cell? (ad.add j) = some v) => comp_ps (w := W1) (ao := some ad) (m := 2) (c := 2) [(t, .slice at' mt ct'), (T, .slice aT mT cT)] ⟨#[46]⟩ rfl (by unfold BIG; omega) hone (Or.inr ⟨ad, rfl, hsrc⟩)
    gi_wp2_with (refine ⟨trivial, ?_⟩; gi_at_call 26; refine (CallsIn.inRound lp (callsIn_wide.2 (HC _ ⟨W.heap.size, 0, none⟩ (fun j v hv => cell_new _ _ _ j v hv)))).mono ?_; rintro e w4 ⟨a4, c4, rfl, hR, hB⟩; obtain ⟨g0, g1, g2, g3, gf⟩ := HLA.out.box hB)
    obtain ⟨hn1, hn2⟩ := HLA.out.next HO2 HTV.out hR hB
    have hbig := HLA.out.big
    refine ⟨hn2.from _, ?_, ⟨consT t T, .slice a4 2 c4, by rw [HT.out]; simp [listT], hn1⟩⟩
    show Kq w.heap.size (w.heap.size + 1 + 1) W (setFour w4 w.heap.size (.int .i64 2) (.int .i64 0) (.string ⟨#[46]⟩) (.slice a4 2 c4))
    have hWw := Ext.trans' (bel1' W _) hB
    exact ⟨by rw [set_size]; exact hWw.size, fun k hk => (set_kept _ _ _ _ k (by omega)).trans (hWw.block k (by omega))⟩
  case done =>
    rintro Dd ys W hD rfl ⟨T, u, hT, hLA⟩ hK
    obtain ⟨aT, cT, huT⟩ := val_slice hLA.tm.bare
    obtain ⟨mT, hmT⟩ : ∃ mT, T.args.length = mT := ⟨_, rfl⟩
    rw [hmT] at huT
    have e0 := hLA.b0
    have e1 := hLA.b1
    have e2 := hLA.b2
    have e3 := hLA.b3
    have q0 := hLA.r0
    have q1 := hLA.r1
    have q2 := hLA.r2
    have q3 := hLA.r3
    have qf := hLA.fz1
    have hT2 : T = listT l x := by rw [hT, list_rev, HXS.out]
    have HT := Lib.hid hT2
    have HLA := Lib.hid hLA
    clear hmT hT hT2 hLA
    subst huT
    gi_wp2
    have hK5 : (setFour W (w.heap.size + 1) (.int .i64 T.k) (.int .i64 T.n) (.string T.s) (.slice aT mT cT)).heap[Dd]? = some (.deferred (some [])) := (set_kept _ _ _ _ Dd (by omega)).trans hK
    obtain ⟨d0, d1, d2, d3⟩ := four_cells (.int .i64 T.k) (.int .i64 T.n) (.string T.s) (.slice aT mT cT) q0 q1 q2 q3
    have KP : ∀ {a v}, (setFour W (w.heap.size + 1) (.int .i64 T.k) (.int .i64 T.n) (.string T.s) (.slice aT mT cT)).cell? a = some v → ((setFour W (w.heap.size + 1) (.int .i64 T.k) (.int .i64 T.n) (.string T.s) (.slice aT mT cT)).putObj Dd (.deferred none)).cell? a = some v := fun h => cell_kept h (grownBy_putObj' _ Dd (.deferred none)) (fun r e => by cases e; exact ⟨_, hK5, rfl⟩)
    refine ⟨by simp, .inl ⟨_, _, rfl, run_takeDeferred hK5, ?_⟩⟩
    refine ⟨.agg #[.int .i64 T.k, .int .i64 T.n, .string T.s, .slice aT mT cT], ?_, _, rfl, ?_, ?_⟩
    · have p0 := KP d0
      have p1 := KP d1
      have p2 := KP d2
      have p3 := KP d3
      clear KP d0 d1 d2 d3 q0 q1 q2 q3 e0 e1 e2 e3 HXS HT
      obtain ⟨W6, hW6⟩ : ∃ W6, (setFour W (w.heap.size + 1) (.int .i64 T.k) (.int .i64 T.n) (.string T.s) (.slice aT mT cT)).putObj Dd (.deferred none) = W6 := ⟨_, rfl⟩
      rw [hW6] at p0 p1 p2 p3
      change (results Tryz.f130 _).run Tryz.prog ((setFour W (w.heap.size + 1) (.int .i64 T.k) (.int .i64 T.n) (.string T.s) (.slice aT mT cT)).putObj Dd (.deferred none)) = _
      rw [hW6, results_cell1 rfl]
      go_simp
      exact hW6.symm
    · rw [← HT.out]
      have hh := HLA.out.tm
      refine TmV.stay ⟨?_, fun a v hv => ?_⟩ _ _ hh
      · rw [hide_size, hide_size]
        have := (grownBy_putObj' (setFour W (w.heap.size + 1) (.int .i64 T.k) (.int .i64 T.n) (.string T.s) (.slice aT mT cT)) Dd (.deferred none)).size
        rw [set_size] at this
        exact this
      · cases hd : hid2 D w.heap.size a.block with
        | true => rw [hide_gone _ W a hd] at hv; cases hv
        | false =>
          rw [hide_cell _ W a hd] at hv
          rw [hide_cell _ _ a (plus_ne hd).1]
          exact KP ((World.cell?_of_block (set_kept _ _ _ _ a.block (plus_ne hd).2.2)).trans hv)
    · exact (four_below _ _ _ _ HLA.out.bel (by omega)).grown (grownBy_putObj' _ Dd (.deferred none)) (by rw [set_size]; have := HLA.out.big; omega) (fun k e => by cases e; omega)
  case stop =>
    rintro Dd cc pre W _ _ h _
    exact h.elim
end Go.Proofs.YtaojalicnnnkmaaGreatDoor
/- Letter by letter: a whole text; two texts with a line's end between; a quoted name. Nothing here is walked. -/
namespace Go.Proofs.YtaojalicnnnkmaaGreatDoor

def NextB.len : NextB → Nat
  | .skip k => k
  | .tok t => t.len
  | .bad _ => 0
theorem tok_len (kind : Nat) (text : List UInt8) (n k : Nat) (s : List UInt8) : (tokB kind text n k s).len = k := rfl
theorem name_len (k : Nat) (s : List UInt8) : (nameB k s).len ≤ k := by
  unfold nameB
  split
  · exact Nat.le_refl _
  · exact Nat.zero_le _
theorem quo_len : ∀ (n : Nat) (r : List UInt8), r.length ≤ n → ∀ p, quoB r = some p → p.2 ≤ r.length := fun n r hn p h => (quo_nl [] n r hn p h).2
theorem next_len (c : UInt8) (r : List UInt8) : (nextC c r).len ≤ r.length + 1 := by
  have hw := tw_le wordB r
  have hg := tw_le digitB r
  have hn := tw_le (fun x => x != 10) r
  have hsy : symRun (c :: r) ≤ r.length + 1 := sym_le (c :: r)
  unfold nextC
  by_cases h1 : blankB c = true
  · rw [if_pos h1]; exact Nat.le_add_left _ _
  rw [if_neg h1]
  by_cases h2 : (c == 37) = true
  · rw [if_pos h2]; exact Nat.succ_le_succ hn
  rw [if_neg h2]
  by_cases h3 : smallB c = true
  · rw [if_pos h3]; exact Nat.le_trans (name_len _ _) (by omega)
  rw [if_neg h3]
  by_cases h4 : greatB c = true
  · rw [if_pos h4, tok_len]; omega
  rw [if_neg h4]
  by_cases h5 : digitB c = true
  · rw [if_pos h5]
    split
    · rw [tok_len]; omega
    · exact Nat.zero_le _
  rw [if_neg h5]
  by_cases h6 : (c == 39) = true
  · rw [if_pos h6]
    cases hq : quoB r with
    | none => exact Nat.zero_le _
    | some p =>
      have := quo_len r.length r (Nat.le_refl _) p hq
      simp only
      split
      · rw [tok_len]; omega
      · exact Nat.zero_le _
  rw [if_neg h6]
  by_cases h7 : (c == 46 && endB r) = true
  · rw [if_pos h7, tok_len]; omega
  rw [if_neg h7]
  by_cases h8 : symB c = true
  · rw [if_pos h8]; exact Nat.le_trans (name_len _ _) hsy
  rw [if_neg h8]
  by_cases h9 : (c == 59 || c == 33) = true
  · rw [if_pos h9]; exact Nat.le_trans (name_len _ _) (by omega)
  rw [if_neg h9]
  by_cases h10 : ((c == 91 && r.head? == some 93) || (c == 123 && r.head? == some 125)) = true
  · rw [if_pos h10]
    refine Nat.le_trans (name_len _ _) ?_
    cases r with
    | nil => simp at h10
    | cons d r => simp
  rw [if_neg h10]
  by_cases h11 : [40, 41, 91, 93, 123, 125, 44, 124].contains c = true
  · rw [if_pos h11, tok_len]; omega
  rw [if_neg h11]
  exact Nat.zero_le _

/-- The tokens of a text, each with its first byte's place (the text begins at place p); nothing where one is refused. n: more than enough. -/
def lexL : Nat → Nat → List UInt8 → Option (List (TokB × Nat))
  | _, _, [] => some []
  | 0, _, _ :: _ => none
  | n + 1, p, c :: r =>
    match nextC c r with
    | .skip k => lexL n (p + k) ((c :: r).drop k)
    | .tok t => (lexL n (p + t.len) ((c :: r).drop t.len)).map fun l => (t, p) :: l
    | .bad _ => none
theorem lex_nil (n p : Nat) : lexL n p [] = some [] := by cases n <;> rfl
end Go.Proofs.YtaojalicnnnkmaaGreatDoor
