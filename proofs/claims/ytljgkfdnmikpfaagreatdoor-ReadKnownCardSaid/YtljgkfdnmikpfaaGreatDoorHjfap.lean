import Derived.Test.YtljgkfdnmikpfaaGreatDoorHjfao
import Derived.Test.YtljgkfdnmikpfaaGreatDoorHjfaa
import Derived.Test.YtljgkfdnmikpfaaGreatDoorHjfab
import Derived.Test.YtljgkfdnmikpfaaGreatDoorRows
import Derived.Deep.QuietTactic
set_option linter.unusedVariables false
set_option linter.unusedSimpArgs false
/- Terms: which the document's own calls good: all of it. -/
namespace Go.Proofs.YtljgkfdnmikpfaaGreatDoor
open Go.RowKit
set_option linter.unusedVariables false

set_option maxHeartbeats 4000000 in
set_option maxRecDepth 100000 in
theorem rformed_at : ∀ (N : Nat) (x : Tm), sizeN x ≤ N → ∀ (w : World) (v : Value), TmV w x v →
    Calls Tryz.prog 98 #[v] w fun e w' => e = .returned (.bool (formedT x)) ∧ Below w.heap.size w w'
  | 0, x, h, w, v, hv => by have := size_pos x; omega
  | N + 1, .mk k n s ts, h, w, v, hv => by
    obtain ⟨u, rfl, hs, hk, hn, hu⟩ := tmV_iff.1 hv
    obtain ⟨a, c, rfl, h1, h2, h3⟩ := hu.len
    unfold BIG at h3 hs
    obtain ⟨m, hm⟩ : ∃ m, ts.length = m := ⟨_, rfl⟩
    by_cases k0 : k = 0
    · subst k0
      have hp : plainT 0 n s.data.toList ts.length = (decide (0 ≤ n) && decide (n < 2147483648) && decide (s.size = 0) && decide (m = 0)) := by
        unfold plainT; rw [if_pos rfl, isEmpty_size, hm]
      by_cases g1 : 0 ≤ n
      · by_cases g2 : n < 2147483648
        · by_cases g3 : s.size = 0
          · have g3' := toList_empty g3
            by_cases g4 : m = 0
            · obtain rfl : ts = [] := List.length_eq_zero_iff.1 (by rw [hm, g4])
              rw [formed_leaf (by rw [List.length_nil] at hp; rw [hp]; simp [g1, g2, g3, g4])]
              rw [g4] at hm
              clear hp hv hu hm g3
              go_enter Tryz.func98, Tryz.ntmps98
              go_wp2
              go_ret
              exact ⟨rfl, bel1' _ _⟩
            · rw [formed_no (by rw [hp]; simp [g4])]
              have g4' : ((m : Int) == 0) = false := by apply beq_false_of_ne; omega
              rw [hm] at h1 h3 ⊢
              clear hp hv hu hm g3 h
              go_enter Tryz.func98, Tryz.ntmps98
              go_wp2
              go_ret
              exact ⟨rfl, bel1' _ _⟩
          · rw [formed_no (by rw [hp]; simp [g3])]
            have g3' := toList_some g3
            clear hp hv hu h
            go_enter Tryz.func98, Tryz.ntmps98
            go_wp2
            go_ret
            exact ⟨rfl, bel1' _ _⟩
        · rw [formed_no (by rw [hp]; simp [g2])]
          clear hp hv hu h
          go_enter Tryz.func98, Tryz.ntmps98
          go_wp2
          go_ret
          exact ⟨rfl, bel1' _ _⟩
      · rw [formed_no (by rw [hp]; simp [g1])]
        clear hp hv hu h
        go_enter Tryz.func98, Tryz.ntmps98
        go_wp2
        go_ret
        exact ⟨rfl, bel1' _ _⟩
    by_cases k1 : k = 1
    · subst k1
      have hp : plainT 1 n s.data.toList ts.length = (decide (s.size = 0) && decide (m = 0)) := by
        unfold plainT; rw [if_neg (by decide), if_pos rfl, isEmpty_size, hm]
      by_cases g3 : s.size = 0
      · have g3' := toList_empty g3
        by_cases g4 : m = 0
        · obtain rfl : ts = [] := List.length_eq_zero_iff.1 (by rw [hm, g4])
          rw [formed_leaf (by rw [List.length_nil] at hp; rw [hp]; simp [g3, g4])]
          clear hp hv hu hm g3
          go_enter Tryz.func98, Tryz.ntmps98
          go_wp2
          go_ret
          exact ⟨rfl, bel1' _ _⟩
        · rw [formed_no (by rw [hp]; simp [g4])]
          have g4' : ((m : Int) == 0) = false := by apply beq_false_of_ne; omega
          rw [hm] at h1 h3 ⊢
          clear hp hv hu hm g3 h
          go_enter Tryz.func98, Tryz.ntmps98
          go_wp2
          go_ret
          exact ⟨rfl, bel1' _ _⟩
      · rw [formed_no (by rw [hp]; simp [g3])]
        have g3' := toList_some g3
        clear hp hv hu h
        go_enter Tryz.func98, Tryz.ntmps98
        go_wp2
        go_ret
        exact ⟨rfl, bel1' _ _⟩
    have k0' : (k == 0) = false := beq_false_of_ne k0
    have k1' : (k == 1) = false := beq_false_of_ne k1
    by_cases k2 : k = 2
    · subst k2
      have hp : plainT 2 n s.data.toList ts.length = (decide (n = 0) && decide (s.size ≤ 64) && decide (m ≤ 8) && s.data.toList.all letterB) := by
        unfold plainT; rw [if_neg (by decide), if_neg (by decide), if_pos rfl, hm]; rfl
      by_cases g1 : n = 0
      · subst g1
        by_cases g2 : 64 < s.size
        · rw [formed_no (by rw [hp]; simp; omega)]
          clear hp hv hu h k0 k1 k0' k1'
          go_enter Tryz.func98, Tryz.ntmps98
          go_wp2
          go_ret
          exact ⟨rfl, bel1' _ _⟩
        · by_cases g3 : 8 < m
          · rw [formed_no (by rw [hp]; simp; omega)]
            rw [hm] at h1 h3 ⊢
            clear hp hv hu hm h k0 k1 k0' k1'
            go_enter Tryz.func98, Tryz.ntmps98
            go_wp2
            go_ret
            exact ⟨rfl, bel1' _ _⟩
          · have IH := Lib.hid (fun (y : Tm) (hy : y ∈ ts) => rformed_at N y (mem_size h hy))
            have HP := Lib.hid (show formedT (.mk 2 0 s ts) = (s.data.toList.all letterB && formedL ts) by
              rw [formed_mk, hp]
              have e1 : decide (s.size ≤ 64) = true := decide_eq_true (by omega)
              have e2 : decide (m ≤ 8) = true := decide_eq_true (by omega)
              rw [e1, e2]
              simp)
            rw [hm] at h1 h3 hu ⊢
            exact rformed_two hs h1 h2 h3 g2 g3 (Lib.hid hm) (Lib.hid hu) HP IH
      · rw [formed_no (by rw [hp]; simp [g1])]
        have g1' : (n == 0) = false := beq_false_of_ne g1
        clear hp hv hu h k0 k1 k0' k1'
        go_enter Tryz.func98, Tryz.ntmps98
        go_wp2
        go_ret
        exact ⟨rfl, bel1' _ _⟩
    · rw [formed_no (by unfold plainT; rw [if_neg k0, if_neg k1, if_neg k2])]
      have k2' : (k == 2) = false := beq_false_of_ne k2
      clear hv hu h k0 k1 k2
      go_enter Tryz.func98, Tryz.ntmps98
      go_wp2
      go_ret
      exact ⟨rfl, bel1' _ _⟩
theorem rgood_at (x : Tm) (w : World) (v : Value) (hv : TmV w x v) : Calls Tryz.prog 60 #[v] w fun e w' => e = .returned (.bool (goodT x)) ∧ Below w.heap.size w w' := by
  obtain ⟨k, n, s, ts, rfl⟩ : ∃ k n s ts, x = .mk k n s ts := by cases x; exact ⟨_, _, _, _, rfl⟩
  obtain ⟨u, rfl, _, _, _, _⟩ := tmV_iff.1 hv
  obtain ⟨x, hxe⟩ : ∃ x, Tm.mk k n s ts = x := ⟨_, rfl⟩
  rw [hxe] at hv ⊢
  clear hxe
  obtain ⟨v, hve⟩ : ∃ v, Value.agg #[.int .i64 k, .int .i64 n, .string s, u] = v := ⟨_, rfl⟩
  have S := fun w (h : TmV w x v) => rsize_at _ x (Nat.le_refl _) 2000 (by omega) w v h
  have D := fun w (h : TmV w x v) => rdepth_at 64 x (by omega) w v h
  have F := fun w (h : TmV w x v) => rformed_at _ x (Nat.le_refl _) w v h
  rw [← hve] at S D F
  subst hve
  have hg : goodT x = (decide (sizeN x ≤ 2000) && decide (depthN x ≤ 64) && formedT x) := rfl
  have HG := Lib.hid hg
  clear hg
  generalize formedT x = f at F HG
  obtain ⟨p, hp⟩ : ∃ p, min (sizeN x) (2000 + 1) = p := ⟨_, rfl⟩
  obtain ⟨q, hq⟩ : ∃ q, min (depthN x) (64 + 1) = q := ⟨_, rfl⟩
  rw [hp] at S
  rw [hq] at D
  have hP := Lib.hid (show (sizeN x ≤ 2000) ↔ p ≤ 2000 by omega)
  have hQ := Lib.hid (show (depthN x ≤ 64) ↔ q ≤ 64 by omega)
  clear hp hq
  by_cases h1 : p ≤ 2000
  · by_cases h2 : q ≤ 64
    · have hr : goodT x = f := by rw [HG.out, decide_eq_true (hP.out.2 h1), decide_eq_true (hQ.out.2 h2)]; rfl
      rw [hr]
      clear hr HG hP hQ
      go_enter Tryz.func60, Tryz.ntmps60
      have hv0 := TmV.ext (bel1' w (.cells #[.int .i64 k, .int .i64 n, .string s, u] 66)) _ _ hv
      (go_wp2_with fail; go_fit (S _ hv0); rintro e w1 ⟨rfl, b1⟩)
      obtain ⟨e0, e1, e2, e3⟩ := box_cells w 66 _ _ _ _ b1
      have hv1 := TmV.ext b1 _ _ hv0
      (go_wp2_with fail; go_fit (D _ hv1); rintro e w2 ⟨rfl, b2⟩)
      have e0 := cell_later b2 e0
      have e1 := cell_later b2 e1
      have e2 := cell_later b2 e2
      have e3 := cell_later b2 e3
      (go_wp2_with fail; go_fit (F _ (TmV.ext b2 _ _ hv1)); rintro e w3 ⟨rfl, b3⟩)
      have B3 := Lib.hid (Ext.trans' (bel1' w _) (Ext.trans' b1 (Ext.trans' b2 b3)))
      clear b1 b2 b3
      go_wp2
      go_ret
      exact ⟨rfl, B3.out⟩
    · have hr : goodT x = false := by rw [HG.out, decide_eq_false (fun h => h2 (hQ.out.1 h))]; simp
      rw [hr]
      clear hr HG hP hQ
      go_enter Tryz.func60, Tryz.ntmps60
      have hv0 := TmV.ext (bel1' w (.cells #[.int .i64 k, .int .i64 n, .string s, u] 66)) _ _ hv
      (go_wp2_with fail; go_fit (S _ hv0); rintro e w1 ⟨rfl, b1⟩)
      obtain ⟨e0, e1, e2, e3⟩ := box_cells w 66 _ _ _ _ b1
      have hv1 := TmV.ext b1 _ _ hv0
      (go_wp2_with fail; go_fit (D _ hv1); rintro e w2 ⟨rfl, b2⟩)
      have e0 := cell_later b2 e0
      have e1 := cell_later b2 e1
      have e2 := cell_later b2 e2
      have e3 := cell_later b2 e3
      have B3 := Lib.hid (Ext.trans' (bel1' w _) (Ext.trans' b1 b2))
      clear b1 b2
      go_wp2
      go_ret
      exact ⟨rfl, B3.out⟩
  · have hr : goodT x = false := by rw [HG.out, decide_eq_false (fun h => h1 (hP.out.1 h))]; rfl
    rw [hr]
    clear hr HG hP hQ
    go_enter Tryz.func60, Tryz.ntmps60
    have hv0 := TmV.ext (bel1' w (.cells #[.int .i64 k, .int .i64 n, .string s, u] 66)) _ _ hv
    (go_wp2_with fail; go_fit (S _ hv0); rintro e w1 ⟨rfl, b1⟩)
    obtain ⟨e0, e1, e2, e3⟩ := box_cells w 66 _ _ _ _ b1
    have B3 := Lib.hid (Ext.trans' (bel1' w _) b1)
    clear b1
    go_wp2
    go_ret
    exact ⟨rfl, B3.out⟩
end Go.Proofs.YtljgkfdnmikpfaaGreatDoor
/- Rows of numbers; a term's variables' numbers, one behind the other. -/
namespace Go.Proofs.YtljgkfdnmikpfaaGreatDoor
open Go.RowKit
set_option linter.unusedVariables false

/-- A row of numbers of 64 bits. -/
def Nums (w : World) (v : Value) (l : List Int) : Prop := Elems 1 (fun n => [Value.int .i64 n]) w v l
theorem Nums.ext {w w' : World} {v : Value} {l : List Int} (h : Nums w v l) (hb : Below w.heap.size w w') : Nums w' v l := Elems.ext h hb
theorem Nums.nil (w : World) : Nums w (.slice none 0 0) [] := ⟨none, 0, rfl, Nat.le_refl _, Nat.zero_le _, Or.inl rfl⟩
theorem Nums.get {w : World} {a : Option Addr} {m c : Nat} {l : List Int} (h : Nums w (.slice a m c) l) {i : Nat} {x : Int} (hx : l[i]? = some x) : ∃ b off, a = some ⟨b, off, none⟩ ∧ b < w.heap.size ∧ w.cell? ⟨b, off + i, none⟩ = some (.int .i64 x) := by
  obtain ⟨a', c', e, h1, h2, h3⟩ := h
  cases e
  rcases h3 with rfl | ⟨b, off, rfl, hb, hc⟩
  · simp at hx
  · exact ⟨b, off, rfl, hb, by have := hc i x hx 0 _ rfl; simpa using this⟩
theorem Nums.len {w : World} {v : Value} {l : List Int} (h : Nums w v l) : ∃ a c, v = .slice a l.length c ∧ l.length ≤ c ∧ c ≤ maxLen := by
  obtain ⟨a, c, h1, h2, h3, _⟩ := h
  exact ⟨a, c, h1, h2, h3⟩
abbrev numCells (n : Int) : List Value := [Value.int .i64 n]
/-- A row of numbers of the call's own. -/
def RowN (w : World) (base : Nat) (v : Value) (l : List Int) : Prop := w.ownsRow base 2 1 v l.length (l.flatMap numCells)
theorem RowN.nums {w : World} {base : Nat} {v : Value} {l : List Int} (h : RowN w base v l) : Nums w v l := Elems.owned (cells := numCells) (fun _ => rfl) h
theorem RowN.nil (w : World) (base : Nat) : RowN w base (.slice none 0 0) [] := World.ownsRow_nil _ _ _ _
mutual
theorem vars_len : ∀ (t : Tm) (l : List Int), (varsT t l).length ≤ l.length + sizeN t ∧ l.length ≤ (varsT t l).length
  | .mk k n s ts, l => by
    rw [varsT, sizeN]
    by_cases hk : k = 0
    · rw [if_pos hk]
      split
      · omega
      · rw [List.length_append, List.length_singleton]; omega
    · rw [if_neg hk]
      have := varss_len ts l
      omega
theorem varss_len : ∀ (ts : List Tm) (l : List Int), (varsL ts l).length ≤ l.length + sizesN ts ∧ l.length ≤ (varsL ts l).length
  | [], l => by rw [varsL, sizesN]; omega
  | x :: r, l => by
    rw [varsL, sizesN]
    have h1 := vars_len x l
    have h2 := varss_len r (varsT x l)
    omega
end
theorem varss_step {ts : List Tm} {i : Nat} {y : Tm} (h : ts[i]? = some y) (l : List Int) : varsL (ts.take (i + 1)) l = varsT y (varsL (ts.take i) l) := by
  induction ts generalizing i l with
  | nil => simp at h
  | cons x r ih =>
    cases i with
    | zero => simp at h; subst h; simp [varsL]
    | succ i =>
      simp only [List.take_succ_cons, varsL]
      exact ih (by simpa using h) _
/-- Of what was there nothing has turned but one block. -/
def Kept (w w' : World) (row : Option Nat) : Prop := w.heap.size ≤ w'.heap.size ∧ ∀ k, k < w.heap.size → row ≠ some k → w'.heap[k]? = w.heap[k]?
theorem Kept.of {w w' : World} (h : Below w.heap.size w w') (row : Option Nat) : Kept w w' row := ⟨h.size, fun k hk _ => h.block k hk⟩
theorem Kept.cell {w w' : World} {row : Option Nat} (h : Kept w w' row) {b j : Nat} {u : Value} (hne : row ≠ some b) (hc : w.cell? ⟨b, j, none⟩ = some u) : w'.cell? ⟨b, j, none⟩ = some u := by
  have hb : b < w.heap.size := World.block_lt_of_cell? _ _ hc
  rw [World.cell?_of_block (w := w) (h.2 b hb hne)]
  exact hc
theorem Kept.trans {w w1 w2 : World} {r1 r2 : Option Nat} (h1 : Kept w w1 r1) (h2 : Kept w1 w2 r2) (hr : r2 = r1 ∨ ∀ k, r2 = some k → w.heap.size ≤ k) : Kept w w2 r1 :=
  ⟨Nat.le_trans h1.1 h2.1, fun k hk hne => by
    rw [h2.2 k (Nat.lt_of_lt_of_le hk h1.1) (fun e => by
      rcases hr with hr | hr
      · exact hne (by rw [← hr]; exact e)
      · have := hr k e; omega), h1.2 k hk hne]⟩
theorem infoI64 : (Tryz.prog.info? 2).map (fun i => (i.zero, i.size, i.bytes)) = some (some (.int .i64 0), 1, 8) := by kernel_rfl
end Go.Proofs.YtljgkfdnmikpfaaGreatDoor
/- Terms: the document's Vars. -/
namespace Go.Proofs.YtljgkfdnmikpfaaGreatDoor
open Go.RowKit
set_option linter.unusedVariables false

set_option maxHeartbeats 4000000 in
/-- A variable: its number, if it is not there yet. -/
theorem rvars_var {W w : World} {k n : Int} {s : ByteArray} {u lv : Value} {l : List Int} (hk : k = 0) (hb : Below W.heap.size W w) (hr : RowN w W.heap.size lv l) (hl : l.length ≤ 1000000) :
    Calls Tryz.prog 99 #[.agg #[.int .i64 k, .int .i64 n, .string s, u], lv] w fun e w' => ∃ r, e = .returned r ∧ RowN w' W.heap.size r (if l.contains n then l else l ++ [n]) ∧ Below W.heap.size W w' ∧ Kept w w' lv.ownBlock ∧ (r.ownBlock = lv.ownBlock ∨ ∀ k, r.ownBlock = some k → w.heap.size ≤ k) := by
  subst hk
  obtain ⟨a, c, rfl, h1⟩ := row_formk hr
  obtain ⟨m, hm⟩ : ∃ m, l.length = m := ⟨_, rfl⟩
  obtain ⟨R, hR⟩ : ∃ R, (if l.contains n then l else l ++ [n]) = R := ⟨_, rfl⟩
  rw [hR]
  have HR := Lib.hid hR
  have HROW := Lib.hid hr
  have HM := Lib.hid hm
  rw [hm] at h1 hl hr HROW ⊢
  have HBW := Lib.hid hb
  have hWs : W.heap.size ≤ w.heap.size := hb.size
  obtain ⟨i0, hi0, hz0, hs0, hb0⟩ := info_parts infoI64
  clear hr hm hR hb
  go_enter Tryz.func99, Tryz.ntmps99
  go_wp2_with fail
  go_loopw [5] (fun v wr => ∃ i : Nat, i ≤ m ∧ v = .int .i64 i ∧ Hid (¬ n ∈ l.take i) ∧ Hid (Below (w.alloc (box4 0 n s u 66)).heap.size (w.alloc (box4 0 n s u 66)) wr)) (fun v _ => m - (intOf v).toNat)
  case atStart => exact ⟨0, Nat.zero_le _, rfl, Lib.hid (by simp), Lib.hid (Below.refl _ _)⟩
  case round =>
    obtain ⟨i, hi, rfl, HT, HB⟩ := hrel
    obtain ⟨e0, e1, e2, e3⟩ := box_cells w 66 _ _ _ _ HB.out
    have HBB := Lib.hid (Ext.trans' (bel1' w _) HB.out)
    by_cases hil : i < m
    · obtain ⟨x, hx⟩ : ∃ x, l[i]? = some x := ⟨_, List.getElem?_eq_getElem (by rw [HM.out]; exact hil)⟩
      have hnums : Nums w (.slice a m c) l := by have := HROW.out.nums; exact this
      obtain ⟨b, off, rfl, _, c0⟩ := (hnums.ext HBB.out).get hx
      by_cases hxn : x = n
      · subst hxn
        have hrl : R = l := by rw [← HR.out, if_pos (by simpa using List.mem_of_getElem? hx)]
        subst hrl
        clear hx HT HR hnums
        go_wp2_with fail
        go_quiet (fail)
        go_wp2
        go_ret
        exact ⟨_, rfl, row_ext HROW.out (bel_drewN HBB.out _), bel_drewN (Ext.trans' HBW.out HBB.out) _, Kept.of (bel_drewN HBB.out _) _, Or.inl rfl⟩
      · have HT2 : Hid (¬ n ∈ l.take (i + 1)) := Lib.hid (by
          rw [List.take_add_one, hx]
          intro hmem
          rcases List.mem_append.1 hmem with hh | hh
          · exact HT.out hh
          · simp at hh
            exact hxn hh.symm)
        have hxn' : (x == n) = false := beq_false_of_ne hxn
        clear hx HT hnums
        go_wp2_with fail
        go_quiet (fail)
        go_wp2
        go_roundw
        case rel => exact ⟨i + 1, by omega, by go_num, HT2, Lib.hid (bel_drewN HB.out _)⟩
        case measure => simp [intOf]; omega
    · have hrl : R = l ++ [n] := by
        rw [← HR.out, if_neg]
        have := HT.out
        rw [List.take_of_length_le (by rw [HM.out]; omega)] at this
        simpa using this
      subst hrl
      have HROW2 : Hid (wr.ownsRow W.heap.size 2 1 (.slice a m c) m (l.flatMap numCells)) := Lib.hid (by have := row_ext HROW.out HBB.out; rw [HM.out] at this; exact this)
      have hsz : W.heap.size ≤ wr.heap.size := Nat.le_trans hWs HBB.out.size
      clear HR HT
      go_wp2_with (at_builtin; refine wpList_append_k rfl _ _ 43 rfl W.heap.size 2 i0 (.int .i64 0) 1 8 Tryz.underlying43 hi0 hz0 hs0 (by decide) hb0 rfl (.slice a m c) m (l.flatMap numCells) rfl (HROW2.out.alloc _) _ 1 1 [.int .i64 n] rfl rfl (Or.inr ⟨_, rfl, fun j u hu => cell_new _ _ _ j u hu⟩) (fun u hu => by simp at hu; subst hu; rfl) (by unfold maxLen; omega) (by omega) (by simp; omega) (m + 1) ((l ++ [n]).flatMap numCells) rfl (by rw [List.flatMap_append]; rfl) ?_; intro a4 c4 w4 hown4 hgrow4 hat4)
      go_ret
      refine ⟨_, rfl, ?_, ((Ext.trans' HBW.out HBB.out).alloc hsz _).grown hgrow4 (by simp; omega) (fun q hq => (HROW2.out.lt q hq).1), Kept.trans (Kept.of (HBB.out.alloc HBB.out.size _) _) ⟨hgrow4.size, fun k hk hne => hgrow4.block k hk (Ne.symm hne)⟩ (Or.inl rfl), ?_⟩
      rotate_left
      · rcases hat4 with h | h
        · exact Or.inl h
        · refine Or.inr (fun k hk => ?_)
          have hk' : (Value.slice a4 (m + 1) c4).ownBlock = some k := hk
          rw [h] at hk'
          cases hk'
          have := HBB.out.size
          simp
          omega
      unfold RowN
      rw [List.length_append, HM.out]
      exact hown4
end Go.Proofs.YtljgkfdnmikpfaaGreatDoor
/- Terms: the document's Vars: all of it. -/
namespace Go.Proofs.YtljgkfdnmikpfaaGreatDoor
open Go.RowKit
set_option linter.unusedVariables false

set_option maxHeartbeats 4000000 in
set_option maxRecDepth 100000 in
theorem rvars_at : ∀ (N : Nat) (x : Tm), sizeN x ≤ N → ∀ (W w : World) (v lv : Value) (l : List Int), TmV W x v → Below W.heap.size W w → RowN w W.heap.size lv l → l.length + sizeN x ≤ 1000000 →
    Calls Tryz.prog 99 #[v, lv] w fun e w' => ∃ r, e = .returned r ∧ RowN w' W.heap.size r (varsT x l) ∧ Below W.heap.size W w' ∧ Kept w w' lv.ownBlock ∧ (r.ownBlock = lv.ownBlock ∨ ∀ k, r.ownBlock = some k → w.heap.size ≤ k)
  | 0, x, h, W, w, v, lv, l, hv, hb, hr, hl => by have := size_pos x; omega
  | N + 1, .mk k n s ts, h, W, w, v, lv, l, hv, hb, hr, hl => by
    obtain ⟨u, rfl, hs, hki, hni, hu⟩ := tmV_iff.1 hv
    by_cases hk : k = 0
    · have e : varsT (.mk k n s ts) l = if l.contains n then l else l ++ [n] := by rw [varsT, if_pos hk]
      rw [e]
      exact rvars_var hk hb hr (by omega)
    have e : varsT (.mk k n s ts) l = varsL ts l := by rw [varsT, if_neg hk]
    rw [e]
    have hk' : (k == 0) = false := beq_false_of_ne hk
    obtain ⟨a, c, rfl, h1, h2, h3⟩ := hu.len
    unfold BIG at h3
    obtain ⟨m, hm⟩ : ∃ m, ts.length = m := ⟨_, rfl⟩
    have IH := Lib.hid (fun (y : Tm) (hy : y ∈ ts) => rvars_at N y (mem_size h hy) W)
    have HL := Lib.hid (show l.length + sizesN ts ≤ 1000000 by rw [sizeN] at hl; omega)
    have HU := Lib.hid hu
    have HM := Lib.hid hm
    rw [hm] at h1 h3 hu HU ⊢
    have HBW := Lib.hid hb
    have HROW := Lib.hid hr
    obtain ⟨R, hR⟩ : ∃ R, varsL ts l = R := ⟨_, rfl⟩
    rw [hR]
    have HR := Lib.hid hR
    clear e hk hv hb hr hl hu hm hR h
    go_enter Tryz.func99, Tryz.ntmps99
    go_wp2_with fail
    go_loopw [1, 6] (fun z v wr => ∃ i : Nat, i ≤ m ∧ v = .int .i64 i ∧ Hid (RowN wr W.heap.size z (varsL (ts.take i) l)) ∧ Hid (Below W.heap.size W wr) ∧ Hid (wr.cell? ⟨w.heap.size, 3, none⟩ = some (.slice a m c)) ∧ w.heap.size < wr.heap.size ∧ Hid (z.ownBlock ≠ some w.heap.size) ∧ Hid (Kept w wr lv.ownBlock) ∧ Hid (z.ownBlock = lv.ownBlock ∨ ∀ k, z.ownBlock = some k → w.heap.size ≤ k)) (fun _ v _ => m - (intOf v).toNat)
    case atStart => exact ⟨0, Nat.zero_le _, rfl, Lib.hid (by rw [List.take_zero, varsL]; exact row_ext HROW.out (bel1' _ _)), Lib.hid (Ext.trans' HBW.out (bel1' _ _)), Lib.hid (by simp), by simp, Lib.hid (fun e => by have := (HROW.out.lt _ e).2; omega), Lib.hid (Kept.of (bel1' _ _) _), Lib.hid (Or.inl rfl)⟩
    case round =>
      obtain ⟨i, hi, rfl, HZ, HB, HC, hlt, HNE, HK, HO⟩ := hrel
      have e3 := HC.out
      by_cases hil : i < m
      · obtain ⟨y, hy⟩ : ∃ y, ts[i]? = some y := ⟨_, List.getElem?_eq_getElem (by rw [HM.out]; exact hil)⟩
        obtain ⟨b, off, k1, n1, s1, u1, rfl, hbb, _, _, _, c0, c1, c2, c3, _, ht⟩ := HU.out.get hy
        have d0 := cell_later HB.out c0
        have d1 := cell_later HB.out c1
        have d2 := cell_later HB.out c2
        have d3 := cell_later HB.out c3
        have hz := sizes_drop hy
        have hz2 := sizes_take ts (i + 1)
        have hvl := (varss_len (ts.take i) l).1
        have ih := IH.out y (List.mem_of_getElem? hy) wr _ _ _ ht HB.out HZ.out (by have := HL.out; omega)
        have hst := varss_step hy l
        rw [← hst] at ih
        clear c0 c1 c2 c3 hz hz2 hvl hst ht hy
        (go_wp2_with fail; go_fit (ih); rintro e w2 ⟨r2, rfl, hr2, b2, k2, o2⟩)
        have HZ2 := Lib.hid hr2
        have HB2 := Lib.hid b2
        have f3 := k2.cell HNE.out e3
        have HC2 := Lib.hid f3
        have HK2 := Lib.hid (HK.out.trans k2 HO.out)
        have hlt2 : w.heap.size < w2.heap.size := Nat.lt_of_lt_of_le hlt k2.1
        have HNE2 : Hid (r2.ownBlock ≠ some w.heap.size) := Lib.hid (fun e => by
          rcases o2 with o2 | o2
          · exact HNE.out (by rw [← o2]; exact e)
          · have := o2 _ e
            omega)
        have HO2 : Hid (r2.ownBlock = lv.ownBlock ∨ ∀ k, r2.ownBlock = some k → w.heap.size ≤ k) := Lib.hid (by
          rcases o2 with o2 | o2
          · rw [o2]; exact HO.out
          · exact Or.inr (fun k hk => by have := o2 k hk; omega))
        clear hr2 b2 k2 o2 HZ HB HC HNE HK HO e3 d0 d1 d2 d3
        go_wp2
        go_roundw
        case rel => exact ⟨i + 1, by omega, by go_num, HZ2, HB2, HC2, hlt2, HNE2, HK2, HO2⟩
        case measure => simp [intOf]; omega
      · have hR2 : varsL (ts.take i) l = R := by rw [← HR.out, List.take_of_length_le (by rw [HM.out]; omega)]
        have HZ2 := HZ.out
        rw [hR2] at HZ2
        clear hR2 HZ HR
        go_wp2
        go_ret
        exact ⟨_, rfl, HZ2, HB.out, HK.out, HO.out⟩
set_option maxHeartbeats 2000000 in
theorem rVars_at (x : Tm) (w : World) (v : Value) (hv : TmV w x v) : Calls Tryz.prog 62 #[v] w fun e w' => ∃ r, e = .returned r ∧ Nums w' r (if goodT x then varsT x [] else []) ∧ Below w.heap.size w w' := by
  have G := fun w (h : TmV w x v) => rgood_at x w v h
  have V := fun w (h : TmV w x v) (hs : goodT x = true) => rvars_at _ x (Nat.le_refl _) w w v (.slice none 0 0) [] h (Below.refl _ _) (RowN.nil _ _) (by have := (good_parts hs).1; simp; omega)
  obtain ⟨k, n, s, ts, hxe⟩ : ∃ k n s ts, x = .mk k n s ts := by cases x; exact ⟨_, _, _, _, rfl⟩
  have hv' := hv
  rw [hxe] at hv'
  obtain ⟨u, rfl, _, _, _, _⟩ := tmV_iff.1 hv'
  clear hv' hxe
  have hv0 := TmV.ext (bel1' w (.cells #[.int .i64 k, .int .i64 n, .string s, u] 66)) _ _ hv
  cases hg : goodT x
  · rw [hg] at G
    clear V hg
    go_enter Tryz.func62, Tryz.ntmps62
    (go_wp2_with fail; go_fit (G _ hv0); rintro e w1 ⟨rfl, b1⟩)
    have B1 := Lib.hid (Ext.trans' (bel1' w _) b1)
    clear b1
    go_wp2
    go_ret
    exact ⟨_, rfl, Nums.nil _, B1.out⟩
  · rw [hg] at G
    have V' := fun w h => V w h hg
    rw [if_pos rfl]
    clear V hg
    go_enter Tryz.func62, Tryz.ntmps62
    (go_wp2_with fail; go_fit (G _ hv0); rintro e w1 ⟨rfl, b1⟩)
    have hv1 := TmV.ext b1 _ _ hv0
    obtain ⟨e0, e1, e2, e3⟩ := box_cells w 66 _ _ _ _ b1
    have B1 := Lib.hid (Ext.trans' (bel1' w _) b1)
    clear b1
    (go_wp2_with fail; go_fit (V' _ hv1); rintro e w2 ⟨r, rfl, hr, b2, _, _⟩)
    have B2 := Lib.hid (Ext.trans' B1.out b2)
    have HN := Lib.hid hr.nums
    clear hr b2
    go_wp2
    go_ret
    exact ⟨_, rfl, HN.out, B2.out⟩
end Go.Proofs.YtljgkfdnmikpfaaGreatDoor
/- The document's own writing without operators: plain. -/
namespace Go.Proofs.YtljgkfdnmikpfaaGreatDoor
open Go.Shelf Go.RowKit
set_option linter.unusedVariables false

abbrev baS (l : List UInt8) : ByteArray := ⟨l.toArray⟩
def QC (q : ByteArray → List UInt8) (s : ByteArray) : Prop := ∀ w, Calls Tryz.prog 101 #[.string s] w fun e w' => e = .returned (.string (baS (q s))) ∧ Below w.heap.size w w'
def NC (nm : Int → List UInt8) (n : Int) : Prop := ∀ w, Calls Tryz.prog 104 #[.int .i64 n] w fun e w' => e = .returned (.string (baS (nm n))) ∧ Below w.heap.size w w'
section
variable (q : ByteArray → List UInt8) (nm : Int → List UInt8) (vs : List Int)
def varW (n : Int) : List UInt8 := match vs.findIdx? (fun v => v == n) with
  | some i => 95 :: nm (i : Nat)
  | none => [95]
mutual
def plainW : Tm → List UInt8
  | .mk k n s ts => if k = 0 then varW nm vs n else if k = 1 then nm n else if ts.isEmpty then q s else q s ++ argsW true ts ++ [41]
def argsW : Bool → List Tm → List UInt8
  | _, [] => []
  | first, x :: r => (if first then 40 else 44) :: plainW x ++ argsW false r
end
mutual
/-- All its names and numbers are such as can be written. -/
def mayW (P : ByteArray → Prop) (Q : Int → Prop) : Tm → Prop
  | .mk k n s ts => (k = 1 → Q n) ∧ (k ≠ 0 → k ≠ 1 → P s) ∧ maysW P Q ts
def maysW (P : ByteArray → Prop) (Q : Int → Prop) : List Tm → Prop
  | [] => True
  | x :: r => mayW P Q x ∧ maysW P Q r
end
end
theorem mays_mem {P : ByteArray → Prop} {Q : Int → Prop} : ∀ {l : List Tm} {x : Tm}, maysW P Q l → x ∈ l → mayW P Q x
  | y :: r, x, h, hx => by
    rw [maysW] at h
    rcases List.mem_cons.1 hx with rfl | hx
    · exact h.1
    · exact mays_mem h.2 hx
theorem args_drop (q : ByteArray → List UInt8) (nm : Int → List UInt8) (vs : List Int) : ∀ (ts : List Tm) (j : Nat) (x : Tm) (first : Bool), ts[j]? = some x → argsW q nm vs (first && decide (j = 0)) (ts.drop j) = (if (first && decide (j = 0)) = true then 40 else 44) :: plainW q nm vs x ++ argsW q nm vs false (ts.drop (j + 1))
  | ts, j, x, first, h => by
    have hj := (List.getElem?_eq_some_iff.1 h).1
    have e : ts.drop j = x :: ts.drop (j + 1) := by
      rw [← List.getElem_cons_drop hj]
      have := (List.getElem?_eq_some_iff.1 h).2
      rw [this]
    rw [e, argsW]
theorem bl_baS (l : List UInt8) : bl (baS l) = l := by simp [bl]
theorem bl_cat (a b : ByteArray) : bl (a ++ b) = bl a ++ bl b := by simp [bl]
theorem bl_eq {a b : ByteArray} (h : bl a = bl b) : a = b := bytes_eq h
theorem size_bl (a : ByteArray) : a.size = (bl a).length := (bl_len a).symm
/-- What a writer needs. -/
structure WrAt (w : World) (wb : Nat) (vv : Value) (vs : List Int) : Prop where
  c : w.cell? ⟨wb, 1, none⟩ = some vv
  n : Nums w vv vs
theorem WrAt.ext {w w' : World} {wb : Nat} {vv : Value} {vs : List Int} (h : WrAt w wb vv vs) (hb : Below w.heap.size w w') : WrAt w' wb vv vs := ⟨cell_later hb h.c, h.n.ext hb⟩
set_option maxHeartbeats 4000000 in
theorem plain_var {q : ByteArray → List UInt8} {nm : Int → List UInt8} {vs : List Int} {w : World} {wb : Nat} {vv : Value} (hw : WrAt w wb vv vs) (hN : ∀ i : Nat, i < vs.length → NC nm i) (n : Int) (s : ByteArray) (a : Option Addr) (m c : Nat) (hl : ∀ i : Nat, i < vs.length → (nm i).length ≤ 1000) :
    Calls Tryz.prog 64 #[.pointer (some ⟨wb, 0, none⟩), .agg #[.int .i64 0, .int .i64 n, .string s, .slice a m c]] w fun e w' => e = .returned (.string (baS (varW nm vs n))) ∧ Below w.heap.size w w' := by
  obtain ⟨ao, cv, rfl, hl1, hl2⟩ := hw.n.len
  unfold maxLen at hl2
  obtain ⟨w1, hw1, hb1, hz1, hx1⟩ := box_new w #[.int .i64 0, .int .i64 n, .string s, .slice a m c] 66
  have hw' := hw.ext hb1
  have HW := Lib.hid hw'
  have HB1 := Lib.hid hb1
  obtain ⟨b0, b1, b2, b3, bf⟩ := hx1.four
  have c1 := hw'.c
  obtain ⟨L, hL⟩ : ∃ L, vs.length = L := ⟨_, rfl⟩
  have HL := Lib.hid hL
  have HNC := Lib.hid hN
  have HLL := Lib.hid hl
  rw [hL] at c1 hl1
  clear hw hw' hb1 hx1 hN hL hl hz1
  go_enter Tryz.func64, Tryz.ntmps64
  go_wp2_with fail
  (try rw [hw1])
  clear hw1
  go_wp2_with fail
  go_loopw [5] (fun v wr => ∃ j : Nat, j ≤ L ∧ v = .int .i64 j ∧ Hid (∀ i x, i < j → vs[i]? = some x → ¬ x = n) ∧ Hid (Below w1.heap.size w1 wr)) (fun v _ => L - (intOf v).toNat)
  case atStart => exact ⟨0, Nat.zero_le _, rfl, Lib.hid (fun i x h => by omega), Lib.hid (Below.refl _ _)⟩
  case round =>
    obtain ⟨j, hj, rfl, HNO, HB⟩ := hrel
    have c1 := cell_later HB.out c1
    have b1 := cell_later HB.out b1
    by_cases hlt : j < L
    · obtain ⟨x, hx⟩ : ∃ x, vs[j]? = some x := ⟨_, List.getElem?_eq_getElem (by rw [HL.out]; exact hlt)⟩
      have hnum := HW.out.n.ext HB.out
      obtain ⟨b, off, rfl, hbb, d0⟩ := hnum.get hx
      have HX := Lib.hid hx
      have hjj : (j : Int) < L := by omega
      clear hnum hx
      by_cases hxn : x = n
      · subst hxn
        have hxe : (x == x) = true := beq_self_eq_true x
        have HNJ := Lib.hid (HNC.out j (by rw [HL.out]; exact hlt))
        obtain ⟨Z, hZ⟩ : ∃ Z, baS (nm j) = Z := ⟨_, rfl⟩
        have hZs : Z.size ≤ 1000 := by rw [← hZ, size_bl, bl_baS]; exact HLL.out j (by rw [HL.out]; exact hlt)
        have hNJ : ∀ w, Calls Tryz.prog 104 #[.int .i64 j] w fun e w' => e = .returned (.string Z) ∧ Below w.heap.size w w' := by rw [← hZ]; exact HNJ.out
        have HNK := Lib.hid hNJ
        have HZ := Lib.hid hZ
        clear hNJ hZ HNJ
        go_wp2_with fail
        go_quiet (fail)
        go_wp2_with fail
        (go_wp2_with fail; go_fit (HNK.out _); rintro e w4 ⟨rfl, hb4⟩)
        have HB4 := Lib.hid (Ext.trans' (Ext.trans' HB1.out (bel_drewN HB.out _)) hb4)
        clear hb4
        go_wp2
        go_ret
        refine ⟨?_, HB4.out⟩
        have hf : vs.findIdx? (fun v => v == x) = some j := by
          rw [List.findIdx?_eq_some_iff_getElem]
          have hjl := (List.getElem?_eq_some_iff.1 HX.out)
          refine ⟨hjl.1, by rw [hjl.2]; exact beq_self_eq_true x, fun i hi => ?_⟩
          have hil : i < vs.length := Nat.lt_trans hi hjl.1
          have := HNO.out i (vs[i]'hil) hi (List.getElem?_eq_getElem hil)
          simpa using this
        have hb : (⟨#[95]⟩ : ByteArray) ++ Z = baS (varW nm vs x) := bl_eq (by
          show bl _ = bl _
          rw [bl_cat, bl_baS, ← HZ.out, bl_baS]
          unfold varW
          rw [hf]
          rfl)
        exact congrArg Ending.returned (congrArg Value.string hb)
      · have hxe : (x == n) = false := beq_false_of_ne hxn
        go_wp2_with fail
        go_quiet (fail)
        go_wp2
        go_roundw
        case rel => exact ⟨j + 1, hlt, by go_num, Lib.hid (fun i y hi hy => by
          by_cases e : i = j
          · subst e; rw [HX.out] at hy; cases hy; exact hxn
          · exact HNO.out i y (by omega) hy), Lib.hid (bel_drewN HB.out _)⟩
        case measure => simp [intOf]; omega
    · have hjl : j = L := by omega
      subst hjl
      have HF := Lib.hid (show varW nm vs n = [95] by
        have hf : vs.findIdx? (fun v => v == n) = none := by
          rw [List.findIdx?_eq_none_iff]
          intro x hx
          obtain ⟨i, hi⟩ := List.getElem?_of_mem hx
          have := HNO.out i x (by rw [← HL.out]; exact (List.getElem?_eq_some_iff.1 hi).1) hi
          simpa using this
        unfold varW
        rw [hf])
      go_wp2
      go_ret
      refine ⟨?_, Ext.trans' HB1.out HB.out⟩
      rw [HF.out]
      rfl
theorem plain_int {q : ByteArray → List UInt8} {nm : Int → List UInt8} {vs : List Int} {w : World} {wb : Nat} (n : Int) (hN : NC nm n) (s : ByteArray) (a : Option Addr) (m c : Nat) :
    Calls Tryz.prog 64 #[.pointer (some ⟨wb, 0, none⟩), .agg #[.int .i64 1, .int .i64 n, .string s, .slice a m c]] w fun e w' => e = .returned (.string (baS (nm n))) ∧ Below w.heap.size w w' := by
  obtain ⟨w1, hw1, hb1, hz1, hx1⟩ := box_new w #[.int .i64 1, .int .i64 n, .string s, .slice a m c] 66
  have HB1 := Lib.hid hb1
  have HNC := Lib.hid hN
  obtain ⟨b0, b1, b2, b3, bf⟩ := hx1.four
  clear hb1 hx1 hN hz1
  go_enter Tryz.func64, Tryz.ntmps64
  go_wp2_with fail
  (try rw [hw1])
  clear hw1
  (go_wp2_with fail; go_fit (HNC.out _); rintro e w4 ⟨rfl, hb4⟩)
  go_wp2
  go_ret
  exact ⟨rfl, Ext.trans' HB1.out hb4⟩
set_option maxHeartbeats 4000000 in
theorem plain_name {q : ByteArray → List UInt8} {nm : Int → List UInt8} {vs : List Int} (k : Int) (hk0 : (k == 0) = false) (hk1 : (k == 1) = false) (n : Int) (s : ByteArray) (ts : List Tm) (hQ : QC q s)
    (hlen : (q s).length + (argsW q nm vs true ts).length ≤ 1000000) {w : World} {wb : Nat} {vv : Value} (hw : WrAt w wb vv vs) (a : Option Addr) (c : Nat) (hT : Tms w (.slice a ts.length c) ts)
    (hC : ∀ x ∈ ts, ∀ (wq : World) (v : Value), TmV wq x v → WrAt wq wb vv vs → Calls Tryz.prog 64 #[.pointer (some ⟨wb, 0, none⟩), v] wq fun e w' => e = .returned (.string (baS (plainW q nm vs x))) ∧ Below wq.heap.size wq w') :
    Calls Tryz.prog 64 #[.pointer (some ⟨wb, 0, none⟩), .agg #[.int .i64 k, .int .i64 n, .string s, .slice a ts.length c]] w fun e w' => e = .returned (.string (baS (if ts.isEmpty then q s else q s ++ argsW q nm vs true ts ++ [41]))) ∧ Below w.heap.size w w' := by
  obtain ⟨m, hm⟩ : ∃ m, ts.length = m := ⟨_, rfl⟩
  have HE := Lib.hid (show ts.isEmpty = decide (m = 0) by rw [← hm]; cases ts <;> simp)
  obtain ⟨l1, l2⟩ : ts.length ≤ c ∧ c ≤ maxLen := by
    obtain ⟨a', c', e', l1, l2, l3⟩ := hT.len
    cases e'
    exact ⟨l1, l2⟩
  rw [hm] at hT l1 ⊢
  unfold maxLen at l2
  obtain ⟨w1, hw1, hb1, hz1, hx1⟩ := box_new w #[.int .i64 k, .int .i64 n, .string s, .slice a m c] 66
  have HB1 := Lib.hid hb1
  have HT := Lib.hid hT
  have HW := Lib.hid hw
  have HM := Lib.hid hm
  have HC := Lib.hid hC
  have HQ := Lib.hid hQ
  have HLN := Lib.hid hlen
  obtain ⟨b0, b1, b2, b3, bf⟩ := hx1.four
  obtain ⟨Q, hq⟩ : ∃ Q, baS (q s) = Q := ⟨_, rfl⟩
  have hQ2 : ∀ w, Calls Tryz.prog 101 #[.string s] w fun e w' => e = .returned (.string Q) ∧ Below w.heap.size w w' := by rw [← hq]; exact hQ
  have HQ2 := Lib.hid hQ2
  have HQE := Lib.hid (show bl Q = q s by rw [← hq, bl_baS])
  obtain ⟨R, hR⟩ : ∃ R, (baS (if ts.isEmpty then q s else q s ++ argsW q nm vs true ts ++ [41])) = R := ⟨_, rfl⟩
  have HR := Lib.hid (show bl R = (if ts.isEmpty then q s else q s ++ argsW q nm vs true ts ++ [41]) by rw [← hR, bl_baS])
  rw [hR]
  clear hb1 hx1 hz1 hT hw hm hC hQ hlen hq hQ2 hR
  go_enter Tryz.func64, Tryz.ntmps64
  go_wp2_with fail
  (try rw [hw1])
  clear hw1
  (go_wp2_with fail; go_fit (HQ2.out _); rintro e w2 ⟨rfl, hb2⟩)
  have HB2 := Lib.hid (Ext.trans' HB1.out hb2)
  have b3 := cell_later hb2 b3
  clear hb2
  go_wp2_with fail
  go_loopw [6, 7] (fun p v wr => ∃ (j : Nat) (acc : ByteArray), j ≤ m ∧ v = .int .i64 j ∧ p = .string acc ∧ Hid (bl acc ++ argsW q nm vs (decide (j = 0)) (ts.drop j) = q s ++ argsW q nm vs true ts) ∧ Hid (Below w2.heap.size w2 wr)) (fun _ v _ => m - (intOf v).toNat)
  case atStart => exact ⟨0, Q, Nat.zero_le _, rfl, rfl, Lib.hid (by rw [HQE.out]; rfl), Lib.hid (Below.refl _ _)⟩
  case round =>
    obtain ⟨j, acc, hj, rfl, rfl, HA, HB⟩ := hrel
    have b3 := cell_later HB.out b3
    have hacc : acc.size ≤ 1000000 := by
      have h1 := congrArg List.length HA.out
      have h2 := HLN.out
      rw [List.length_append, List.length_append] at h1
      rw [size_bl]
      omega
    by_cases hlt : j < m
    · obtain ⟨x, hx⟩ : ∃ x, ts[j]? = some x := ⟨_, List.getElem?_eq_getElem (by rw [HM.out]; exact hlt)⟩
      have HBW := Lib.hid (Ext.trans' HB2.out HB.out)
      obtain ⟨b, off, xk, xn, xs', xu, rfl, hbb, ek, en, es, c0, c1, c2, c3, _, htx⟩ := (HT.out.ext HBW.out).get hx
      have hdr := args_drop q nm vs ts j x true hx
      simp only [Bool.true_and] at hdr
      have HCX := Lib.hid (HC.out x (List.mem_of_getElem? hx) wr _ htx (HW.out.ext HBW.out))
      obtain ⟨Z, hZ⟩ : ∃ Z, baS (plainW q nm vs x) = Z := ⟨_, rfl⟩
      have hZb : bl Z = plainW q nm vs x := by rw [← hZ, bl_baS]
      have hA := HA.out
      rw [hdr, ← hZb] at hA
      have hZs : acc.size + Z.size ≤ 1000000 := by
        have h1 := congrArg List.length hA
        have h2 := HLN.out
        simp only [List.length_append, List.length_cons] at h1
        rw [size_bl, size_bl]
        omega
      have HAZ := Lib.hid hA
      rw [hZ] at HCX
      clear hx ek en es htx hdr hZ hZb hA HA
      have hjj : (j : Int) < m := by omega
      by_cases hj0 : j = 0
      · subst hj0
        simp only [Nat.zero_mul, Nat.add_zero] at c0 c1 c2 c3
        (go_wp2_with fail; go_fit (HCX.out); rintro e w4 ⟨rfl, hb4⟩)
        have HB4 := Lib.hid (Ext.trans' HB.out hb4)
        have HAF := Lib.hid (show bl (acc ++ ⟨#[40]⟩ ++ Z) ++ argsW q nm vs (decide (0 + 1 = 0)) (ts.drop (0 + 1)) = q s ++ argsW q nm vs true ts by
          rw [← HAZ.out, bl_cat, bl_cat]
          simp [bl])
        clear hb4
        go_wp2
        go_roundw
        case rel => exact ⟨0 + 1, acc ++ ⟨#[40]⟩ ++ Z, hlt, by go_num, rfl, HAF, HB4⟩
        case measure => simp [intOf]; omega
      · have hjf : ((j : Int) == 0) = false := beq_false_of_ne (by omega)
        (go_wp2_with fail; go_fit (HCX.out); rintro e w4 ⟨rfl, hb4⟩)
        have HB4 := Lib.hid (Ext.trans' HB.out hb4)
        have HAF := Lib.hid (show bl (acc ++ ⟨#[44]⟩ ++ Z) ++ argsW q nm vs (decide (j + 1 = 0)) (ts.drop (j + 1)) = q s ++ argsW q nm vs true ts by
          rw [← HAZ.out, bl_cat, bl_cat]
          simp [bl, hj0])
        clear hb4
        go_wp2
        go_roundw
        case rel => exact ⟨j + 1, acc ++ ⟨#[44]⟩ ++ Z, hlt, by go_num, rfl, HAF, HB4⟩
        case measure => simp [intOf]; omega
    · have hjm : j = m := by omega
      subst hjm
      have HAE := Lib.hid (show bl acc = q s ++ argsW q nm vs true ts by
        rw [← HA.out, List.drop_of_length_le (by rw [HM.out]; exact Nat.le_refl _)]
        simp [argsW])
      by_cases hj0 : j = 0
      · subst hj0
        have HRE := Lib.hid (show acc = R by
          apply bl_eq
          rw [HAE.out, HR.out, HE.out]
          have : ts = [] := List.length_eq_zero_iff.1 HM.out
          simp [this, argsW])
        go_wp2
        go_ret
        exact ⟨congrArg Ending.returned (congrArg Value.string HRE.out), Ext.trans' HB2.out HB.out⟩
      · have hjp : (0 : Int) < j := by omega
        have HRE := Lib.hid (show acc ++ ⟨#[41]⟩ = R by
          apply bl_eq
          show bl _ = bl _
          rw [bl_cat, HAE.out, HR.out, HE.out]
          simp [hj0, bl])
        go_wp2
        go_ret
        exact ⟨congrArg Ending.returned (congrArg Value.string HRE.out), Ext.trans' HB2.out HB.out⟩
end Go.Proofs.YtljgkfdnmikpfaaGreatDoor
/- The document's own writing without operators; what the law's text answers. -/
namespace Go.Proofs.YtljgkfdnmikpfaaGreatDoor
open Go.Shelf Go.RowKit
set_option linter.unusedVariables false

theorem args_len (q : ByteArray → List UInt8) (nm : Int → List UInt8) (vs : List Int) : ∀ (ts : List Tm) (first : Bool) (x : Tm), x ∈ ts → (plainW q nm vs x).length ≤ (argsW q nm vs first ts).length
  | y :: r, first, x, h => by
    rw [argsW]
    simp only [List.length_append, List.length_cons]
    rcases List.mem_cons.1 h with rfl | h
    · omega
    · have := args_len q nm vs r false x h
      omega
theorem plainT_at {q : ByteArray → List UInt8} {nm : Int → List UInt8} {vs : List Int} (hN : ∀ i : Nat, i < vs.length → NC nm i) (hl : ∀ i : Nat, i < vs.length → (nm i).length ≤ 1000) (wb : Nat) (vv : Value) :
    ∀ (N : Nat) (t : Tm), sizeN t < N → mayW (QC q) (NC nm) t → (plainW q nm vs t).length ≤ 1000000 → ∀ (w : World) (v : Value), TmV w t v → WrAt w wb vv vs →
      Calls Tryz.prog 64 #[.pointer (some ⟨wb, 0, none⟩), v] w fun e w' => e = .returned (.string (baS (plainW q nm vs t))) ∧ Below w.heap.size w w'
  | 0, t, ht, _, _, w, v, _, _ => by omega
  | N + 1, .mk k n s ts, ht, hm, hlen, w, v, hv, hw => by
    obtain ⟨u, rfl, hs, hk64, hn64, hu⟩ := tmV_iff.1 hv
    obtain ⟨a, c, rfl, _⟩ := hu.len
    rw [mayW] at hm
    rw [plainW] at hlen ⊢
    by_cases h0 : k = 0
    · subst h0
      rw [if_pos rfl]
      exact plain_var (q := q) hw hN n s a ts.length c hl
    · rw [if_neg h0] at hlen ⊢
      by_cases h1 : k = 1
      · subst h1
        rw [if_pos rfl]
        exact plain_int (q := q) (vs := vs) n (hm.1 rfl) s a ts.length c
      · rw [if_neg h1] at hlen ⊢
        have hq : (q s).length + (argsW q nm vs true ts).length ≤ 1000000 := by
          cases ts with
          | nil => simp [argsW] at hlen ⊢; omega
          | cons x r => simp at hlen ⊢; omega
        refine plain_name k (beq_false_of_ne h0) (beq_false_of_ne h1) n s ts (hm.2.1 h0 h1) hq hw a c hu (fun x hx wq vx hvx hwx => ?_)
        have := sizes_mem hx
        rw [sizeN] at ht
        have := args_len q nm vs ts true x hx
        exact plainT_at hN hl wb vv N x (by omega) (mays_mem hm.2.2 hx) (by omega) wq vx hvx hwx
theorem short_at (s : ByteArray) (hs : s.size ≤ 4096) (w : World) : Calls Tryz.prog 61 #[.string s] w fun e w' => e = .returned (.tuple #[.string s, .int .i64 0]) ∧ w = w' := by
  have hd : decide ((4096 : Int) < (s.size : Int)) = false := decide_eq_false (by omega)
  go_enter Tryz.func61, Tryz.ntmps61
  go_wp2
  go_ret2
  exact ⟨rfl, rfl⟩
set_option maxHeartbeats 4000000 in
theorem plain8_at {q : ByteArray → List UInt8} {nm : Int → List UInt8} {t : Tm} (hg : goodT t = true) (hm : mayW (QC q) (NC nm) t) (hN : ∀ i : Nat, i < (varsT t []).length → NC nm i) (hl : ∀ i : Nat, i < (varsT t []).length → (nm i).length ≤ 1000)
    (hlen : (plainW q nm (varsT t []) t).length ≤ 4096) {w : World} {v : Value} (hv : TmV w t v) :
    Calls Tryz.prog 34 #[v] w fun e w' => e = .returned (.tuple #[.string (baS (plainW q nm (varsT t []) t)), .int .i64 0]) ∧ Below w.heap.size w w' := by
  obtain ⟨k, n, s, a, m, c, rfl⟩ := hv.full
  obtain ⟨w1, hw1, hb1, hz1, hx1⟩ := box_new w #[.int .i64 k, .int .i64 n, .string s, .slice a m c] 66
  have HV := Lib.hid hv
  have HB1 := Lib.hid hb1
  have HG := rgood_at t w1 _ (TmV.ext hb1 _ _ hv)
  rw [hg] at HG
  have HG := Lib.hid HG
  obtain ⟨Z, hZ⟩ : ∃ Z, baS (plainW q nm (varsT t []) t) = Z := ⟨_, rfl⟩
  have hZs : Z.size ≤ 4096 := by rw [← hZ, size_bl, bl_baS]; exact hlen
  have HP := Lib.hid (fun (wb : Nat) (vv : Value) (wq : World) (hq : Below w.heap.size w wq) (hw : WrAt wq wb vv (varsT t [])) => plainT_at hN hl wb vv _ t (Nat.lt_succ_self _) hm (by omega) wq _ (TmV.ext hq _ _ hv) hw)
  rw [hZ] at HP
  have HVA := Lib.hid (fun (wq : World) (hq : Below w.heap.size w wq) => rVars_at t wq _ (TmV.ext hq _ _ hv))
  rw [hg] at HVA
  simp only [if_true] at HVA
  have HS := Lib.hid (fun wq => short_at Z hZs wq)
  rw [hZ]
  obtain ⟨b0, b1, b2, b3, bf⟩ := hx1.four
  have HX1 := Lib.hid hx1
  clear hv hb1 hx1 hz1 hg hZ hZs hm hN hl hlen
  go_enter Tryz.func34, Tryz.ntmps34
  go_wp2_with fail
  (try rw [hw1])
  clear hw1
  (go_wp2_with fail; go_fit (HG.out); rintro e w2 ⟨rfl, hb2⟩)
  have HB2 := Lib.hid (Ext.trans' HB1.out hb2)
  obtain ⟨b0, b1, b2, b3, bf⟩ := (HX1.out.ext hb2).four
  clear hb2
  go_wp2_with fail
  refine wp_region_held_drew (S := fun w' => (w'.cell? ⟨w.heap.size, 0, none⟩ = some (.int .i64 k) ∧ w'.cell? ⟨w.heap.size, 1, none⟩ = some (.int .i64 n) ∧ w'.cell? ⟨w.heap.size, 2, none⟩ = some (.string s) ∧ w'.cell? ⟨w.heap.size, 3, none⟩ = some (.slice a m c)) ∧ Below w2.heap.size w2 w') (by kernel_rfl) ⟨⟨b0, b1, b2, b3⟩, (Below.refl _ _).drew⟩ (fun hHeld => ?_)
  first | (refine held_t (i := 0) hHeld ?_; apply Exists.intro; refine ⟨fun wq hq => ?_, ?_⟩; (focus ((try dsimp only at hq); go_simp; (first | done | with_reducible rfl | fail)))) | refine held_s (i := 0) hHeld ?_ | fail
  first | (refine held_t (i := 4) hHeld ?_; apply Exists.intro; refine ⟨fun wq hq => ?_, ?_⟩; (focus ((try dsimp only at hq); go_simp; (first | done | with_reducible rfl | fail)))) | refine held_s (i := 4) hHeld ?_ | fail
  try simp only [Act.put, List.setIfInBounds_toArray, List.set_cons_zero, List.set_cons_succ]
  refine held_c 1 fun K hK => ?_
  go_simp
  (go_at_call 62; refine (HVA.out _ (Ext.trans' HB2.out hHeld.2)).mono ?_; rintro e w3 ⟨vv, rfl, hnv, hb3⟩; obtain ⟨va, vc, rfl, _⟩ := hnv.len; have HNV := Lib.hid hnv; clear hnv)
  refine hK.out _ _ (⟨⟨cell_later hb3 hHeld.1.1, cell_later hb3 hHeld.1.2.1, cell_later hb3 hHeld.1.2.2.1, cell_later hb3 hHeld.1.2.2.2⟩, Ext.trans' hHeld.2 hb3⟩) (fun hHeld => ?_)
  clear hK K
  try simp only [Act.put, List.setIfInBounds_toArray, List.set_cons_zero, List.set_cons_succ]
  first | (refine held_t (i := 2) hHeld ?_; apply Exists.intro; refine ⟨fun wq hq => ?_, ?_⟩; (focus ((try dsimp only at hq); go_simp; (first | done | with_reducible rfl | fail)))) | refine held_s (i := 2) hHeld ?_ | fail
  try simp only [Act.put, List.setIfInBounds_toArray, List.set_cons_zero, List.set_cons_succ]
  refine held_c 3 fun K hK => ?_
  go_simp
  skip
  refine hK.out _ _ (⟨⟨cell_later (bel1' _ _) hHeld.1.1, cell_later (bel1' _ _) hHeld.1.2.1, cell_later (bel1' _ _) hHeld.1.2.2.1, cell_later (bel1' _ _) hHeld.1.2.2.2⟩, Ext.trans' hHeld.2 (bel1' _ _)⟩) (fun hHeld => ?_)
  clear hK K
  try simp only [Act.put, List.setIfInBounds_toArray, List.set_cons_zero, List.set_cons_succ]
  refine held_c 5 fun K hK => ?_
  go_simp
  (go_at_call 64; refine (HP.out _ _ _ (Ext.trans' HB2.out hHeld.2) ⟨by simp, HNV.out.ext (bel1' _ _)⟩).mono ?_; rintro e w4 ⟨rfl, hb4⟩)
  refine hK.out _ _ (⟨⟨cell_later hb4 hHeld.1.1, cell_later hb4 hHeld.1.2.1, cell_later hb4 hHeld.1.2.2.1, cell_later hb4 hHeld.1.2.2.2⟩, Ext.trans' hHeld.2 hb4⟩) (fun hHeld => ?_)
  clear hK K
  try simp only [Act.put, List.setIfInBounds_toArray, List.set_cons_zero, List.set_cons_succ]
  refine held_c 6 fun K hK => ?_
  go_simp
  (go_at_call 61; refine (HS.out _).mono ?_; rintro e w5 ⟨rfl, rfl⟩)
  refine hK.out _ _ (hHeld) (fun hHeld => ?_)
  clear hK K
  try simp only [Act.put, List.setIfInBounds_toArray, List.set_cons_zero, List.set_cons_succ]
  first | (refine held_t (i := 7) hHeld ?_; apply Exists.intro; refine ⟨fun wq hq => ?_, ?_⟩; (focus ((try dsimp only at hq); go_simp; (first | done | with_reducible rfl | fail)))) | refine held_s (i := 7) hHeld ?_ | fail
  first | (refine held_t (i := 8) hHeld ?_; apply Exists.intro; refine ⟨fun wq hq => ?_, ?_⟩; (focus ((try dsimp only at hq); go_simp; (first | done | with_reducible rfl | fail)))) | refine held_s (i := 8) hHeld ?_ | fail
  first | (refine held_t (i := 9) hHeld ?_; apply Exists.intro; refine ⟨fun wq hq => ?_, ?_⟩; (focus ((try dsimp only at hq); go_simp; (first | done | with_reducible rfl | fail)))) | refine held_s (i := 9) hHeld ?_ | fail
  first | (refine held_t (i := 10) hHeld ?_; apply Exists.intro; refine ⟨fun wq hq => ?_, ?_⟩; (focus ((try dsimp only at hq); go_simp; (first | done | with_reducible rfl | fail)))) | refine held_s (i := 10) hHeld ?_ | fail
  try simp only [Act.put, List.setIfInBounds_toArray, List.set_cons_zero, List.set_cons_succ]
  refine wpAnyH_done (by kernel_rfl) ?_ _
  have HF := Lib.hid (Ext.trans' HB2.out hHeld.2)
  go_wp2
  go_ret2
  exact ⟨rfl, HF.out⟩
/-- A read term is good. -/
theorem one_good {xs : List O} {s : List UInt8} {t : Tm} {ns : List NmP} (h : readB oneR xs s = .ok (t, ns)) : goodT t = true := by
  unfold readB oneR at h
  split at h
  · split at h
    · split at h
      · cases h
      · split at h
        · split at h
          · rename_i hg
            cases h
            exact hg
          · cases h
        · cases h
    · cases h
  · cases h
def errW : ByteArray := ⟨#[101, 114, 114, 111, 114]⟩
theorem oldNo' (w : World) : Old (fun _ => false) w := fun _ _ => rfl
set_option maxHeartbeats 2000000 in
theorem text_bad {s : ByteArray} {k : Int} (h : readB oneR opsB (bl s) = .bad k) (hk : (k != 0) = true) (hs : s.size ≤ 4096) {w : World} (he : Err w) :
    Calls Tryz.prog 14 #[.string s] w fun e w' => e = .returned (.string errW) ∧ Below w.heap.size w w' := by
  have HT := Lib.hid (fun (wq : World) (hq : Below w.heap.size w wq) (v : Value) (ho : Ops wq v opsB) => term8_at ho s (he.ext hq) (by omega))
  rw [h] at HT
  have HPl := Lib.hid (plain_walk w)
  clear h he hs
  go_enter Tryz.func14, Tryz.ntmps14
  (go_wp2_with fail; go_fit (HPl.out); rintro e w1 ⟨v, rfl, ho, hb1⟩)
  have HC := Lib.hid ((HT.out w1 hb1 v ho).mono fun e w' (hp : TermX w1 (.bad k) e w') => (show e = .returned (.tuple #[.agg #[.int .i64 0, .int .i64 0, .string ⟨#[]⟩, .slice none 0 0], .slice none 0 0, .int .i64 k]) ∧ Below w1.heap.size w1 w' from hp))
  have HB1 := Lib.hid hb1
  clear ho hb1 HT
  (go_wp2_with fail; go_fit (HC.out); rintro e w2 ⟨rfl, hb2⟩)
  have HB2 := Lib.hid (Ext.trans' HB1.out hb2)
  clear hb2
  go_wp2
  go_ret
  exact ⟨rfl, by first | exact Ext.trans' HB2.out (bel1' _ _) | assumption⟩
set_option maxHeartbeats 2000000 in
theorem text_ok {q : ByteArray → List UInt8} {nm : Int → List UInt8} {s : ByteArray} {t : Tm} {ns : List NmP} (h : readB oneR opsB (bl s) = .ok (t, ns)) (hm : mayW (QC q) (NC nm) t) (hN : ∀ i : Nat, i < (varsT t []).length → NC nm i) (hl : ∀ i : Nat, i < (varsT t []).length → (nm i).length ≤ 1000)
    (hlen : (plainW q nm (varsT t []) t).length ≤ 4096) (hs : s.size ≤ 4096) {w : World} (he : Err w) :
    Calls Tryz.prog 14 #[.string s] w fun e w' => e = .returned (.string (baS (plainW q nm (varsT t []) t))) ∧ Below w.heap.size w w' := by
  have hg := one_good h
  have HT := Lib.hid (fun (wq : World) (hq : Below w.heap.size w wq) (v : Value) (ho : Ops wq v opsB) => term8_at ho s (he.ext hq) (by omega))
  rw [h] at HT
  have HPl := Lib.hid (plain_walk w)
  have HP8 := Lib.hid (fun (wq : World) (v : Value) (hv : TmV wq t v) => plain8_at hg hm hN hl hlen hv)
  obtain ⟨Z, hZ⟩ : ∃ Z, baS (plainW q nm (varsT t []) t) = Z := ⟨_, rfl⟩
  rw [hZ] at HP8
  rw [hZ]
  clear h he hs hg hm hN hl hlen hZ
  go_enter Tryz.func14, Tryz.ntmps14
  (go_wp2_with fail; go_fit (HPl.out); rintro e w1 ⟨v, rfl, ho, hb1⟩)
  have HC := Lib.hid ((HT.out w1 hb1 v ho).mono fun e w' (hp : TermX w1 (.ok (t, ns)) e w') => (show (∃ v vn, e = .returned (.tuple #[v, vn, .int .i64 0]) ∧ TmV w' t v ∧ Nms w' vn ns) ∧ Below w1.heap.size w1 w' from hp))
  have HB1 := Lib.hid hb1
  clear ho hb1 HT
  (go_wp2_with fail; go_fit (HC.out); rintro e w2 ⟨⟨v2, vn, rfl, hv2, hn2⟩, hb2⟩)
  obtain ⟨k2, n2, s2, a2, m2, c2, rfl⟩ := hv2.full
  obtain ⟨w3, hw3, hb3, hz3, hx3⟩ := box_new w2 #[.int .i64 k2, .int .i64 n2, .string s2, .slice a2 m2 c2] 27
  have HO := Lib.hid (own_at t (fun _ => false) w3 _ (oldNo' w3) (TmV.ext hb3 _ _ hv2))
  have HB3 := Lib.hid (Ext.trans' (Ext.trans' HB1.out hb2) hb3)
  obtain ⟨b0, b1, b2, b3, bf⟩ := hx3.four
  clear hv2 hn2 hb2 hb3 hx3 hz3 HC
  go_wp2_with fail
  (try rw [hw3])
  clear hw3
  (go_wp2_with fail; go_fit (HO.out); rintro e w4 ⟨v4, rfl, hv4, hb4⟩)
  have HC4 := Lib.hid (HP8.out w4 v4 hv4.bare)
  have HB4 := Lib.hid (Ext.trans' HB3.out hb4)
  clear hv4 hb4
  (go_wp2_with fail; go_fit (HC4.out); rintro e w5 ⟨rfl, hb5⟩)
  have HB5 := Lib.hid (Ext.trans' HB4.out hb5)
  clear hb5
  go_wp2
  go_ret
  exact ⟨rfl, HB5.out⟩
end Go.Proofs.YtljgkfdnmikpfaaGreatDoor
/- The document's own Quote at names of one letter. -/
namespace Go.Proofs.YtljgkfdnmikpfaaGreatDoor
open Go.Shelf Go.RowKit
set_option linter.unusedVariables false
set_option maxRecDepth 100000

theorem blank_97 (w : World) : Calls Tryz.prog 113 #[.int .u8 97] w fun e w' => e = .returned (.bool false) ∧ w = w' := by
  go_enter Tryz.func113, Tryz.ntmps113
  go_wp2
  go_ret
  exact ⟨rfl, rfl⟩
theorem small_97 (w : World) : Calls Tryz.prog 151 #[.int .u8 97] w fun e w' => e = .returned (.bool true) ∧ w = w' := by
  go_enter Tryz.func151, Tryz.ntmps151
  go_wp2
  go_ret
  exact ⟨rfl, rfl⟩
theorem great_97 (w : World) : Calls Tryz.prog 152 #[.int .u8 97] w fun e w' => e = .returned (.bool false) ∧ w = w' := by
  go_enter Tryz.func152, Tryz.ntmps152
  go_wp2
  go_ret
  exact ⟨rfl, rfl⟩
theorem word_97 (w : World) : Calls Tryz.prog 153 #[.int .u8 97] w fun e w' => e = .returned (.bool true) ∧ w = w' := by
  go_enter Tryz.func153, Tryz.ntmps153
  go_wp2_with (first | (go_at_call 151; refine (small_97 _).mono ?_; rintro e w' ⟨rfl, rfl⟩) | (go_at_call 152; refine (great_97 _).mono ?_; rintro e w' ⟨rfl, rfl⟩))
  go_ret
  exact ⟨rfl, rfl⟩
theorem blank_61 (w : World) : Calls Tryz.prog 113 #[.int .u8 61] w fun e w' => e = .returned (.bool false) ∧ w = w' := by
  go_enter Tryz.func113, Tryz.ntmps113
  go_wp2
  go_ret
  exact ⟨rfl, rfl⟩
theorem small_61 (w : World) : Calls Tryz.prog 151 #[.int .u8 61] w fun e w' => e = .returned (.bool false) ∧ w = w' := by
  go_enter Tryz.func151, Tryz.ntmps151
  go_wp2
  go_ret
  exact ⟨rfl, rfl⟩
theorem great_61 (w : World) : Calls Tryz.prog 152 #[.int .u8 61] w fun e w' => e = .returned (.bool false) ∧ w = w' := by
  go_enter Tryz.func152, Tryz.ntmps152
  go_wp2
  go_ret
  exact ⟨rfl, rfl⟩
theorem digit_61 (w : World) : Calls Tryz.prog 154 #[.int .u8 61] w fun e w' => e = .returned (.bool false) ∧ w = w' := by
  go_enter Tryz.func154, Tryz.ntmps154
  go_wp2
  go_ret
  exact ⟨rfl, rfl⟩
theorem symbol_61 (w : World) : Calls Tryz.prog 158 #[.int .u8 61] w fun e w' => e = .returned (.bool true) ∧ w = w' := by
  go_enter Tryz.func158, Tryz.ntmps158
  go_wp2_with fail
  refine wp_loop_rounds 9 ?_
  rw [rounds_succ]
  go_wp2_with fail
  rw [rounds_succ]
  go_wp2_with fail
  rw [rounds_succ]
  go_wp2_with fail
  rw [rounds_succ]
  go_wp2_with fail
  rw [rounds_succ]
  go_wp2_with fail
  rw [rounds_succ]
  go_wp2_with fail
  rw [rounds_succ]
  go_wp2_with fail
  rw [rounds_succ]
  go_wp2_with fail
  rw [rounds_succ]
  go_wp2
  go_ret
  exact ⟨rfl, rfl⟩
theorem blank_43 (w : World) : Calls Tryz.prog 113 #[.int .u8 43] w fun e w' => e = .returned (.bool false) ∧ w = w' := by
  go_enter Tryz.func113, Tryz.ntmps113
  go_wp2
  go_ret
  exact ⟨rfl, rfl⟩
theorem small_43 (w : World) : Calls Tryz.prog 151 #[.int .u8 43] w fun e w' => e = .returned (.bool false) ∧ w = w' := by
  go_enter Tryz.func151, Tryz.ntmps151
  go_wp2
  go_ret
  exact ⟨rfl, rfl⟩
theorem great_43 (w : World) : Calls Tryz.prog 152 #[.int .u8 43] w fun e w' => e = .returned (.bool false) ∧ w = w' := by
  go_enter Tryz.func152, Tryz.ntmps152
  go_wp2
  go_ret
  exact ⟨rfl, rfl⟩
theorem digit_43 (w : World) : Calls Tryz.prog 154 #[.int .u8 43] w fun e w' => e = .returned (.bool false) ∧ w = w' := by
  go_enter Tryz.func154, Tryz.ntmps154
  go_wp2
  go_ret
  exact ⟨rfl, rfl⟩
theorem symbol_43 (w : World) : Calls Tryz.prog 158 #[.int .u8 43] w fun e w' => e = .returned (.bool true) ∧ w = w' := by
  go_enter Tryz.func158, Tryz.ntmps158
  go_wp2_with fail
  refine wp_loop_rounds 1 ?_
  rw [rounds_succ]
  go_wp2
  go_ret
  exact ⟨rfl, rfl⟩
end Go.Proofs.YtljgkfdnmikpfaaGreatDoor
