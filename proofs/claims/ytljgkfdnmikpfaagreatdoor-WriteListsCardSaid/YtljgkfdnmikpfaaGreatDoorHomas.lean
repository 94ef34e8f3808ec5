import Derived.Test.YtljgkfdnmikpfaaGreatDoorHomae
import Derived.Test.YtljgkfdnmikpfaaGreatDoorHomaq
import Derived.Test.YtljgkfdnmikpfaaGreatDoorHomac
import Derived.Deep.QuietTactic
import Derived.Test.YtljgkfdnmikpfaaGreatDoorHomar
import Derived.Test.YtljgkfdnmikpfaaGreatDoorHomap
set_option linter.unusedVariables false
set_option linter.unusedSimpArgs false
/- Package term: Vars. -/
namespace Go.Proofs.YtljgkfdnmikpfaaGreatDoor
open Go.RowKit
set_option linter.unusedVariables false

theorem cell_one_new' {w : World} (o : Obj) (v : Value) (ty : TypeId) (j : Nat) (u : Value) (h : [v][j]? = some u) : ((w.alloc o).alloc (.cells #[v] ty)).cell? ((⟨w.heap.size + 1, 0, none⟩ : Addr).add j) = some u := by
  have h1 := cell_new (w.alloc o) #[v] ty j u h
  rwa [show (w.alloc o).heap.size = w.heap.size + 1 by simp] at h1
set_option maxHeartbeats 2000000 in
theorem index_at {w : World} {v : Value} {l : List Int} (h : Nums w v l) (n : Int) : Calls Tryz.prog 112 #[v, .int .i64 n] w fun e w' => (∃ z : Int, e = .returned (.int .i64 z) ∧ (0 ≤ z ↔ n ∈ l)) ∧ w = w' := by
  obtain ⟨a, c, rfl, h1, h2⟩ := h.len
  unfold maxLen at h2
  obtain ⟨m, hm⟩ : ∃ m, l.length = m := ⟨_, rfl⟩
  have HU := Lib.hid h
  have HM := Lib.hid hm
  rw [hm] at h1 h HU ⊢
  clear h hm
  go_enter Tryz.func112, Tryz.ntmps112
  go_wp2_with fail
  go_loop [8] (fun v => ∃ i : Nat, i ≤ m ∧ v = .int .i64 i ∧ Hid (¬ n ∈ l.take i)) (fun v => m - (intOf v).toNat)
  case atStart => exact ⟨0, Nat.zero_le _, rfl, Lib.hid (by simp)⟩
  case round =>
    obtain ⟨i, hi, rfl, HT⟩ := hrel
    by_cases hil : i < m
    · obtain ⟨x, hx⟩ : ∃ x, l[i]? = some x := ⟨_, List.getElem?_eq_getElem (by rw [HM.out]; exact hil)⟩
      obtain ⟨b, off, rfl, _, c0⟩ := HU.out.get hx
      by_cases hxn : n = x
      · subst hxn
        have HMEM := Lib.hid (List.mem_of_getElem? hx)
        clear hx HT
        go_wp2
        go_ret
        exact ⟨⟨i, rfl, fun _ => HMEM.out, fun _ => by omega⟩, rfl⟩
      · have HT2 : Hid (¬ n ∈ l.take (i + 1)) := Lib.hid (by
          rw [List.take_add_one, hx]
          intro hmem
          rcases List.mem_append.1 hmem with hh | hh
          · exact HT.out hh
          · simp at hh
            exact hxn hh)
        have hxn' : (n == x) = false := beq_false_of_ne hxn
        clear hx HT
        go_wp2
        go_round
        case rel => exact ⟨i + 1, by omega, by go_num, HT2⟩
        case measure => simp [intOf]; omega
    · have HNO : Hid (¬ n ∈ l) := Lib.hid (by
        have := HT.out
        rwa [List.take_of_length_le (by rw [HM.out]; omega)] at this)
      clear HT
      go_wp2
      go_ret
      exact ⟨⟨-1, rfl, fun h => by omega, fun h => absurd h HNO.out⟩, rfl⟩
theorem contains_at {w : World} {v : Value} {l : List Int} (h : Nums w v l) (n : Int) : Calls Tryz.prog 76 #[v, .int .i64 n] w fun e w' => e = .returned (.bool (l.contains n)) ∧ w = w' := by
  have I := index_at h n
  by_cases hm : n ∈ l
  · have hr : l.contains n = true := by simpa using hm
    rw [hr]
    have HM := Lib.hid hm
    clear hm hr h
    go_enter Tryz.func76, Tryz.ntmps76
    go_wp2_with fail
    go_fit (I)
    rintro e w' ⟨⟨z, rfl, hz⟩, rfl⟩
    have hz0 : 0 ≤ z := hz.2 HM.out
    clear hz
    go_wp2
    go_ret
    exact ⟨rfl, rfl⟩
  · have hr : l.contains n = false := by simpa using hm
    rw [hr]
    have HM := Lib.hid hm
    clear hm hr h
    go_enter Tryz.func76, Tryz.ntmps76
    go_wp2_with fail
    go_fit (I)
    rintro e w' ⟨⟨z, rfl, hz⟩, rfl⟩
    have hz0 : z < 0 := by
      have : ¬ 0 ≤ z := fun hh => HM.out (hz.1 hh)
      omega
    clear hz
    go_wp2
    go_ret
    exact ⟨ret_bool (decide_eq_false (by omega)), rfl⟩
/-- The box at its place, when a row behind it has grown. -/
theorem box_grown {w w4 : World} {B : Nat} {lv : Value} {k n : Int} {s : ByteArray} {u : Value} {o : Obj} (h : ∀ q, lv.ownBlock = some q → q < w.heap.size) (hg : ((w.alloc (box4 k n s u 27)).alloc o).grownBy w4 lv.ownBlock) :
    w4.cell? ⟨w.heap.size, 3, none⟩ = some u := by
  have h0 := hg.block w.heap.size (by simp; omega) (fun e => by have := h _ e.symm; omega)
  rw [World.cell?_of_block (w := (w.alloc (box4 k n s u 27)).alloc o) h0]
  simp
set_option maxHeartbeats 4000000 in
set_option maxRecDepth 100000 in
theorem addVars_var {W w : World} {n : Int} {s : ByteArray} {a lv : Option Addr} {lw : Value} {c : Nat} {l : List Int} (hb : Below W.heap.size W w) (hr : RowN w W.heap.size lw l) (hl : l.length ≤ 1000000) (hc : c ≤ maxLen) :
    Calls Tryz.prog 47 #[lw, .agg #[.int .i64 0, .int .i64 n, .string s, .slice a 0 c]] w fun e w' => ∃ r, e = .returned r ∧ RowN w' W.heap.size r (if l.contains n then l else l ++ [n]) ∧ Below W.heap.size W w' := by
  have hbb := bel1' w (box4 0 n s (.slice a 0 c) 27)
  have hnums := (show RowN (w.alloc (box4 0 n s (.slice a 0 c) 27)) W.heap.size lw l from row_ext hr hbb).nums
  have C := contains_at hnums n
  obtain ⟨i0, hi0, hz0, hs0, hb0⟩ := info_parts infoI64
  have hlt := hr.lt
  obtain ⟨m, hm⟩ : ∃ m, l.length = m := ⟨_, rfl⟩
  have HBW := Lib.hid hb
  have hWs : W.heap.size ≤ w.heap.size := hb.size
  have HROW := Lib.hid hr
  have HBB := Lib.hid hbb
  cases hcn : l.contains n
  · rw [hcn] at C
    have HR2 : Hid (w.ownsRow W.heap.size 2 1 lw m (l.flatMap numCells)) := Lib.hid (by have := hr; unfold RowN at this; rw [hm] at this; exact this)
    have HM := Lib.hid hm
    have HLT := Lib.hid hlt
    rw [hm] at hl
    obtain ⟨al, cl, rfl, h1⟩ := row_formk HR2.out
    clear hr hb hnums hm hlt hbb hcn
    go_enter Tryz.func47, Tryz.ntmps47
    (go_wp2_with fail; go_fit (C); rintro e w1 ⟨rfl, rfl⟩)
    go_wp2_with (at_builtin; refine wpList_append_k rfl _ _ 43 rfl W.heap.size 2 i0 (.int .i64 0) 1 8 Tryz.underlying43 hi0 hz0 hs0 (by decide) hb0 rfl (.slice al m cl) m (l.flatMap numCells) rfl ((HR2.out.alloc _).alloc _) _ 1 1 [.int .i64 n] rfl rfl (Or.inr ⟨⟨w.heap.size + 1, 0, none⟩, rfl, fun j u hu => by have := cell_one_new' (w := w) (box4 0 n s (.slice a 0 c) 27) (.int .i64 n) 2 j u hu; exact this⟩) (fun u hu => by simp at hu; subst hu; rfl) (by unfold maxLen; omega) (by omega) (by simp; omega) (m + 1) ((l ++ [n]).flatMap numCells) rfl (by rw [List.flatMap_append]; rfl) ?_; intro a4 c4 w4 hown4 hgrow4 hat4; have e3 := box_grown (B := 0) (fun q hq => (HLT.out q hq).2) hgrow4)
    have HFIN : Hid (RowN w4 W.heap.size (.slice a4 (m + 1) c4) (l ++ [n]) ∧ Below W.heap.size W w4) := Lib.hid ⟨by
      unfold RowN
      rw [List.length_append, HM.out]
      exact hown4, ((Ext.trans' HBW.out HBB.out).alloc (by simp; omega) _).grown hgrow4 (by simp; omega) (fun q hq => (HLT.out q hq).1)⟩
    clear hown4 hgrow4 hat4
    go_loop [0, 25] (fun z v => z = .slice a4 (m + 1) c4 ∧ v = .int .i64 0) (fun _ _ => 0)
    case atStart => exact ⟨rfl, rfl⟩
    case round =>
      obtain ⟨rfl, rfl⟩ := hrel
      go_wp2
      go_ret
      exact ⟨_, rfl, HFIN.out⟩
  · rw [hcn] at C
    clear hr hb hnums hm hlt hbb hcn
    go_enter Tryz.func47, Tryz.ntmps47
    (go_wp2_with fail; go_fit (C); rintro e w1 ⟨rfl, rfl⟩)
    go_wp2_with fail
    go_loop [0, 25] (fun z v => z = lw ∧ v = .int .i64 0) (fun _ _ => 0)
    case atStart => exact ⟨rfl, rfl⟩
    case round =>
      obtain ⟨rfl, rfl⟩ := hrel
      go_wp2
      go_ret
      exact ⟨_, rfl, row_ext HROW.out HBB.out, Ext.trans' HBW.out HBB.out⟩
set_option maxHeartbeats 4000000 in
set_option maxRecDepth 100000 in
theorem addVars_at : ∀ (N : Nat) (x : Tm), sizeN x ≤ N → formedT x = true → ∀ (W w : World) (v lv : Value) (l : List Int), TmV W x v → Below W.heap.size W w → RowN w W.heap.size lv l → l.length + sizeN x ≤ 1000000 →
    Calls Tryz.prog 47 #[lv, v] w fun e w' => ∃ r, e = .returned r ∧ RowN w' W.heap.size r (varsT x l) ∧ Below W.heap.size W w'
  | 0, x, h, hf, W, w, v, lv, l, hv, hb, hr, hl => by have := size_pos x; omega
  | N + 1, .mk k n s ts, h, hf, W, w, v, lv, l, hv, hb, hr, hl => by
    obtain ⟨u, rfl, hs, hki, hni, hu⟩ := tmV_iff.1 hv
    obtain ⟨a, c, rfl, h1, h2, h3⟩ := hu.len
    rw [formedT, Bool.and_eq_true] at hf
    by_cases hk : k = 0
    · have e : varsT (.mk k n s ts) l = if l.contains n then l else l ++ [n] := by rw [varsT, if_pos hk]
      rw [e]
      subst hk
      have hts : ts.length = 0 := by
        have := hf.1
        unfold plainT at this
        rw [if_pos rfl] at this
        simp at this
        simp [this.2]
      rw [hts]
      have := size_pos (.mk 0 n s ts)
      exact addVars_var (lv := none) hb hr (by omega) h2
    have e : varsT (.mk k n s ts) l = varsL ts l := by rw [varsT, if_neg hk]
    rw [e]
    have hk' : (k == 0) = false := beq_false_of_ne hk
    unfold BIG at h3
    obtain ⟨m, hm⟩ : ∃ m, ts.length = m := ⟨_, rfl⟩
    have IH := Lib.hid (fun (y : Tm) (hy : y ∈ ts) => addVars_at N y (mem_size h hy) (formed_mem hf.2 hy) W)
    have HL := Lib.hid (show l.length + sizesN ts ≤ 1000000 by rw [sizeN] at hl; omega)
    have HU := Lib.hid hu
    have HM := Lib.hid hm
    rw [hm] at h1 h3 hu HU ⊢
    have HBW := Lib.hid hb
    have HROW := Lib.hid hr
    obtain ⟨R, hR⟩ : ∃ R, varsL ts l = R := ⟨_, rfl⟩
    rw [hR]
    have HR := Lib.hid hR
    clear e hk hv hb hr hl hu hm hR h hf
    go_enter Tryz.func47, Tryz.ntmps47
    go_wp2_with fail
    go_loopw [0, 25] (fun z v wr => ∃ i : Nat, i ≤ m ∧ v = .int .i64 i ∧ Hid (RowN wr W.heap.size z (varsL (ts.take i) l)) ∧ Hid (Below W.heap.size W wr)) (fun _ v _ => m - (intOf v).toNat)
    case atStart => exact ⟨0, Nat.zero_le _, rfl, Lib.hid (by rw [List.take_zero, varsL]; exact row_ext HROW.out (bel1' _ _)), Lib.hid (Ext.trans' HBW.out (bel1' _ _))⟩
    case round =>
      obtain ⟨i, hi, rfl, HZ, HB⟩ := hrel
      by_cases hil : i < m
      · obtain ⟨y, hy⟩ : ∃ y, ts[i]? = some y := ⟨_, List.getElem?_eq_getElem (by rw [HM.out]; exact hil)⟩
        obtain ⟨b, off, k1, n1, s1, u1, rfl, hbb, _, _, _, c0, c1, c2, c3, htu, ht⟩ := HU.out.get hy
        obtain ⟨au, cu, rfl, _⟩ := htu.len
        clear htu
        have d0 := cell_later HB.out c0
        have d1 := cell_later HB.out c1
        have d2 := cell_later HB.out c2
        have d3 := cell_later HB.out c3
        have hz := sizes_drop' hy
        have hz2 := sizes_take' ts (i + 1)
        have hvl := (varss_len (ts.take i) l).1
        have hbx := bel1' wr (box4 k1 n1 s1 (.slice au y.args.length cu) 27)
        have ih := IH.out y (List.mem_of_getElem? hy) _ _ _ _ ht (HB.out.trans (hbx.mono HB.out.size)) (row_ext HZ.out hbx) (by have := HL.out; omega)
        have hst := varss_step hy l
        rw [← hst] at ih
        clear c0 c1 c2 c3 hz hz2 hvl hst ht hy hbx
        (go_wp2_with fail; go_fit (ih); rintro e w2 ⟨r2, rfl, hr2, b2⟩)
        have HZ2 := Lib.hid hr2
        have HB2 := Lib.hid b2
        clear hr2 b2 HZ HB d0 d1 d2 d3
        go_wp2
        go_roundw
        case rel => exact ⟨i + 1, by omega, by go_num, HZ2, HB2⟩
        case measure => simp [intOf]; omega
      · have hR2 : varsL (ts.take i) l = R := by rw [← HR.out, List.take_of_length_le (by rw [HM.out]; omega)]
        have HZ2 := HZ.out
        rw [hR2] at HZ2
        clear hR2 HZ HR
        go_wp2
        go_ret
        exact ⟨_, rfl, HZ2, HB.out⟩
set_option maxHeartbeats 2000000 in
theorem Vars_at (x : Tm) (w : World) (v : Value) (hv : TmV w x v) : Calls Tryz.prog 21 #[v] w fun e w' => ∃ r, e = .returned r ∧ Nums w' r (if goodT x then varsT x [] else []) ∧ Below w.heap.size w w' := by
  have G := fun w (h : TmV w x v) => Good_at x w v h
  have V := fun w1 (hb : Below w.heap.size w w1) (hs : goodT x = true) => addVars_at _ x (Nat.le_refl _) (good_parts hs).2.2 w w1 v (.slice none 0 0) [] hv hb (RowN.nil _ _) (by have := (good_parts hs).1; simp; omega)
  obtain ⟨k, n, s, u, rfl⟩ := hv.four
  have hv0 := TmV.ext (bel1' w (box4 k n s u 27)) _ _ hv
  clear hv
  cases hg : goodT x
  · rw [hg] at G
    clear V hg
    go_enter Tryz.func21, Tryz.ntmps21
    (go_wp2_with fail; go_fit (G _ hv0); rintro e w1 ⟨rfl, b1⟩)
    have B1 := Lib.hid (Ext.trans' (bel1' w _) b1)
    clear b1
    go_wp2
    go_ret
    exact ⟨_, rfl, Nums.nil _, B1.out⟩
  · rw [hg] at G
    have V' := fun w h => V w h hg
    rw [if_pos rfl]
    clear V hg
    go_enter Tryz.func21, Tryz.ntmps21
    (go_wp2_with fail; go_fit (G _ hv0); rintro e w1 ⟨rfl, b1⟩)
    obtain ⟨e0, e1, e2, e3⟩ := box_cells w 27 _ _ _ _ b1
    have B1 := Lib.hid (Ext.trans' (bel1' w _) b1)
    clear b1
    (go_wp2_with fail; go_fit (V' _ B1.out); rintro e w2 ⟨r, rfl, hr, b2⟩)
    have HN := Lib.hid hr.nums
    have B2 := Lib.hid b2
    clear hr b2
    go_wp2
    go_ret
    exact ⟨_, rfl, HN.out, B2.out⟩
end Go.Proofs.YtljgkfdnmikpfaaGreatDoor
/- The project's writer: plain; Plain. -/
namespace Go.Proofs.YtljgkfdnmikpfaaGreatDoor
open Go.RowKit
set_option linter.unusedVariables false
set_option maxRecDepth 100000

set_option maxHeartbeats 2000000 in
theorem plain_step {wb : Nat} {xs : List O} {vs : List Int} {n : Nat} (ih : ArgC 57 (PLAIN vs) n wb xs vs) : ArgC 57 (PLAIN vs) (n + 1) wb xs vs := by
  intro y hy hf M w out v h hv hz
  obtain ⟨k, nn, s, a, m, c, rfl⟩ := hv.full
  obtain ⟨w1, hw1, hb1, hz1, hx1⟩ := box_new w #[.int .i64 k, .int .i64 nn, .string s, .slice a m c] 27
  obtain ⟨b0, b1, b2, b3, bf⟩ := hx1.four
  have HC := Lib.hid (called_plain ih hf (fun z hz => by have := arg_size hz; omega) (h.later hb1) (TmV.later hb1 hv) (by rw [← PLAIN_eq]; exact hz))
  rw [← PLAIN_eq] at HC
  have HT1 := Lib.hid (show Turn M M M M w w1 from Turn.below hb1)
  clear h hv hz hb1 hx1 hz1
  go_enter Tryz.func57, Tryz.ntmps57
  go_wp2_with fail
  (try rw [hw1])
  clear hw1
  (go_wp2_with fail; go_fit (HC.out); rintro e w2 ⟨rfl, M2, g1, g2⟩)
  have G1 := Lib.hid g1
  have G2 := Lib.hid (HT1.out.trans g2)
  clear g1 g2
  go_wp2
  go_end0
  exact ⟨rfl, M2, G1.out, G2.out⟩
theorem plain_all {wb : Nat} {xs : List O} {vs : List Int} : ∀ n, ArgC 57 (PLAIN vs) n wb xs vs
  | 0 => fun y hy => by omega
  | n + 1 => plain_step (plain_all n)
end Go.Proofs.YtljgkfdnmikpfaaGreatDoor
