import Derived.Test.YtannchfoldnhcaaHayac
import Derived.Deep.QuietTactic
import Derived.Test.YtannchfoldnhcaaHayaa
import Derived.Test.YtannchfoldnhcaaHayab
import Derived.Deep.RegionHeld3
import Derived.Deep.Quiet
import Derived.Deep.LoopGhost
import Derived.Laws.ResultCell
import Derived.Maps.OwnSet
import Derived.Maps.OwnOps
import Derived.Maps.Views
import Derived.Ground.SlgnProg
import Derived.Shelf.SlicesE.Reverse
import Derived.Test.YtannchfoldnhcaaProg
import Derived.Shelf.SlGeneric
import Derived.Lib.OwnBridge
import Derived.Lib.RowBridge
import Derived.Lib.Strings
set_option linter.unusedVariables false
set_option linter.unusedSimpArgs false
/- Package term: Vars. -/
namespace Go.Proofs.Ytannchfoldnhcaa
open Go.RowKit
set_option linter.unusedVariables false

theorem cell_one_new' {w : World} (o : Obj) (v : Value) (ty : TypeId) (j : Nat) (u : Value) (h : [v][j]? = some u) : ((w.alloc o).alloc (.cells #[v] ty)).cell? ((⟨w.heap.size + 1, 0, none⟩ : Addr).add j) = some u := by
  have h1 := cell_new (w.alloc o) #[v] ty j u h
  rwa [show (w.alloc o).heap.size = w.heap.size + 1 by simp] at h1
set_option maxHeartbeats 2000000 in
theorem index_at {w : World} {v : Value} {l : List Int} (h : Nums w v l) (n : Int) : Calls Try.prog 87 #[v, .int .i64 n] w fun e w' => (∃ z : Int, e = .returned (.int .i64 z) ∧ (0 ≤ z ↔ n ∈ l)) ∧ w = w' := by
  obtain ⟨a, c, rfl, h1, h2⟩ := h.len
  unfold maxLen at h2
  obtain ⟨m, hm⟩ : ∃ m, l.length = m := ⟨_, rfl⟩
  have HU := Lib.hid h
  have HM := Lib.hid hm
  rw [hm] at h1 h HU ⊢
  clear h hm
  go_enter Try.func87, Try.ntmps87
  go_wp2_with fail
  go_loop [8] (fun v => ∃ i : Nat, i ≤ m ∧ v = .int .i64 i ∧ Hid (¬ n ∈ l.take i)) (fun v => m - (intOf v).toNat)
  case atStart => exact ⟨0, Nat.zero_le _, rfl, Lib.hid (by simp)⟩
  case round =>
    obtain ⟨i, hi, rfl, HT⟩ := hrel
    by_cases hil : i < m
    · obtain ⟨x, hx⟩ : ∃ x, l[i]? = some x := ⟨_, List.getElem?_eq_getElem (by rw [HM.out]; exact hil)⟩
      obtain ⟨b, off, rfl, _, c0⟩ := HU.out.get hx
      by_cases hxn : n = x
      · subst hxn
        have HMEM := Lib.hid (List.mem_of_getElem? hx)
        clear hx HT
        go_wp2
        go_ret
        exact ⟨⟨i, rfl, fun _ => HMEM.out, fun _ => by omega⟩, rfl⟩
      · have HT2 : Hid (¬ n ∈ l.take (i + 1)) := Lib.hid (by
          rw [List.take_add_one, hx]
          intro hmem
          rcases List.mem_append.1 hmem with hh | hh
          · exact HT.out hh
          · simp at hh
            exact hxn hh)
        have hxn' : (n == x) = false := beq_false_of_ne hxn
        clear hx HT
        go_wp2
        go_round
        case rel => exact ⟨i + 1, by omega, by go_num, HT2⟩
        case measure => simp [intOf]; omega
    · have HNO : Hid (¬ n ∈ l) := Lib.hid (by
        have := HT.out
        rwa [List.take_of_length_le (by rw [HM.out]; omega)] at this)
      clear HT
      go_wp2
      go_ret
      exact ⟨⟨-1, rfl, fun h => by omega, fun h => absurd h HNO.out⟩, rfl⟩
theorem contains_at {w : World} {v : Value} {l : List Int} (h : Nums w v l) (n : Int) : Calls Try.prog 73 #[v, .int .i64 n] w fun e w' => e = .returned (.bool (l.contains n)) ∧ w = w' := by
  have I := index_at h n
  by_cases hm : n ∈ l
  · have hr : l.contains n = true := by simpa using hm
    rw [hr]
    have HM := Lib.hid hm
    clear hm hr h
    go_enter Try.func73, Try.ntmps73
    go_wp2_with fail
    go_fit (I)
    rintro e w' ⟨⟨z, rfl, hz⟩, rfl⟩
    have hz0 : 0 ≤ z := hz.2 HM.out
    clear hz
    go_wp2
    go_ret
    exact ⟨rfl, rfl⟩
  · have hr : l.contains n = false := by simpa using hm
    rw [hr]
    have HM := Lib.hid hm
    clear hm hr h
    go_enter Try.func73, Try.ntmps73
    go_wp2_with fail
    go_fit (I)
    rintro e w' ⟨⟨z, rfl, hz⟩, rfl⟩
    have hz0 : z < 0 := by
      have : ¬ 0 ≤ z := fun hh => HM.out (hz.1 hh)
      omega
    clear hz
    go_wp2
    go_ret
    exact ⟨ret_bool (decide_eq_false (by omega)), rfl⟩
/-- The box at its place, when a row behind it has grown. -/
theorem box_grown {w w4 : World} {B : Nat} {lv : Value} {k n : Int} {s : ByteArray} {u : Value} {o : Obj} (h : ∀ q, lv.ownBlock = some q → q < w.heap.size) (hg : ((w.alloc (box4 k n s u 31)).alloc o).grownBy w4 lv.ownBlock) :
    w4.cell? ⟨w.heap.size, 3, none⟩ = some u := by
  have h0 := hg.block w.heap.size (by simp; omega) (fun e => by have := h _ e.symm; omega)
  rw [World.cell?_of_block (w := (w.alloc (box4 k n s u 31)).alloc o) h0]
  simp
set_option maxHeartbeats 4000000 in
set_option maxRecDepth 100000 in
theorem addVars_var {W w : World} {n : Int} {s : ByteArray} {a lv : Option Addr} {lw : Value} {c : Nat} {l : List Int} (hb : Below W.heap.size W w) (hr : RowN w W.heap.size lw l) (hl : l.length ≤ 1000000) (hc : c ≤ maxLen) :
    Calls Try.prog 49 #[lw, .agg #[.int .i64 0, .int .i64 n, .string s, .slice a 0 c]] w fun e w' => ∃ r, e = .returned r ∧ RowN w' W.heap.size r (if l.contains n then l else l ++ [n]) ∧ Below W.heap.size W w' := by
  have hbb := bel1' w (box4 0 n s (.slice a 0 c) 31)
  have hnums := (show RowN (w.alloc (box4 0 n s (.slice a 0 c) 31)) W.heap.size lw l from row_ext hr hbb).nums
  have C := contains_at hnums n
  obtain ⟨i0, hi0, hz0, hs0, hb0⟩ := info_parts infoI64
  have hlt := hr.lt
  obtain ⟨m, hm⟩ : ∃ m, l.length = m := ⟨_, rfl⟩
  have HBW := Lib.hid hb
  have hWs : W.heap.size ≤ w.heap.size := hb.size
  have HROW := Lib.hid hr
  have HBB := Lib.hid hbb
  cases hcn : l.contains n
  · rw [hcn] at C
    have HR2 : Hid (w.ownsRow W.heap.size 2 1 lw m (l.flatMap numCells)) := Lib.hid (by have := hr; unfold RowN at this; rw [hm] at this; exact this)
    have HM := Lib.hid hm
    have HLT := Lib.hid hlt
    rw [hm] at hl
    obtain ⟨al, cl, rfl, h1⟩ := row_formk HR2.out
    clear hr hb hnums hm hlt hbb hcn
    go_enter Try.func49, Try.ntmps49
    (go_wp2_with fail; go_fit (C); rintro e w1 ⟨rfl, rfl⟩)
    go_wp2_with (at_builtin; refine wpList_append_k rfl _ _ 57 rfl W.heap.size 2 i0 (.int .i64 0) 1 8 Try.underlying57 hi0 hz0 hs0 (by decide) hb0 rfl (.slice al m cl) m (l.flatMap numCells) rfl ((HR2.out.alloc _).alloc _) _ 1 1 [.int .i64 n] rfl rfl (Or.inr ⟨⟨w.heap.size + 1, 0, none⟩, rfl, fun j u hu => by have := cell_one_new' (w := w) (box4 0 n s (.slice a 0 c) 31) (.int .i64 n) 2 j u hu; exact this⟩) (fun u hu => by simp at hu; subst hu; rfl) (by unfold maxLen; omega) (by omega) (by simp; omega) (m + 1) ((l ++ [n]).flatMap numCells) rfl (by rw [List.flatMap_append]; rfl) ?_; intro a4 c4 w4 hown4 hgrow4 hat4; have e3 := box_grown (B := 0) (fun q hq => (HLT.out q hq).2) hgrow4)
    have HFIN : Hid (RowN w4 W.heap.size (.slice a4 (m + 1) c4) (l ++ [n]) ∧ Below W.heap.size W w4) := Lib.hid ⟨by
      unfold RowN
      rw [List.length_append, HM.out]
      exact hown4, ((Ext.trans' HBW.out HBB.out).alloc (by simp; omega) _).grown hgrow4 (by simp; omega) (fun q hq => (HLT.out q hq).1)⟩
    clear hown4 hgrow4 hat4
    go_loop [0, 25] (fun z v => z = .slice a4 (m + 1) c4 ∧ v = .int .i64 0) (fun _ _ => 0)
    case atStart => exact ⟨rfl, rfl⟩
    case round =>
      obtain ⟨rfl, rfl⟩ := hrel
      go_wp2
      go_ret
      exact ⟨_, rfl, HFIN.out⟩
  · rw [hcn] at C
    clear hr hb hnums hm hlt hbb hcn
    go_enter Try.func49, Try.ntmps49
    (go_wp2_with fail; go_fit (C); rintro e w1 ⟨rfl, rfl⟩)
    go_wp2_with fail
    go_loop [0, 25] (fun z v => z = lw ∧ v = .int .i64 0) (fun _ _ => 0)
    case atStart => exact ⟨rfl, rfl⟩
    case round =>
      obtain ⟨rfl, rfl⟩ := hrel
      go_wp2
      go_ret
      exact ⟨_, rfl, row_ext HROW.out HBB.out, Ext.trans' HBW.out HBB.out⟩
set_option maxHeartbeats 4000000 in
set_option maxRecDepth 100000 in
theorem addVars_at : ∀ (N : Nat) (x : Tm), sizeN x ≤ N → formedT x = true → ∀ (W w : World) (v lv : Value) (l : List Int), TmV W x v → Below W.heap.size W w → RowN w W.heap.size lv l → l.length + sizeN x ≤ 1000000 →
    Calls Try.prog 49 #[lv, v] w fun e w' => ∃ r, e = .returned r ∧ RowN w' W.heap.size r (varsT x l) ∧ Below W.heap.size W w'
  | 0, x, h, hf, W, w, v, lv, l, hv, hb, hr, hl => by have := size_pos x; omega
  | N + 1, .mk k n s ts, h, hf, W, w, v, lv, l, hv, hb, hr, hl => by
    obtain ⟨u, rfl, hs, hki, hni, hu⟩ := tmV_iff.1 hv
    obtain ⟨a, c, rfl, h1, h2, h3⟩ := hu.len
    rw [formedT, Bool.and_eq_true] at hf
    by_cases hk : k = 0
    · have e : varsT (.mk k n s ts) l = if l.contains n then l else l ++ [n] := by rw [varsT, if_pos hk]
      rw [e]
      subst hk
      have hts : ts.length = 0 := by
        have := hf.1
        unfold plainT at this
        rw [if_pos rfl] at this
        simp at this
        simp [this.2]
      rw [hts]
      have := size_pos (.mk 0 n s ts)
      exact addVars_var (lv := none) hb hr (by omega) h2
    have e : varsT (.mk k n s ts) l = varsL ts l := by rw [varsT, if_neg hk]
    rw [e]
    have hk' : (k == 0) = false := beq_false_of_ne hk
    unfold BIG at h3
    obtain ⟨m, hm⟩ : ∃ m, ts.length = m := ⟨_, rfl⟩
    have IH := Lib.hid (fun (y : Tm) (hy : y ∈ ts) => addVars_at N y (mem_size h hy) (formed_mem hf.2 hy) W)
    have HL := Lib.hid (show l.length + sizesN ts ≤ 1000000 by rw [sizeN] at hl; omega)
    have HU := Lib.hid hu
    have HM := Lib.hid hm
    rw [hm] at h1 h3 hu HU ⊢
    have HBW := Lib.hid hb
    have HROW := Lib.hid hr
    obtain ⟨R, hR⟩ : ∃ R, varsL ts l = R := ⟨_, rfl⟩
    rw [hR]
    have HR := Lib.hid hR
    clear e hk hv hb hr hl hu hm hR h hf
    go_enter Try.func49, Try.ntmps49
    go_wp2_with fail
    go_loopw [0, 25] (fun z v wr => ∃ i : Nat, i ≤ m ∧ v = .int .i64 i ∧ Hid (RowN wr W.heap.size z (varsL (ts.take i) l)) ∧ Hid (Below W.heap.size W wr)) (fun _ v _ => m - (intOf v).toNat)
    case atStart => exact ⟨0, Nat.zero_le _, rfl, Lib.hid (by rw [List.take_zero, varsL]; exact row_ext HROW.out (bel1' _ _)), Lib.hid (Ext.trans' HBW.out (bel1' _ _))⟩
    case round =>
      obtain ⟨i, hi, rfl, HZ, HB⟩ := hrel
      by_cases hil : i < m
      · obtain ⟨y, hy⟩ : ∃ y, ts[i]? = some y := ⟨_, List.getElem?_eq_getElem (by rw [HM.out]; exact hil)⟩
        obtain ⟨b, off, k1, n1, s1, u1, rfl, hbb, _, _, _, c0, c1, c2, c3, htu, ht⟩ := HU.out.get hy
        obtain ⟨au, cu, rfl, _⟩ := htu.len
        clear htu
        have d0 := cell_later HB.out c0
        have d1 := cell_later HB.out c1
        have d2 := cell_later HB.out c2
        have d3 := cell_later HB.out c3
        have hz := sizes_drop' hy
        have hz2 := sizes_take' ts (i + 1)
        have hvl := (varss_len (ts.take i) l).1
        have hbx := bel1' wr (box4 k1 n1 s1 (.slice au y.args.length cu) 31)
        have ih := IH.out y (List.mem_of_getElem? hy) _ _ _ _ ht (HB.out.trans (hbx.mono HB.out.size)) (row_ext HZ.out hbx) (by have := HL.out; omega)
        have hst := varss_step hy l
        rw [← hst] at ih
        clear c0 c1 c2 c3 hz hz2 hvl hst ht hy hbx
        (go_wp2_with fail; go_fit (ih); rintro e w2 ⟨r2, rfl, hr2, b2⟩)
        have HZ2 := Lib.hid hr2
        have HB2 := Lib.hid b2
        clear hr2 b2 HZ HB d0 d1 d2 d3
        go_wp2
        go_roundw
        case rel => exact ⟨i + 1, by omega, by go_num, HZ2, HB2⟩
        case measure => simp [intOf]; omega
      · have hR2 : varsL (ts.take i) l = R := by rw [← HR.out, List.take_of_length_le (by rw [HM.out]; omega)]
        have HZ2 := HZ.out
        rw [hR2] at HZ2
        clear hR2 HZ HR
        go_wp2
        go_ret
        exact ⟨_, rfl, HZ2, HB.out⟩
set_option maxHeartbeats 2000000 in
theorem Vars_at (x : Tm) (w : World) (v : Value) (hv : TmV w x v) : Calls Try.prog 26 #[v] w fun e w' => ∃ r, e = .returned r ∧ Nums w' r (if goodT x then varsT x [] else []) ∧ Below w.heap.size w w' := by
  have G := fun w (h : TmV w x v) => Good_at x w v h
  have V := fun w1 (hb : Below w.heap.size w w1) (hs : goodT x = true) => addVars_at _ x (Nat.le_refl _) (good_parts hs).2.2 w w1 v (.slice none 0 0) [] hv hb (RowN.nil _ _) (by have := (good_parts hs).1; simp; omega)
  obtain ⟨k, n, s, u, rfl⟩ := hv.four
  have hv0 := TmV.ext (bel1' w (box4 k n s u 31)) _ _ hv
  clear hv
  cases hg : goodT x
  · rw [hg] at G
    clear V hg
    go_enter Try.func26, Try.ntmps26
    (go_wp2_with fail; go_fit (G _ hv0); rintro e w1 ⟨rfl, b1⟩)
    have B1 := Lib.hid (Ext.trans' (bel1' w _) b1)
    clear b1
    go_wp2
    go_ret
    exact ⟨_, rfl, Nums.nil _, B1.out⟩
  · rw [hg] at G
    have V' := fun w h => V w h hg
    rw [if_pos rfl]
    clear V hg
    go_enter Try.func26, Try.ntmps26
    (go_wp2_with fail; go_fit (G _ hv0); rintro e w1 ⟨rfl, b1⟩)
    obtain ⟨e0, e1, e2, e3⟩ := box_cells w 31 _ _ _ _ b1
    have B1 := Lib.hid (Ext.trans' (bel1' w _) b1)
    clear b1
    (go_wp2_with fail; go_fit (V' _ B1.out); rintro e w2 ⟨r, rfl, hr, b2⟩)
    have HN := Lib.hid hr.nums
    have B2 := Lib.hid b2
    clear hr b2
    go_wp2
    go_ret
    exact ⟨_, rfl, HN.out, B2.out⟩
end Go.Proofs.Ytannchfoldnhcaa
/- Package bind: addVars, fits. -/
namespace Go.Proofs.Ytannchfoldnhcaa
open Go.RowKit
set_option linter.unusedVariables false

section
variable {V w : World} {F : List Nat} {p : Value} {N : Nat} {R : List (Int × Tm)}
mutual
theorem occ_i64 {w : World} : ∀ (x : Tm) (v : Value), TmV w x v → ∀ m ∈ occT x, I64 m
  | .mk k n s ts, v, h, m, hm => by
    rw [TmV] at h
    obtain ⟨a, c, h1, h2, h3, h4, h5, h6, h7, h8⟩ := h
    by_cases hk : k = 0
    · subst hk
      rw [occ_var] at hm
      simp at hm
      subst hm
      exact h7
    · rw [occ_not hk] at hm
      rcases h8 with h8 | ⟨b, off, e1, e2, e3⟩
      · subst h8; simp [occL] at hm
      · exact occs_i64 ts b off e3 m hm
theorem occs_i64 {w : World} : ∀ (l : List Tm) (b off : Nat), TmRow w l b off → ∀ m ∈ occL l, I64 m
  | [], b, off, _, m, hm => by simp [occL] at hm
  | x :: r, b, off, h, m, hm => by
    rw [TmRow] at h
    obtain ⟨⟨c0, c1, c2, c3, h0, h1, h2, h3, h4⟩, h5⟩ := h
    rw [occL] at hm
    rcases List.mem_append.1 hm with hm | hm
    · exact occ_i64 x _ h4 m hm
    · exact occs_i64 r b (off + 4) h5 m hm
end
end
end Go.Proofs.Ytannchfoldnhcaa
/- Package bind: whole. -/
namespace Go.Proofs.Ytannchfoldnhcaa
open Go.RowKit
set_option linter.unusedVariables false

/-- All that lay below n is not looked at. -/
abbrev under (n : Nat) : Nat → Bool := fun k => decide (k < n)
theorem touch_one (w : World) (b o : Nat) (u : Value) : Touch [b] w (w.setCell ⟨b, o, none⟩ u) :=
  ⟨rfl, rfl, rfl, by simp [World.setCell], fun k _ hn => Below.heap_setCell w _ u k (fun e => hn (by simp [e]))⟩
section
variable {V : World} {F : List Nat} {p : Value} {N : Nat} {R : List (Int × Tm)}
end
end Go.Proofs.Ytannchfoldnhcaa
/- Package bind: whole, walked. -/
namespace Go.Proofs.Ytannchfoldnhcaa
open Go.RowKit
set_option linter.unusedVariables false

theorem sizes_map_drop {S : Int → Tm} {ts : List Tm} {i : Nat} {y : Tm} (h : ts[i]? = some y) : (subL S ts)[i]? = some (subT S y) := by rw [subL_map, List.getElem?_map, h]; rfl
section
variable {V : World} {F : List Nat} {p : Value} {N : Nat} {R : List (Int × Tm)}
end
end Go.Proofs.Ytannchfoldnhcaa
/- Package bind: Whole; New, Fresh. -/
namespace Go.Proofs.Ytannchfoldnhcaa
open Go.RowKit
set_option linter.unusedVariables false

theorem zero_tm (w : World) : TmV w (varV 0) (.agg #[.int .i64 0, .int .i64 0, .string ⟨#[]⟩, .slice none 0 0]) := leaf_tm w (by unfold I64; omega) (by unfold I64; omega) (by unfold BIG; decide)
section
variable {V w : World} {F : List Nat} {p : Value} {N : Nat} {R : List (Int × Tm)}
end
end Go.Proofs.Ytannchfoldnhcaa
/- Package bind: reaches. -/
namespace Go.Proofs.Ytannchfoldnhcaa
open Go.RowKit Go.Maps
set_option linter.unusedVariables false

theorem lKeyed : Keyed Try.prog 2 := int_keyed Try.underlying2
theorem wf_i64 {n : Int} (h : I64 n) : (Lit.int .i64 n).wf = true := WalkArith.wf_i64 h
theorem lKey {n : Int} (h : I64 n) : keyOf Try.prog 2 (.int .i64 n) = some (.int .i64 n) := keyOf_int_mk Try.underlying2 (wf_i64 h)
section
variable {V w : World} {F : List Nat} {p : Value} {N : Nat} {R : List (Int × Tm)}
end
end Go.Proofs.Ytannchfoldnhcaa
/- Terms: how deep one is asked of. -/
namespace Go.Proofs.Ytannchfoldnhcaa
open Go.RowKit
set_option linter.unusedVariables false

mutual
def deepT : Tm → Int → Bool
  | .mk _ _ _ ts, left => if left < 1 ∨ 12 < ts.length then true else deepsT ts (left - 1)
def deepsT : List Tm → Int → Bool
  | [], _ => false
  | x :: r, left => deepT x left || deepsT r left
end
end Go.Proofs.Ytannchfoldnhcaa
/- Stage 11's laws: BindWhole. -/
namespace Go.Proofs.Ytannchfoldnhcaa
open Go.RowKit
set_option linter.unusedVariables false

theorem six : ∀ i : Nat, i < 6 → i < 65536 := by omega
end Go.Proofs.Ytannchfoldnhcaa
/- Terms: the document's Size, Depth. -/
namespace Go.Proofs.Ytannchfoldnhcaa
open Go.RowKit
set_option linter.unusedVariables false

theorem sizes_drop : ∀ {ts : List Tm} {i : Nat} {y : Tm}, ts[i]? = some y → sizesN (ts.take (i + 1)) = sizesN (ts.take i) + sizeN y
  | x :: r, 0, y, h => by
    simp at h; subst h
    simp [sizesN]
  | x :: r, i + 1, y, h => by
    have := sizes_drop (ts := r) (i := i) (y := y) (by simpa using h)
    simp only [List.take_succ_cons, sizesN, this]
    omega
  | [], i, y, h => by simp at h
theorem depths_drop : ∀ {ts : List Tm} {i : Nat} {y : Tm}, ts[i]? = some y → depthsN (ts.take (i + 1)) = max (depthsN (ts.take i)) (depthN y)
  | x :: r, 0, y, h => by
    simp at h; subst h
    simp [depthsN]
  | x :: r, i + 1, y, h => by
    have := depths_drop (ts := r) (i := i) (y := y) (by simpa using h)
    simp only [List.take_succ_cons, depthsN, this]
    omega
  | [], i, y, h => by simp at h
theorem sizes_take (ts : List Tm) (i : Nat) : sizesN (ts.take i) ≤ sizesN ts := by
  induction ts generalizing i with
  | nil => simp
  | cons x r ih =>
    cases i with
    | zero => simp [sizesN]
    | succ i =>
      simp only [List.take_succ_cons, sizesN]
      have := ih i
      omega
set_option maxHeartbeats 2000000 in
set_option maxRecDepth 100000 in
theorem rsize_at : ∀ (N : Nat) (x : Tm), sizeN x ≤ N → ∀ (q : Nat), q ≤ 1000000 → ∀ (w : World) (v : Value), TmV w x v →
    Calls Try.prog 56 #[v, .int .i64 q] w fun e w' => e = .returned (.int .i64 (min (sizeN x) (q + 1) : Nat)) ∧ Below w.heap.size w w'
  | 0, x, h, q, hq, w, v, hv => by have := size_pos x; omega
  | N + 1, .mk k n s ts, h, q, hq, w, v, hv => by
    obtain ⟨u, rfl, hs, hk, hn, hu⟩ := tmV_iff.1 hv
    obtain ⟨a, c, rfl, h1, h2, h3⟩ := hu.len
    unfold BIG at h3
    obtain ⟨m, hm⟩ : ∃ m, ts.length = m := ⟨_, rfl⟩
    have IH := Lib.hid (fun (y : Tm) (hy : y ∈ ts) => rsize_at N y (mem_size h hy))
    have HU := Lib.hid hu
    have HM := Lib.hid hm
    rw [hm] at h1 h3 hu HU ⊢
    obtain ⟨r, hr⟩ : ∃ r, min (sizeN (.mk k n s ts)) (q + 1) = r := ⟨_, rfl⟩
    rw [hr]
    have HR := Lib.hid (show min (sizesN ts + 1) (q + 1) = r by rw [← hr, sizeN])
    clear hv hu hm hr h
    go_enter Try.func56, Try.ntmps56
    go_wp2_with fail
    go_loopw [5, 6] (fun z v wr => ∃ i t : Nat, i ≤ m ∧ v = .int .i64 i ∧ z = .int .i64 t ∧ Hid (t = min (sizesN (ts.take i) + 1) (q + 1)) ∧ t ≤ q + 1 ∧ Hid (Below (w.alloc (.cells #[.int .i64 k, .int .i64 n, .string s, .slice a m c] 54)).heap.size (w.alloc (.cells #[.int .i64 k, .int .i64 n, .string s, .slice a m c] 54)) wr)) (fun _ v _ => m - (intOf v).toNat)
    case atStart => exact ⟨0, 1, Nat.zero_le _, rfl, rfl, Lib.hid (by simp [sizesN]), by omega, Lib.hid (Below.refl _ _)⟩
    case round =>
      obtain ⟨i, t, hi, rfl, rfl, HT, ht, HB⟩ := hrel
      obtain ⟨e0, e1, e2, e3⟩ := box_cells w 54 _ _ _ _ HB.out
      have HBW := Lib.hid (Ext.trans' (bel1' w _) HB.out)
      by_cases hil : i < m
      · obtain ⟨y, hy⟩ : ∃ y, ts[i]? = some y := ⟨_, List.getElem?_eq_getElem (by rw [HM.out]; exact hil)⟩
        have hst := sizes_take ts (i + 1)
        have hds := sizes_drop hy
        by_cases htq : t ≤ q
        · obtain ⟨b, off, k', n', s', u', rfl, hbb, _, _, _, c0, c1, c2, c3, _, hty⟩ := (HU.out.ext HBW.out).get hy
          obtain ⟨d, hd⟩ : ∃ d, q - t = d := ⟨_, rfl⟩
          have hqt : (q : Int) - t = d := by omega
          have ih := IH.out y (List.mem_of_getElem? hy) d (by omega) wr _ hty
          obtain ⟨z, hz⟩ : ∃ z, min (sizeN y) (d + 1) = z := ⟨_, rfl⟩
          rw [hz] at ih
          have HN : Hid (t + z = min (sizesN (ts.take (i + 1)) + 1) (q + 1)) := Lib.hid (by
            have := HT.out
            rw [hds]
            omega)
          have hzd : z ≤ d + 1 := by omega
          have hzq : t + z ≤ q + 1 := by omega
          clear hst hds hz hy hty hd HT
          (go_wp2_with fail; go_fit (ih); rintro e w2 ⟨rfl, b2⟩)
          have B2 := Lib.hid (Ext.trans' HB.out b2)
          clear b2
          go_wp2
          go_roundw
          case rel => exact ⟨i + 1, t + z, by omega, by go_num, by go_num, HN, hzq, B2⟩
          case measure => simp [intOf]; omega
        · have hrt : t = r := by
            have a1 := HT.out
            have a2 := HR.out
            have a3 := sizes_take ts i
            omega
          subst hrt
          clear hst hds hy
          go_wp2
          go_ret
          exact ⟨rfl, HBW.out⟩
      · have hrt : t = r := by
          have a1 := HT.out
          have a2 := HR.out
          rw [List.take_of_length_le (by rw [HM.out]; omega)] at a1
          omega
        subst hrt
        go_wp2
        go_ret
        exact ⟨rfl, HBW.out⟩
set_option maxHeartbeats 2000000 in
set_option maxRecDepth 100000 in
theorem rdepth_at : ∀ (q : Nat) (x : Tm), q ≤ 1000000 → ∀ (w : World) (v : Value), TmV w x v →
    Calls Try.prog 57 #[v, .int .i64 q] w fun e w' => e = .returned (.int .i64 (min (depthN x) (q + 1) : Nat)) ∧ Below w.heap.size w w'
  | 0, .mk k n s ts, hq, w, v, hv => by
    obtain ⟨u, rfl, hs, hk, hn, hu⟩ := tmV_iff.1 hv
    rw [show min (depthN (.mk k n s ts)) (0 + 1) = 1 by have := depth_pos (.mk k n s ts); omega]
    go_enter Try.func57, Try.ntmps57
    go_wp2
    go_ret
    exact ⟨rfl, bel1' _ _⟩
  | q + 1, .mk k n s ts, hq, w, v, hv => by
    obtain ⟨u, rfl, hs, hk, hn, hu⟩ := tmV_iff.1 hv
    obtain ⟨a, c, rfl, h1, h2, h3⟩ := hu.len
    unfold BIG at h3
    obtain ⟨m, hm⟩ : ∃ m, ts.length = m := ⟨_, rfl⟩
    have IH := Lib.hid (fun (y : Tm) => rdepth_at q y (by omega))
    have HU := Lib.hid hu
    have HM := Lib.hid hm
    rw [hm] at h1 h3 hu HU ⊢
    obtain ⟨r, hr⟩ : ∃ r, min (depthN (.mk k n s ts)) (q + 1 + 1) = r := ⟨_, rfl⟩
    rw [hr]
    have HR := Lib.hid (show min (depthsN ts + 1) (q + 2) = r by rw [← hr, depthN])
    clear hv hu hm hr
    obtain ⟨Q, hQ⟩ : ∃ Q : Int, ((q + 1 : Nat) : Int) = Q := ⟨_, rfl⟩
    rw [hQ]
    have hq1 : Q - 1 = q := by omega
    have hQ0 : ¬ Q ≤ 0 := by omega
    have hQb : Q ≤ 1000000 := by omega
    clear hQ
    go_enter Try.func57, Try.ntmps57
    go_wp2_with fail
    go_loopw [5, 6] (fun z v wr => ∃ i t : Nat, i ≤ m ∧ v = .int .i64 i ∧ z = .int .i64 t ∧ Hid (t = min (depthsN (ts.take i)) (q + 1)) ∧ t ≤ q + 1 ∧ Hid (Below (w.alloc (.cells #[.int .i64 k, .int .i64 n, .string s, .slice a m c] 54)).heap.size (w.alloc (.cells #[.int .i64 k, .int .i64 n, .string s, .slice a m c] 54)) wr)) (fun _ v _ => m - (intOf v).toNat)
    case atStart => exact ⟨0, 0, Nat.zero_le _, rfl, rfl, Lib.hid (by simp [depthsN]), by omega, Lib.hid (Below.refl _ _)⟩
    case round =>
      obtain ⟨i, t, hi, rfl, rfl, HT, ht, HB⟩ := hrel
      obtain ⟨e0, e1, e2, e3⟩ := box_cells w 54 _ _ _ _ HB.out
      have HBW := Lib.hid (Ext.trans' (bel1' w _) HB.out)
      by_cases hil : i < m
      · obtain ⟨y, hy⟩ : ∃ y, ts[i]? = some y := ⟨_, List.getElem?_eq_getElem (by rw [HM.out]; exact hil)⟩
        have hds := depths_drop hy
        obtain ⟨b, off, k', n', s', u', rfl, hbb, _, _, _, c0, c1, c2, c3, _, hty⟩ := (HU.out.ext HBW.out).get hy
        have ih := IH.out y wr _ hty
        obtain ⟨z, hz⟩ : ∃ z, min (depthN y) (q + 1) = z := ⟨_, rfl⟩
        rw [hz] at ih
        have HN : Hid (max t z = min (depthsN (ts.take (i + 1))) (q + 1)) := Lib.hid (by
          have := HT.out
          rw [hds]
          omega)
        have hzd : z ≤ q + 1 := by omega
        clear hds hz hy hty HT
        by_cases htz : t < z
        · have HM2 := Lib.hid (show max t z = z by omega)
          (go_wp2_with fail; go_fit (ih); rintro e w2 ⟨rfl, b2⟩)
          have B2 := Lib.hid (Ext.trans' HB.out b2)
          clear b2
          go_wp2
          go_roundw
          case rel => exact ⟨i + 1, z, by omega, by go_num, rfl, Lib.hid (by rw [← HN.out, HM2.out]), hzd, B2⟩
          case measure => simp [intOf]; omega
        · have HM2 := Lib.hid (show max t z = t by omega)
          (go_wp2_with fail; go_fit (ih); rintro e w2 ⟨rfl, b2⟩)
          have B2 := Lib.hid (Ext.trans' HB.out b2)
          clear b2
          go_wp2
          go_roundw
          case rel => exact ⟨i + 1, t, by omega, by go_num, rfl, Lib.hid (by rw [← HN.out, HM2.out]), ht, B2⟩
          case measure => simp [intOf]; omega
      · have hrt : t + 1 = r := by
          have a1 := HT.out
          have a2 := HR.out
          rw [List.take_of_length_le (by rw [HM.out]; omega)] at a1
          omega
        subst hrt
        go_wp2
        go_ret
        exact ⟨ret_int (by omega), HBW.out⟩
end Go.Proofs.Ytannchfoldnhcaa
/- Terms: which the document's own calls good. -/
namespace Go.Proofs.Ytannchfoldnhcaa
open Go.RowKit
set_option linter.unusedVariables false

theorem formed_mk (k n : Int) (s : ByteArray) (ts : List Tm) : formedT (.mk k n s ts) = (plainT k n s.data.toList ts.length && formedL ts) := by rw [formedT]
theorem formed_no {k n : Int} {s : ByteArray} {ts : List Tm} (h : plainT k n s.data.toList ts.length = false) : formedT (.mk k n s ts) = false := by rw [formed_mk, h]; rfl
theorem formed_leaf {k n : Int} {s : ByteArray} (h : plainT k n s.data.toList 0 = true) : formedT (.mk k n s []) = true := by rw [formed_mk]; show (plainT k n s.data.toList 0 && formedL []) = true; rw [h, formedL]; rfl
theorem isEmpty_size (s : ByteArray) : s.data.toList.isEmpty = decide (s.size = 0) := by
  have h : s.data.toList.length = s.size := rfl
  cases hq : s.data.toList with
  | nil => rw [hq] at h; simp at h; simp [← h]
  | cons a r =>
    rw [hq, List.length_cons] at h
    rw [decide_eq_false (by omega)]
    rfl
theorem toList_empty {s : ByteArray} (h : s.size = 0) : s.toList.isEmpty = true := by rw [Lib.toList_data, isEmpty_size]; simpa using h
theorem toList_some {s : ByteArray} (h : ¬ s.size = 0) : s.toList.isEmpty = false := by rw [Lib.toList_data, isEmpty_size]; simpa using h
theorem letter_eq : ∀ c : UInt8, letterB c = (((c.toNat : Int) == 9) || ((c.toNat : Int) == 10) || (!decide ((c.toNat : Int) < 32) && !decide (126 < (c.toNat : Int)))) := by
  intro c
  have h : ((List.range 256).all fun n => letterB (UInt8.ofNat n) == ((((UInt8.ofNat n).toNat : Int) == 9) || (((UInt8.ofNat n).toNat : Int) == 10) || (!decide (((UInt8.ofNat n).toNat : Int) < 32) && !decide (126 < ((UInt8.ofNat n).toNat : Int))))) = true := by decide +kernel
  have h1 := List.all_eq_true.1 h c.toNat (List.mem_range.2 c.toNat_lt)
  have e : UInt8.ofNat c.toNat = c := by simp
  rw [e] at h1
  exact eq_of_beq h1
set_option maxHeartbeats 4000000 in
set_option maxRecDepth 100000 in
/-- A name with its Args: the letters, then the Args. -/
theorem rformed_two {s : ByteArray} {ts : List Tm} {w : World} {a : Option Addr} {m c : Nat} (hs : s.size ≤ 140737488351232) (h1 : m ≤ c) (h2 : c ≤ maxLen) (h3 : m * 56 ≤ 140737488351232) (g2 : ¬ 64 < s.size) (g3 : ¬ 8 < m) (HM : Hid (ts.length = m)) (HU : Hid (Tms w (.slice a m c) ts))
    (HP : Hid (formedT (.mk 2 0 s ts) = (s.data.toList.all letterB && formedL ts)))
    (IH : Hid (∀ y ∈ ts, ∀ (w : World) (v : Value), TmV w y v → Calls Try.prog 58 #[v] w fun e w' => e = .returned (.bool (formedT y)) ∧ Below w.heap.size w w')) :
    Calls Try.prog 58 #[.agg #[.int .i64 2, .int .i64 0, .string s, .slice a m c]] w fun e w' => e = .returned (.bool (formedT (.mk 2 0 s ts))) ∧ Below w.heap.size w w' := by
  obtain ⟨r, hr⟩ : ∃ r, formedT (.mk 2 0 s ts) = r := ⟨_, rfl⟩
  rw [hr]
  have HR := Lib.hid (HP.out.symm.trans hr)
  clear hr HP
  go_enter Try.func58, Try.ntmps58
  go_wp2_with fail
  go_loopw [3] (fun z wr => ∃ i : Nat, i ≤ s.size ∧ z = .int .i64 i ∧ Hid (∀ j (hj : j < s.size), j < i → letterB s[j] = true) ∧ wr = w.alloc (.cells #[.int .i64 2, .int .i64 0, .string s, .slice a m c] 54)) (fun z _ => s.size - (intOf z).toNat)
  case atStart => exact ⟨0, Nat.zero_le _, rfl, Lib.hid (fun j _ h => by omega), rfl⟩
  case round =>
    obtain ⟨i, hi, rfl, HL, rfl⟩ := hrel
    by_cases hil : i < s.size
    · cases hq : letterB s[i]
      · have hlq := letter_eq s[i]
        rw [hq] at hlq
        have hall : s.data.toList.all letterB = false := by
          rw [List.all_eq_false]
          exact ⟨s.data.toList[i]'hil, List.getElem_mem _, by show ¬ letterB s[i] = true; rw [hq]; simp⟩
        have hrf : r = false := by rw [← HR.out, hall]; rfl
        subst hrf
        obtain ⟨z, hz⟩ : ∃ z : Int, (s[i].toNat : Int) = z := ⟨_, rfl⟩
        rw [hz] at hlq
        have e9 : (z == 9) = false := by
          cases h : (z == 9)
          · rfl
          · rw [h] at hlq; cases hlq
        have e10 : (z == 10) = false := by
          cases h : (z == 10)
          · rfl
          · rw [h, Bool.or_true] at hlq; cases hlq
        rw [e9, e10, Bool.false_or, Bool.false_or] at hlq
        have n9 : (z != 9) = true := by unfold bne; rw [e9]; rfl
        have n10 : (z != 10) = true := by unfold bne; rw [e10]; rfl
        clear e9 e10
        clear hall hq HR HL
        by_cases h32 : z < 32
        · clear hlq
          go_wp2
          go_ret
          exact ⟨rfl, bel1' _ _⟩
        · have h126 : 126 < z := by
            simp [h32] at hlq
            omega
          clear hlq
          go_wp2
          go_ret
          exact ⟨rfl, bel1' _ _⟩
      · have hlq := letter_eq s[i]
        rw [hq] at hlq
        have HN : Hid (∀ j (hj : j < s.size), j < i + 1 → letterB s[j] = true) := Lib.hid (fun j hj h => by
          by_cases e : j = i
          · subst e; exact hq
          · exact HL.out j hj (by omega))
        obtain ⟨z, hz⟩ : ∃ z : Int, (s[i].toNat : Int) = z := ⟨_, rfl⟩
        rw [hz] at hlq
        clear hq HL
        by_cases e9 : z = 9
        · subst e9
          clear hlq
          go_wp2
          go_roundw
          case rel => exact ⟨i + 1, by omega, by go_num, HN, trivial⟩
          case measure => simp [intOf]; omega
        have e9' : (z == 9) = false := beq_false_of_ne e9
        by_cases e10 : z = 10
        · subst e10
          clear hlq
          go_wp2
          go_roundw
          case rel => exact ⟨i + 1, by omega, by go_num, HN, trivial⟩
          case measure => simp [intOf]; omega
        have e10' : (z == 10) = false := beq_false_of_ne e10
        rw [e9', e10'] at hlq
        have h32 : ¬ z < 32 := fun hh => by simp [hh] at hlq
        have h126 : ¬ 126 < z := fun hh => by simp [hh] at hlq
        have n9 : (z != 9) = true := by unfold bne; rw [e9']; rfl
        have n10 : (z != 10) = true := by unfold bne; rw [e10']; rfl
        clear hlq e9 e10 e9' e10'
        go_wp2
        go_roundw
        case rel => exact ⟨i + 1, by omega, by go_num, HN, trivial⟩
        case measure => simp [intOf]; omega
    · have hall : s.data.toList.all letterB = true := by
        rw [List.all_eq_true]
        intro x hx
        obtain ⟨j, hj, rfl⟩ := List.getElem_of_mem hx
        exact HL.out j hj (by have : j < s.size := hj; omega)
      have HR2 := Lib.hid (show formedL ts = r by rw [← HR.out, hall]; rfl)
      clear hall HR HL
      go_wp2_with fail
      go_loopw [5] (fun v wr => ∃ i : Nat, i ≤ m ∧ v = .int .i64 i ∧ Hid (formedL (ts.drop i) = r) ∧ Hid (Below (w.alloc (.cells #[.int .i64 2, .int .i64 0, .string s, .slice a m c] 54)).heap.size (w.alloc (.cells #[.int .i64 2, .int .i64 0, .string s, .slice a m c] 54)) wr)) (fun v _ => m - (intOf v).toNat)
      case atStart => exact ⟨0, Nat.zero_le _, rfl, Lib.hid (by rw [List.drop_zero]; exact HR2.out), Lib.hid (Below.refl _ _)⟩
      case round =>
        obtain ⟨i, hi, rfl, HD, HB⟩ := hrel
        obtain ⟨e0, e1, e2, e3⟩ := box_cells w 54 _ _ _ _ HB.out
        by_cases hil : i < m
        · obtain ⟨y, hy⟩ : ∃ y, ts[i]? = some y := ⟨_, List.getElem?_eq_getElem (by rw [HM.out]; exact hil)⟩
          have hdr : ts.drop i = y :: ts.drop (i + 1) := by
            obtain ⟨hlt', rfl⟩ := List.getElem?_eq_some_iff.1 hy
            exact List.drop_eq_getElem_cons hlt'
          have hd := HD.out
          rw [hdr, formedL] at hd
          have HBW := Lib.hid (Ext.trans' (bel1' w _) HB.out)
          obtain ⟨b, off, k', n', s', u', rfl, hbb, _, _, _, c0, c1, c2, c3, _, ht⟩ := (HU.out.ext HBW.out).get hy
          have ih := IH.out y (List.mem_of_getElem? hy) wr _ ht
          clear hdr HD ht
          cases hq : formedT y
          · rw [hq, Bool.false_and] at hd
            rw [hq] at ih
            subst hd
            clear hq hy HR2
            (go_wp2_with fail; go_fit (ih); rintro e w2 ⟨rfl, b2⟩)
            have B2 := Lib.hid (Ext.trans' HBW.out b2)
            clear b2
            go_wp2
            go_ret
            exact ⟨rfl, B2.out⟩
          · rw [hq, Bool.true_and] at hd
            rw [hq] at ih
            have HD := Lib.hid hd
            clear hq hd hy
            (go_wp2_with fail; go_fit (ih); rintro e w2 ⟨rfl, b2⟩)
            have B2 := Lib.hid (Ext.trans' HB.out b2)
            clear b2
            go_wp2
            go_roundw
            case rel => exact ⟨i + 1, by omega, by go_num, HD, B2⟩
            case measure => simp [intOf]; omega
        · have hd := HD.out
          rw [List.drop_eq_nil_of_le (by rw [HM.out]; omega), formedL] at hd
          subst hd
          clear HR2 HD
          go_wp2
          go_ret
          exact ⟨rfl, Ext.trans' (bel1' w _) HB.out⟩
end Go.Proofs.Ytannchfoldnhcaa
/- Terms: which the document's own calls good: all of it. -/
namespace Go.Proofs.Ytannchfoldnhcaa
open Go.RowKit
set_option linter.unusedVariables false

set_option maxHeartbeats 4000000 in
set_option maxRecDepth 100000 in
theorem rformed_at : ∀ (N : Nat) (x : Tm), sizeN x ≤ N → ∀ (w : World) (v : Value), TmV w x v →
    Calls Try.prog 58 #[v] w fun e w' => e = .returned (.bool (formedT x)) ∧ Below w.heap.size w w'
  | 0, x, h, w, v, hv => by have := size_pos x; omega
  | N + 1, .mk k n s ts, h, w, v, hv => by
    obtain ⟨u, rfl, hs, hk, hn, hu⟩ := tmV_iff.1 hv
    obtain ⟨a, c, rfl, h1, h2, h3⟩ := hu.len
    unfold BIG at h3 hs
    obtain ⟨m, hm⟩ : ∃ m, ts.length = m := ⟨_, rfl⟩
    by_cases k0 : k = 0
    · subst k0
      have hp : plainT 0 n s.data.toList ts.length = (decide (0 ≤ n) && decide (n < 2147483648) && decide (s.size = 0) && decide (m = 0)) := by
        unfold plainT; rw [if_pos rfl, isEmpty_size, hm]
      by_cases g1 : 0 ≤ n
      · by_cases g2 : n < 2147483648
        · by_cases g3 : s.size = 0
          · have g3' := toList_empty g3
            by_cases g4 : m = 0
            · obtain rfl : ts = [] := List.length_eq_zero_iff.1 (by rw [hm, g4])
              rw [formed_leaf (by rw [List.length_nil] at hp; rw [hp]; simp [g1, g2, g3, g4])]
              rw [g4] at hm
              clear hp hv hu hm g3
              go_enter Try.func58, Try.ntmps58
              go_wp2
              go_ret
              exact ⟨rfl, bel1' _ _⟩
            · rw [formed_no (by rw [hp]; simp [g4])]
              have g4' : ((m : Int) == 0) = false := by apply beq_false_of_ne; omega
              rw [hm] at h1 h3 ⊢
              clear hp hv hu hm g3 h
              go_enter Try.func58, Try.ntmps58
              go_wp2
              go_ret
              exact ⟨rfl, bel1' _ _⟩
          · rw [formed_no (by rw [hp]; simp [g3])]
            have g3' := toList_some g3
            clear hp hv hu h
            go_enter Try.func58, Try.ntmps58
            go_wp2
            go_ret
            exact ⟨rfl, bel1' _ _⟩
        · rw [formed_no (by rw [hp]; simp [g2])]
          clear hp hv hu h
          go_enter Try.func58, Try.ntmps58
          go_wp2
          go_ret
          exact ⟨rfl, bel1' _ _⟩
      · rw [formed_no (by rw [hp]; simp [g1])]
        clear hp hv hu h
        go_enter Try.func58, Try.ntmps58
        go_wp2
        go_ret
        exact ⟨rfl, bel1' _ _⟩
    by_cases k1 : k = 1
    · subst k1
      have hp : plainT 1 n s.data.toList ts.length = (decide (s.size = 0) && decide (m = 0)) := by
        unfold plainT; rw [if_neg (by decide), if_pos rfl, isEmpty_size, hm]
      by_cases g3 : s.size = 0
      · have g3' := toList_empty g3
        by_cases g4 : m = 0
        · obtain rfl : ts = [] := List.length_eq_zero_iff.1 (by rw [hm, g4])
          rw [formed_leaf (by rw [List.length_nil] at hp; rw [hp]; simp [g3, g4])]
          clear hp hv hu hm g3
          go_enter Try.func58, Try.ntmps58
          go_wp2
          go_ret
          exact ⟨rfl, bel1' _ _⟩
        · rw [formed_no (by rw [hp]; simp [g4])]
          have g4' : ((m : Int) == 0) = false := by apply beq_false_of_ne; omega
          rw [hm] at h1 h3 ⊢
          clear hp hv hu hm g3 h
          go_enter Try.func58, Try.ntmps58
          go_wp2
          go_ret
          exact ⟨rfl, bel1' _ _⟩
      · rw [formed_no (by rw [hp]; simp [g3])]
        have g3' := toList_some g3
        clear hp hv hu h
        go_enter Try.func58, Try.ntmps58
        go_wp2
        go_ret
        exact ⟨rfl, bel1' _ _⟩
    have k0' : (k == 0) = false := beq_false_of_ne k0
    have k1' : (k == 1) = false := beq_false_of_ne k1
    by_cases k2 : k = 2
    · subst k2
      have hp : plainT 2 n s.data.toList ts.length = (decide (n = 0) && decide (s.size ≤ 64) && decide (m ≤ 8) && s.data.toList.all letterB) := by
        unfold plainT; rw [if_neg (by decide), if_neg (by decide), if_pos rfl, hm]; rfl
      by_cases g1 : n = 0
      · subst g1
        by_cases g2 : 64 < s.size
        · rw [formed_no (by rw [hp]; simp; omega)]
          clear hp hv hu h k0 k1 k0' k1'
          go_enter Try.func58, Try.ntmps58
          go_wp2
          go_ret
          exact ⟨rfl, bel1' _ _⟩
        · by_cases g3 : 8 < m
          · rw [formed_no (by rw [hp]; simp; omega)]
            rw [hm] at h1 h3 ⊢
            clear hp hv hu hm h k0 k1 k0' k1'
            go_enter Try.func58, Try.ntmps58
            go_wp2
            go_ret
            exact ⟨rfl, bel1' _ _⟩
          · have IH := Lib.hid (fun (y : Tm) (hy : y ∈ ts) => rformed_at N y (mem_size h hy))
            have HP := Lib.hid (show formedT (.mk 2 0 s ts) = (s.data.toList.all letterB && formedL ts) by
              rw [formed_mk, hp]
              have e1 : decide (s.size ≤ 64) = true := decide_eq_true (by omega)
              have e2 : decide (m ≤ 8) = true := decide_eq_true (by omega)
              rw [e1, e2]
              simp)
            rw [hm] at h1 h3 hu ⊢
            exact rformed_two hs h1 h2 h3 g2 g3 (Lib.hid hm) (Lib.hid hu) HP IH
      · rw [formed_no (by rw [hp]; simp [g1])]
        have g1' : (n == 0) = false := beq_false_of_ne g1
        clear hp hv hu h k0 k1 k0' k1'
        go_enter Try.func58, Try.ntmps58
        go_wp2
        go_ret
        exact ⟨rfl, bel1' _ _⟩
    · rw [formed_no (by unfold plainT; rw [if_neg k0, if_neg k1, if_neg k2])]
      have k2' : (k == 2) = false := beq_false_of_ne k2
      clear hv hu h k0 k1 k2
      go_enter Try.func58, Try.ntmps58
      go_wp2
      go_ret
      exact ⟨rfl, bel1' _ _⟩
theorem rgood_at (x : Tm) (w : World) (v : Value) (hv : TmV w x v) : Calls Try.prog 34 #[v] w fun e w' => e = .returned (.bool (goodT x)) ∧ Below w.heap.size w w' := by
  obtain ⟨k, n, s, ts, rfl⟩ : ∃ k n s ts, x = .mk k n s ts := by cases x; exact ⟨_, _, _, _, rfl⟩
  obtain ⟨u, rfl, _, _, _, _⟩ := tmV_iff.1 hv
  obtain ⟨x, hxe⟩ : ∃ x, Tm.mk k n s ts = x := ⟨_, rfl⟩
  rw [hxe] at hv ⊢
  clear hxe
  obtain ⟨v, hve⟩ : ∃ v, Value.agg #[.int .i64 k, .int .i64 n, .string s, u] = v := ⟨_, rfl⟩
  have S := fun w (h : TmV w x v) => rsize_at _ x (Nat.le_refl _) 2000 (by omega) w v h
  have D := fun w (h : TmV w x v) => rdepth_at 64 x (by omega) w v h
  have F := fun w (h : TmV w x v) => rformed_at _ x (Nat.le_refl _) w v h
  rw [← hve] at S D F
  subst hve
  have hg : goodT x = (decide (sizeN x ≤ 2000) && decide (depthN x ≤ 64) && formedT x) := rfl
  have HG := Lib.hid hg
  clear hg
  generalize formedT x = f at F HG
  obtain ⟨p, hp⟩ : ∃ p, min (sizeN x) (2000 + 1) = p := ⟨_, rfl⟩
  obtain ⟨q, hq⟩ : ∃ q, min (depthN x) (64 + 1) = q := ⟨_, rfl⟩
  rw [hp] at S
  rw [hq] at D
  have hP := Lib.hid (show (sizeN x ≤ 2000) ↔ p ≤ 2000 by omega)
  have hQ := Lib.hid (show (depthN x ≤ 64) ↔ q ≤ 64 by omega)
  clear hp hq
  by_cases h1 : p ≤ 2000
  · by_cases h2 : q ≤ 64
    · have hr : goodT x = f := by rw [HG.out, decide_eq_true (hP.out.2 h1), decide_eq_true (hQ.out.2 h2)]; rfl
      rw [hr]
      clear hr HG hP hQ
      go_enter Try.func34, Try.ntmps34
      have hv0 := TmV.ext (bel1' w (.cells #[.int .i64 k, .int .i64 n, .string s, u] 54)) _ _ hv
      (go_wp2_with fail; go_fit (S _ hv0); rintro e w1 ⟨rfl, b1⟩)
      obtain ⟨e0, e1, e2, e3⟩ := box_cells w 54 _ _ _ _ b1
      have hv1 := TmV.ext b1 _ _ hv0
      (go_wp2_with fail; go_fit (D _ hv1); rintro e w2 ⟨rfl, b2⟩)
      have e0 := cell_later b2 e0
      have e1 := cell_later b2 e1
      have e2 := cell_later b2 e2
      have e3 := cell_later b2 e3
      (go_wp2_with fail; go_fit (F _ (TmV.ext b2 _ _ hv1)); rintro e w3 ⟨rfl, b3⟩)
      have B3 := Lib.hid (Ext.trans' (bel1' w _) (Ext.trans' b1 (Ext.trans' b2 b3)))
      clear b1 b2 b3
      go_wp2
      go_ret
      exact ⟨rfl, B3.out⟩
    · have hr : goodT x = false := by rw [HG.out, decide_eq_false (fun h => h2 (hQ.out.1 h))]; simp
      rw [hr]
      clear hr HG hP hQ
      go_enter Try.func34, Try.ntmps34
      have hv0 := TmV.ext (bel1' w (.cells #[.int .i64 k, .int .i64 n, .string s, u] 54)) _ _ hv
      (go_wp2_with fail; go_fit (S _ hv0); rintro e w1 ⟨rfl, b1⟩)
      obtain ⟨e0, e1, e2, e3⟩ := box_cells w 54 _ _ _ _ b1
      have hv1 := TmV.ext b1 _ _ hv0
      (go_wp2_with fail; go_fit (D _ hv1); rintro e w2 ⟨rfl, b2⟩)
      have e0 := cell_later b2 e0
      have e1 := cell_later b2 e1
      have e2 := cell_later b2 e2
      have e3 := cell_later b2 e3
      have B3 := Lib.hid (Ext.trans' (bel1' w _) (Ext.trans' b1 b2))
      clear b1 b2
      go_wp2
      go_ret
      exact ⟨rfl, B3.out⟩
  · have hr : goodT x = false := by rw [HG.out, decide_eq_false (fun h => h1 (hP.out.1 h))]; rfl
    rw [hr]
    clear hr HG hP hQ
    go_enter Try.func34, Try.ntmps34
    have hv0 := TmV.ext (bel1' w (.cells #[.int .i64 k, .int .i64 n, .string s, u] 54)) _ _ hv
    (go_wp2_with fail; go_fit (S _ hv0); rintro e w1 ⟨rfl, b1⟩)
    obtain ⟨e0, e1, e2, e3⟩ := box_cells w 54 _ _ _ _ b1
    have B3 := Lib.hid (Ext.trans' (bel1' w _) b1)
    clear b1
    go_wp2
    go_ret
    exact ⟨rfl, B3.out⟩
end Go.Proofs.Ytannchfoldnhcaa
/- Terms: the document's Same; two rows of numbers alike. -/
namespace Go.Proofs.Ytannchfoldnhcaa
open Go.RowKit
set_option linter.unusedVariables false

theorem same_mk (k n k' n' : Int) (s s' : ByteArray) (ts ts' : List Tm) : sameT (.mk k n s ts) (.mk k' n' s' ts') = (k == k' && n == n' && s.data.toList == s'.data.toList && sameL ts ts') := by rw [sameT]
theorem sames_len : ∀ {a b : List Tm}, ¬ a.length = b.length → sameL a b = false
  | [], [], h => absurd rfl h
  | x :: r, y :: q, h => by
    rw [sameL, sames_len (a := r) (b := q) (by simpa using h), Bool.and_false]
  | [], y :: q, _ => by simp [sameL]
  | x :: r, [], _ => by simp [sameL]
theorem sames_step {a b : List Tm} {i : Nat} {x y : Tm} (hx : a[i]? = some x) (hy : b[i]? = some y) : sameL (a.drop i) (b.drop i) = (sameT x y && sameL (a.drop (i + 1)) (b.drop (i + 1))) := by
  obtain ⟨h1, rfl⟩ := List.getElem?_eq_some_iff.1 hx
  obtain ⟨h2, rfl⟩ := List.getElem?_eq_some_iff.1 hy
  rw [List.drop_eq_getElem_cons h1, List.drop_eq_getElem_cons h2, sameL]
set_option maxHeartbeats 4000000 in
set_option maxRecDepth 100000 in
/-- Alike but for the Args: then the Args, one by one. -/
theorem rsame_args {k n : Int} {s : ByteArray} {ts ts' : List Tm} {w : World} {a a' : Option Addr} {m c c' : Nat} (h1 : m ≤ c) (h2 : c ≤ maxLen) (h1' : m ≤ c') (h2' : c' ≤ maxLen) (h3 : m * 56 ≤ 140737488351232)
    (HM : Hid (ts.length = m)) (HM' : Hid (ts'.length = m)) (HU : Hid (Tms w (.slice a m c) ts)) (HU' : Hid (Tms w (.slice a' m c') ts'))
    (IH : Hid (∀ x ∈ ts, ∀ (y : Tm) (w : World) (va vb : Value), TmV w x va → TmV w y vb → Calls Try.prog 47 #[va, vb] w fun e w' => e = .returned (.bool (sameT x y)) ∧ Below w.heap.size w w')) :
    Calls Try.prog 47 #[.agg #[.int .i64 k, .int .i64 n, .string s, .slice a m c], .agg #[.int .i64 k, .int .i64 n, .string s, .slice a' m c']] w fun e w' => e = .returned (.bool (sameL ts ts')) ∧ Below w.heap.size w w' := by
  obtain ⟨r, hr⟩ : ∃ r, sameL ts ts' = r := ⟨_, rfl⟩
  rw [hr]
  have HR := Lib.hid hr
  clear hr
  have HW := Lib.hid (show Below w.heap.size w ((w.alloc (box4 k n s (.slice a m c) 54)).alloc (box4 k n s (.slice a' m c') 54)) from (bel1' w _).alloc (by simp) _)
  go_enter Try.func47, Try.ntmps47
  go_wp2_with fail
  go_loopw [5] (fun v wr => ∃ i : Nat, i ≤ m ∧ v = .int .i64 i ∧ Hid (sameL (ts.drop i) (ts'.drop i) = r) ∧ Hid (Below ((w.alloc (box4 k n s (.slice a m c) 54)).alloc (box4 k n s (.slice a' m c') 54)).heap.size ((w.alloc (box4 k n s (.slice a m c) 54)).alloc (box4 k n s (.slice a' m c') 54)) wr)) (fun v _ => m - (intOf v).toNat)
  case atStart => exact ⟨0, Nat.zero_le _, rfl, Lib.hid (by rw [List.drop_zero, List.drop_zero]; exact HR.out), Lib.hid (Below.refl _ _)⟩
  case round =>
    obtain ⟨i, hi, rfl, HD, HB⟩ := hrel
    have e3 : wr.cell? ⟨w.heap.size, 3, none⟩ = some (.slice a m c) := cell_later HB.out (by simp)
    have f3 : wr.cell? ⟨w.heap.size + 1, 3, none⟩ = some (.slice a' m c') := cell_later HB.out (by simp)
    have HBW := Lib.hid (Ext.trans' HW.out HB.out)
    by_cases hil : i < m
    · obtain ⟨x, hx⟩ : ∃ x, ts[i]? = some x := ⟨_, List.getElem?_eq_getElem (by rw [HM.out]; exact hil)⟩
      obtain ⟨y, hy⟩ : ∃ y, ts'[i]? = some y := ⟨_, List.getElem?_eq_getElem (by rw [HM'.out]; exact hil)⟩
      have hd := HD.out
      rw [sames_step hx hy] at hd
      obtain ⟨b, off, k1, n1, s1, u1, rfl, hbb, _, _, _, c0, c1, c2, c3, _, ht⟩ := (HU.out.ext HBW.out).get hx
      obtain ⟨b', off', k2, n2, s2, u2, rfl, hbb', _, _, _, d0, d1, d2, d3, _, ht'⟩ := (HU'.out.ext HBW.out).get hy
      have ih := fun wq (hq : Below wr.heap.size wr wq) => IH.out x (List.mem_of_getElem? hx) y wq _ _ (TmV.ext hq _ _ ht) (TmV.ext hq _ _ ht')
      clear HD ht ht' hx hy
      cases hq : sameT x y
      · rw [hq, Bool.false_and] at hd
        rw [hq] at ih
        have IHQ := Lib.hid ih
        subst hd
        clear hq ih HR
        go_wp2_with fail
        (refine wp_region_class (fun w' => (w'.cell? ⟨w.heap.size, 3, none⟩ = some (.slice (some ⟨b, off, none⟩) m c) ∧ w'.cell? ⟨w.heap.size + 1, 3, none⟩ = some (.slice (some ⟨b', off', none⟩) m c') ∧ w'.cell? ⟨b, off + i * 4, none⟩ = some (.int .i64 k1) ∧ w'.cell? ⟨b, off + i * 4 + 1, none⟩ = some (.int .i64 n1) ∧ w'.cell? ⟨b, off + i * 4 + 2, none⟩ = some (.string s1) ∧ w'.cell? ⟨b, off + i * 4 + 3, none⟩ = some u1 ∧ w'.cell? ⟨b', off' + i * 4, none⟩ = some (.int .i64 k2) ∧ w'.cell? ⟨b', off' + i * 4 + 1, none⟩ = some (.int .i64 n2) ∧ w'.cell? ⟨b', off' + i * 4 + 2, none⟩ = some (.string s2) ∧ w'.cell? ⟨b', off' + i * 4 + 3, none⟩ = some u2) ∧ Below wr.heap.size wr w') (by kernel_rfl) (by kernel_rfl) (⟨⟨e3, f3, c0, c1, c2, c3, d0, d1, d2, d3⟩, (Below.refl _ _).drew⟩) ?_; (repeat (first | go_big_quiet_skip | (go_big_quiet_want; refine quiet_of ?_; apply Exists.intro; refine ⟨fun wq hq => ?_, ?_⟩; (focus ((try dsimp only at hq); go_simp; (first | done | with_reducible rfl | ((go_at_call 47; refine (IHQ.out wq hq.2).mono ?_; rintro e w6 ⟨rfl, h6⟩; exact ⟨rfl, ⟨cell_later h6 hq.1.1, cell_later h6 hq.1.2.1, cell_later h6 hq.1.2.2.1, cell_later h6 hq.1.2.2.2.1, cell_later h6 hq.1.2.2.2.2.1, cell_later h6 hq.1.2.2.2.2.2.1, cell_later h6 hq.1.2.2.2.2.2.2.1, cell_later h6 hq.1.2.2.2.2.2.2.2.1, cell_later h6 hq.1.2.2.2.2.2.2.2.2.1, cell_later h6 hq.1.2.2.2.2.2.2.2.2.2⟩, Below.trans hq.2 (h6.mono hq.2.size)⟩)) | fail))); try simp only [Act.put, List.setIfInBounds_toArray, List.set_cons_zero, List.set_cons_succ]; go_big_quiet_on) | fail)); refine wpQuiet_nil ?_; intro wz hz)
        go_wp2
        go_ret
        exact ⟨rfl, Ext.trans' HBW.out hz.2⟩
      · rw [hq, Bool.true_and] at hd
        rw [hq] at ih
        have IHQ := Lib.hid ih
        have HD := Lib.hid hd
        clear hq ih hd
        go_wp2_with fail
        (refine wp_region_class (fun w' => (w'.cell? ⟨w.heap.size, 3, none⟩ = some (.slice (some ⟨b, off, none⟩) m c) ∧ w'.cell? ⟨w.heap.size + 1, 3, none⟩ = some (.slice (some ⟨b', off', none⟩) m c') ∧ w'.cell? ⟨b, off + i * 4, none⟩ = some (.int .i64 k1) ∧ w'.cell? ⟨b, off + i * 4 + 1, none⟩ = some (.int .i64 n1) ∧ w'.cell? ⟨b, off + i * 4 + 2, none⟩ = some (.string s1) ∧ w'.cell? ⟨b, off + i * 4 + 3, none⟩ = some u1 ∧ w'.cell? ⟨b', off' + i * 4, none⟩ = some (.int .i64 k2) ∧ w'.cell? ⟨b', off' + i * 4 + 1, none⟩ = some (.int .i64 n2) ∧ w'.cell? ⟨b', off' + i * 4 + 2, none⟩ = some (.string s2) ∧ w'.cell? ⟨b', off' + i * 4 + 3, none⟩ = some u2) ∧ Below wr.heap.size wr w') (by kernel_rfl) (by kernel_rfl) (⟨⟨e3, f3, c0, c1, c2, c3, d0, d1, d2, d3⟩, (Below.refl _ _).drew⟩) ?_; (repeat (first | go_big_quiet_skip | (go_big_quiet_want; refine quiet_of ?_; apply Exists.intro; refine ⟨fun wq hq => ?_, ?_⟩; (focus ((try dsimp only at hq); go_simp; (first | done | with_reducible rfl | ((go_at_call 47; refine (IHQ.out wq hq.2).mono ?_; rintro e w6 ⟨rfl, h6⟩; exact ⟨rfl, ⟨cell_later h6 hq.1.1, cell_later h6 hq.1.2.1, cell_later h6 hq.1.2.2.1, cell_later h6 hq.1.2.2.2.1, cell_later h6 hq.1.2.2.2.2.1, cell_later h6 hq.1.2.2.2.2.2.1, cell_later h6 hq.1.2.2.2.2.2.2.1, cell_later h6 hq.1.2.2.2.2.2.2.2.1, cell_later h6 hq.1.2.2.2.2.2.2.2.2.1, cell_later h6 hq.1.2.2.2.2.2.2.2.2.2⟩, Below.trans hq.2 (h6.mono hq.2.size)⟩)) | fail))); try simp only [Act.put, List.setIfInBounds_toArray, List.set_cons_zero, List.set_cons_succ]; go_big_quiet_on) | fail)); refine wpQuiet_nil ?_; intro wz hz)
        go_wp2
        go_roundw
        case rel => exact ⟨i + 1, by omega, by go_num, HD, Lib.hid (Ext.trans' HB.out hz.2)⟩
        case measure => simp [intOf]; omega
    · have hd := HD.out
      rw [List.drop_eq_nil_of_le (by rw [HM.out]; omega), List.drop_eq_nil_of_le (by rw [HM'.out]; omega), sameL] at hd
      subst hd
      clear HR HD
      go_wp2
      go_ret
      exact ⟨rfl, HBW.out⟩
end Go.Proofs.Ytannchfoldnhcaa
/- Terms: the document's Same, whole. -/
namespace Go.Proofs.Ytannchfoldnhcaa
open Go.RowKit
set_option linter.unusedVariables false

set_option maxHeartbeats 4000000 in
theorem rsame_at : ∀ (N : Nat) (x : Tm), sizeN x ≤ N → ∀ (y : Tm) (w : World) (va vb : Value), TmV w x va → TmV w y vb →
    Calls Try.prog 47 #[va, vb] w fun e w' => e = .returned (.bool (sameT x y)) ∧ Below w.heap.size w w'
  | 0, x, h, y, w, va, vb, hv, hv' => by have := size_pos x; omega
  | N + 1, .mk k n s ts, h, .mk k' n' s' ts', w, va, vb, hv, hv' => by
    obtain ⟨u, rfl, hs, hk, hn, hu⟩ := tmV_iff.1 hv
    obtain ⟨u', rfl, hs', hk', hn', hu'⟩ := tmV_iff.1 hv'
    obtain ⟨a, c, rfl, h1, h2, h3⟩ := hu.len
    obtain ⟨a', c', rfl, h1', h2', h3'⟩ := hu'.len
    unfold BIG at h3 h3' hs hs'
    have IH := Lib.hid (fun (x : Tm) (hx : x ∈ ts) => rsame_at N x (mem_size h hx))
    obtain ⟨m, hm⟩ : ∃ m, ts.length = m := ⟨_, rfl⟩
    obtain ⟨m', hm'⟩ : ∃ m', ts'.length = m' := ⟨_, rfl⟩
    have hmk := same_mk k n k' n' s s' ts ts'
    have HW := Lib.hid (show Below w.heap.size w ((w.alloc (box4 k n s (.slice a ts.length c) 54)).alloc (box4 k' n' s' (.slice a' ts'.length c') 54)) from (bel1' w _).alloc (by simp) _)
    by_cases g1 : k = k'
    · subst g1
      by_cases g2 : n = n'
      · subst g2
        by_cases g3 : s = s'
        · subst g3
          by_cases g4 : m = m'
          · subst g4
            rw [hmk, beq_self_eq_true, beq_self_eq_true, beq_self_eq_true, Bool.true_and, Bool.true_and, Bool.true_and]
            rw [hm] at h1 h3 hu ⊢
            rw [hm'] at h1' h3' hu' ⊢
            exact rsame_args h1 h2 h1' h2' h3 (Lib.hid hm) (Lib.hid hm') (Lib.hid hu) (Lib.hid hu') IH
          · have hr : sameT (.mk k n s ts) (.mk k n s ts') = false := by rw [hmk, sames_len (by rw [hm, hm']; exact g4), Bool.and_false]
            rw [hr]
            rw [hm] at h1 h3 HW ⊢
            rw [hm'] at h1' h3' HW ⊢
            have g4' : ((m : Int) != m') = true := by simp; omega
            have g4n : ¬ (m : Int) = m' := by omega
            clear hr hmk hm hm' hv hv' hu hu' IH h
            go_enter Try.func47, Try.ntmps47
            go_wp2
            go_ret
            exact ⟨rfl, HW.out⟩
        · have hb : (s.data.toList == s'.data.toList) = false := beq_false_of_ne (fun e => g3 (bytes_eq e))
          have hr : sameT (.mk k n s ts) (.mk k n s' ts') = false := by rw [hmk, hb]; simp
          rw [hr]
          have g3' : (s.toList == s'.toList) = false := by rw [Lib.toList_data, Lib.toList_data]; exact hb
          have g3n : ¬ s.toList = s'.toList := by rw [Lib.toList_data, Lib.toList_data]; exact fun e => g3 (bytes_eq e)
          clear hr hmk hm hm' hv hv' hu hu' IH h hb
          go_enter Try.func47, Try.ntmps47
          go_wp2
          go_ret
          exact ⟨rfl, HW.out⟩
      · have hr : sameT (.mk k n s ts) (.mk k n' s' ts') = false := by rw [hmk, beq_false_of_ne g2]; simp
        rw [hr]
        have g2' : (n != n') = true := by simpa using g2
        clear hr hmk hm hm' hv hv' hu hu' IH h
        go_enter Try.func47, Try.ntmps47
        go_wp2
        go_ret
        exact ⟨rfl, HW.out⟩
    · have hr : sameT (.mk k n s ts) (.mk k' n' s' ts') = false := by rw [hmk, beq_false_of_ne g1]; simp
      rw [hr]
      have g1' : (k != k') = true := by simpa using g1
      clear hr hmk hm hm' hv hv' hu hu' IH h
      go_enter Try.func47, Try.ntmps47
      go_wp2
      go_ret
      exact ⟨rfl, HW.out⟩

end Go.Proofs.Ytannchfoldnhcaa
/- Terms: the document's Vars. -/
namespace Go.Proofs.Ytannchfoldnhcaa
open Go.RowKit
set_option linter.unusedVariables false

set_option maxHeartbeats 4000000 in
/-- A variable: its number, if it is not there yet. -/
theorem rvars_var {W w : World} {k n : Int} {s : ByteArray} {u lv : Value} {l : List Int} (hk : k = 0) (hb : Below W.heap.size W w) (hr : RowN w W.heap.size lv l) (hl : l.length ≤ 1000000) :
    Calls Try.prog 74 #[.agg #[.int .i64 k, .int .i64 n, .string s, u], lv] w fun e w' => ∃ r, e = .returned r ∧ RowN w' W.heap.size r (if l.contains n then l else l ++ [n]) ∧ Below W.heap.size W w' ∧ Kept w w' lv.ownBlock ∧ (r.ownBlock = lv.ownBlock ∨ ∀ k, r.ownBlock = some k → w.heap.size ≤ k) := by
  subst hk
  obtain ⟨a, c, rfl, h1⟩ := row_formk hr
  obtain ⟨m, hm⟩ : ∃ m, l.length = m := ⟨_, rfl⟩
  obtain ⟨R, hR⟩ : ∃ R, (if l.contains n then l else l ++ [n]) = R := ⟨_, rfl⟩
  rw [hR]
  have HR := Lib.hid hR
  have HROW := Lib.hid hr
  have HM := Lib.hid hm
  rw [hm] at h1 hl hr HROW ⊢
  have HBW := Lib.hid hb
  have hWs : W.heap.size ≤ w.heap.size := hb.size
  obtain ⟨i0, hi0, hz0, hs0, hb0⟩ := info_parts infoI64
  clear hr hm hR hb
  go_enter Try.func74, Try.ntmps74
  go_wp2_with fail
  go_loopw [5] (fun v wr => ∃ i : Nat, i ≤ m ∧ v = .int .i64 i ∧ Hid (¬ n ∈ l.take i) ∧ Hid (Below (w.alloc (box4 0 n s u 54)).heap.size (w.alloc (box4 0 n s u 54)) wr)) (fun v _ => m - (intOf v).toNat)
  case atStart => exact ⟨0, Nat.zero_le _, rfl, Lib.hid (by simp), Lib.hid (Below.refl _ _)⟩
  case round =>
    obtain ⟨i, hi, rfl, HT, HB⟩ := hrel
    obtain ⟨e0, e1, e2, e3⟩ := box_cells w 54 _ _ _ _ HB.out
    have HBB := Lib.hid (Ext.trans' (bel1' w _) HB.out)
    by_cases hil : i < m
    · obtain ⟨x, hx⟩ : ∃ x, l[i]? = some x := ⟨_, List.getElem?_eq_getElem (by rw [HM.out]; exact hil)⟩
      have hnums : Nums w (.slice a m c) l := by have := HROW.out.nums; exact this
      obtain ⟨b, off, rfl, _, c0⟩ := (hnums.ext HBB.out).get hx
      by_cases hxn : x = n
      · subst hxn
        have hrl : R = l := by rw [← HR.out, if_pos (by simpa using List.mem_of_getElem? hx)]
        subst hrl
        clear hx HT HR hnums
        go_wp2_with fail
        go_quiet (fail)
        go_wp2
        go_ret
        exact ⟨_, rfl, row_ext HROW.out (bel_drewN HBB.out _), bel_drewN (Ext.trans' HBW.out HBB.out) _, Kept.of (bel_drewN HBB.out _) _, Or.inl rfl⟩
      · have HT2 : Hid (¬ n ∈ l.take (i + 1)) := Lib.hid (by
          rw [List.take_add_one, hx]
          intro hmem
          rcases List.mem_append.1 hmem with hh | hh
          · exact HT.out hh
          · simp at hh
            exact hxn hh.symm)
        have hxn' : (x == n) = false := beq_false_of_ne hxn
        clear hx HT hnums
        go_wp2_with fail
        go_quiet (fail)
        go_wp2
        go_roundw
        case rel => exact ⟨i + 1, by omega, by go_num, HT2, Lib.hid (bel_drewN HB.out _)⟩
        case measure => simp [intOf]; omega
    · have hrl : R = l ++ [n] := by
        rw [← HR.out, if_neg]
        have := HT.out
        rw [List.take_of_length_le (by rw [HM.out]; omega)] at this
        simpa using this
      subst hrl
      have HROW2 : Hid (wr.ownsRow W.heap.size 2 1 (.slice a m c) m (l.flatMap numCells)) := Lib.hid (by have := row_ext HROW.out HBB.out; rw [HM.out] at this; exact this)
      have hsz : W.heap.size ≤ wr.heap.size := Nat.le_trans hWs HBB.out.size
      clear HR HT
      go_wp2_with (at_builtin; refine wpList_append_k rfl _ _ 57 rfl W.heap.size 2 i0 (.int .i64 0) 1 8 Try.underlying57 hi0 hz0 hs0 (by decide) hb0 rfl (.slice a m c) m (l.flatMap numCells) rfl (HROW2.out.alloc _) _ 1 1 [.int .i64 n] rfl rfl (Or.inr ⟨_, rfl, fun j u hu => cell_new _ _ _ j u hu⟩) (fun u hu => by simp at hu; subst hu; rfl) (by unfold maxLen; omega) (by omega) (by simp; omega) (m + 1) ((l ++ [n]).flatMap numCells) rfl (by rw [List.flatMap_append]; rfl) ?_; intro a4 c4 w4 hown4 hgrow4 hat4)
      go_ret
      refine ⟨_, rfl, ?_, ((Ext.trans' HBW.out HBB.out).alloc hsz _).grown hgrow4 (by simp; omega) (fun q hq => (HROW2.out.lt q hq).1), Kept.trans (Kept.of (HBB.out.alloc HBB.out.size _) _) ⟨hgrow4.size, fun k hk hne => hgrow4.block k hk (Ne.symm hne)⟩ (Or.inl rfl), ?_⟩
      rotate_left
      · rcases hat4 with h | h
        · exact Or.inl h
        · refine Or.inr (fun k hk => ?_)
          have hk' : (Value.slice a4 (m + 1) c4).ownBlock = some k := hk
          rw [h] at hk'
          cases hk'
          have := HBB.out.size
          simp
          omega
      unfold RowN
      rw [List.length_append, HM.out]
      exact hown4
end Go.Proofs.Ytannchfoldnhcaa
