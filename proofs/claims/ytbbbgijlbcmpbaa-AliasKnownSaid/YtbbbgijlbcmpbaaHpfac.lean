import Derived.Test.YtbbbgijlbcmpbaaHpfab
import Derived.Deep.Quiet
import Derived.Below
import Derived.BigQuiet
import Derived.Deep.QuietTactic
import Derived.Laws.ResultCell
import Derived.Maps.OwnSet
import Derived.Maps.OwnOps
import Derived.Maps.Views
import Derived.Test.YtbbbgijlbcmpbaaHpfaa
import Derived.Ground.SlgnProg
import Derived.Shelf.SlicesE.Reverse
import Derived.Test.YtbbbgijlbcmpbaaProg
import Derived.Shelf.SlGeneric
import Derived.Lib.OwnBridge
import Derived.Lib.RowBridge
import Derived.Test.YtbbbgijlbcmpbaaRows
import Derived.Lib.Strings
import Derived.Deep.Cut
import Derived.Deep.CutRange
import Derived.Deep.DeepCutAuto
import Derived.Deep.RegionHeld3
set_option linter.unusedVariables false
set_option linter.unusedSimpArgs false
/- Package term: Vars. -/
namespace Go.Proofs.Ytbbbgijlbcmpbaa
open Go.RowKit
set_option linter.unusedVariables false

theorem cell_one_new' {w : World} (o : Obj) (v : Value) (ty : TypeId) (j : Nat) (u : Value) (h : [v][j]? = some u) : ((w.alloc o).alloc (.cells #[v] ty)).cell? ((⟨w.heap.size + 1, 0, none⟩ : Addr).add j) = some u := by
  have h1 := cell_new (w.alloc o) #[v] ty j u h
  rwa [show (w.alloc o).heap.size = w.heap.size + 1 by simp] at h1
set_option maxHeartbeats 2000000 in
theorem index_at {w : World} {v : Value} {l : List Int} (h : Nums w v l) (n : Int) : Calls Try.prog 110 #[v, .int .i64 n] w fun e w' => (∃ z : Int, e = .returned (.int .i64 z) ∧ (0 ≤ z ↔ n ∈ l)) ∧ w = w' := by
  obtain ⟨a, c, rfl, h1, h2⟩ := h.len
  unfold maxLen at h2
  obtain ⟨m, hm⟩ : ∃ m, l.length = m := ⟨_, rfl⟩
  have HU := Lib.hid h
  have HM := Lib.hid hm
  rw [hm] at h1 h HU ⊢
  clear h hm
  go_enter Try.func110, Try.ntmps110
  go_wp2_with fail
  go_loop [8] (fun v => ∃ i : Nat, i ≤ m ∧ v = .int .i64 i ∧ Hid (¬ n ∈ l.take i)) (fun v => m - (intOf v).toNat)
  case atStart => exact ⟨0, Nat.zero_le _, rfl, Lib.hid (by simp)⟩
  case round =>
    obtain ⟨i, hi, rfl, HT⟩ := hrel
    by_cases hil : i < m
    · obtain ⟨x, hx⟩ : ∃ x, l[i]? = some x := ⟨_, List.getElem?_eq_getElem (by rw [HM.out]; exact hil)⟩
      obtain ⟨b, off, rfl, _, c0⟩ := HU.out.get hx
      by_cases hxn : n = x
      · subst hxn
        have HMEM := Lib.hid (List.mem_of_getElem? hx)
        clear hx HT
        go_wp2
        go_ret
        exact ⟨⟨i, rfl, fun _ => HMEM.out, fun _ => by omega⟩, rfl⟩
      · have HT2 : Hid (¬ n ∈ l.take (i + 1)) := Lib.hid (by
          rw [List.take_add_one, hx]
          intro hmem
          rcases List.mem_append.1 hmem with hh | hh
          · exact HT.out hh
          · simp at hh
            exact hxn hh)
        have hxn' : (n == x) = false := beq_false_of_ne hxn
        clear hx HT
        go_wp2
        go_round
        case rel => exact ⟨i + 1, by omega, by go_num, HT2⟩
        case measure => simp [intOf]; omega
    · have HNO : Hid (¬ n ∈ l) := Lib.hid (by
        have := HT.out
        rwa [List.take_of_length_le (by rw [HM.out]; omega)] at this)
      clear HT
      go_wp2
      go_ret
      exact ⟨⟨-1, rfl, fun h => by omega, fun h => absurd h HNO.out⟩, rfl⟩
theorem contains_at {w : World} {v : Value} {l : List Int} (h : Nums w v l) (n : Int) : Calls Try.prog 102 #[v, .int .i64 n] w fun e w' => e = .returned (.bool (l.contains n)) ∧ w = w' := by
  have I := index_at h n
  by_cases hm : n ∈ l
  · have hr : l.contains n = true := by simpa using hm
    rw [hr]
    have HM := Lib.hid hm
    clear hm hr h
    go_enter Try.func102, Try.ntmps102
    go_wp2_with fail
    go_fit (I)
    rintro e w' ⟨⟨z, rfl, hz⟩, rfl⟩
    have hz0 : 0 ≤ z := hz.2 HM.out
    clear hz
    go_wp2
    go_ret
    exact ⟨rfl, rfl⟩
  · have hr : l.contains n = false := by simpa using hm
    rw [hr]
    have HM := Lib.hid hm
    clear hm hr h
    go_enter Try.func102, Try.ntmps102
    go_wp2_with fail
    go_fit (I)
    rintro e w' ⟨⟨z, rfl, hz⟩, rfl⟩
    have hz0 : z < 0 := by
      have : ¬ 0 ≤ z := fun hh => HM.out (hz.1 hh)
      omega
    clear hz
    go_wp2
    go_ret
    exact ⟨ret_bool (decide_eq_false (by omega)), rfl⟩
/-- The box at its place, when a row behind it has grown. -/
theorem box_grown {w w4 : World} {B : Nat} {lv : Value} {k n : Int} {s : ByteArray} {u : Value} {o : Obj} (h : ∀ q, lv.ownBlock = some q → q < w.heap.size) (hg : ((w.alloc (box4 k n s u 31)).alloc o).grownBy w4 lv.ownBlock) :
    w4.cell? ⟨w.heap.size, 3, none⟩ = some u := by
  have h0 := hg.block w.heap.size (by simp; omega) (fun e => by have := h _ e.symm; omega)
  rw [World.cell?_of_block (w := (w.alloc (box4 k n s u 31)).alloc o) h0]
  simp
set_option maxHeartbeats 4000000 in
set_option maxRecDepth 100000 in
theorem addVars_var {W w : World} {n : Int} {s : ByteArray} {a lv : Option Addr} {lw : Value} {c : Nat} {l : List Int} (hb : Below W.heap.size W w) (hr : RowN w W.heap.size lw l) (hl : l.length ≤ 1000000) (hc : c ≤ maxLen) :
    Calls Try.prog 78 #[lw, .agg #[.int .i64 0, .int .i64 n, .string s, .slice a 0 c]] w fun e w' => ∃ r, e = .returned r ∧ RowN w' W.heap.size r (if l.contains n then l else l ++ [n]) ∧ Below W.heap.size W w' := by
  have hbb := bel1' w (box4 0 n s (.slice a 0 c) 31)
  have hnums := (show RowN (w.alloc (box4 0 n s (.slice a 0 c) 31)) W.heap.size lw l from row_ext hr hbb).nums
  have C := contains_at hnums n
  obtain ⟨i0, hi0, hz0, hs0, hb0⟩ := info_parts infoI64
  have hlt := hr.lt
  obtain ⟨m, hm⟩ : ∃ m, l.length = m := ⟨_, rfl⟩
  have HBW := Lib.hid hb
  have hWs : W.heap.size ≤ w.heap.size := hb.size
  have HROW := Lib.hid hr
  have HBB := Lib.hid hbb
  cases hcn : l.contains n
  · rw [hcn] at C
    have HR2 : Hid (w.ownsRow W.heap.size 2 1 lw m (l.flatMap numCells)) := Lib.hid (by have := hr; unfold RowN at this; rw [hm] at this; exact this)
    have HM := Lib.hid hm
    have HLT := Lib.hid hlt
    rw [hm] at hl
    obtain ⟨al, cl, rfl, h1⟩ := row_formk HR2.out
    clear hr hb hnums hm hlt hbb hcn
    go_enter Try.func78, Try.ntmps78
    (go_wp2_with fail; go_fit (C); rintro e w1 ⟨rfl, rfl⟩)
    go_wp2_with (at_builtin; refine wpList_append_k rfl _ _ 51 rfl W.heap.size 2 i0 (.int .i64 0) 1 8 Try.underlying51 hi0 hz0 hs0 (by decide) hb0 rfl (.slice al m cl) m (l.flatMap numCells) rfl ((HR2.out.alloc _).alloc _) _ 1 1 [.int .i64 n] rfl rfl (Or.inr ⟨⟨w.heap.size + 1, 0, none⟩, rfl, fun j u hu => by have := cell_one_new' (w := w) (box4 0 n s (.slice a 0 c) 31) (.int .i64 n) 2 j u hu; exact this⟩) (fun u hu => by simp at hu; subst hu; rfl) (by unfold maxLen; omega) (by omega) (by simp; omega) (m + 1) ((l ++ [n]).flatMap numCells) rfl (by rw [List.flatMap_append]; rfl) ?_; intro a4 c4 w4 hown4 hgrow4 hat4; have e3 := box_grown (B := 0) (fun q hq => (HLT.out q hq).2) hgrow4)
    have HFIN : Hid (RowN w4 W.heap.size (.slice a4 (m + 1) c4) (l ++ [n]) ∧ Below W.heap.size W w4) := Lib.hid ⟨by
      unfold RowN
      rw [List.length_append, HM.out]
      exact hown4, ((Ext.trans' HBW.out HBB.out).alloc (by simp; omega) _).grown hgrow4 (by simp; omega) (fun q hq => (HLT.out q hq).1)⟩
    clear hown4 hgrow4 hat4
    go_loop [0, 25] (fun z v => z = .slice a4 (m + 1) c4 ∧ v = .int .i64 0) (fun _ _ => 0)
    case atStart => exact ⟨rfl, rfl⟩
    case round =>
      obtain ⟨rfl, rfl⟩ := hrel
      go_wp2
      go_ret
      exact ⟨_, rfl, HFIN.out⟩
  · rw [hcn] at C
    clear hr hb hnums hm hlt hbb hcn
    go_enter Try.func78, Try.ntmps78
    (go_wp2_with fail; go_fit (C); rintro e w1 ⟨rfl, rfl⟩)
    go_wp2_with fail
    go_loop [0, 25] (fun z v => z = lw ∧ v = .int .i64 0) (fun _ _ => 0)
    case atStart => exact ⟨rfl, rfl⟩
    case round =>
      obtain ⟨rfl, rfl⟩ := hrel
      go_wp2
      go_ret
      exact ⟨_, rfl, row_ext HROW.out HBB.out, Ext.trans' HBW.out HBB.out⟩
set_option maxHeartbeats 4000000 in
set_option maxRecDepth 100000 in
theorem addVars_at : ∀ (N : Nat) (x : Tm), sizeN x ≤ N → formedT x = true → ∀ (W w : World) (v lv : Value) (l : List Int), TmV W x v → Below W.heap.size W w → RowN w W.heap.size lv l → l.length + sizeN x ≤ 1000000 →
    Calls Try.prog 78 #[lv, v] w fun e w' => ∃ r, e = .returned r ∧ RowN w' W.heap.size r (varsT x l) ∧ Below W.heap.size W w'
  | 0, x, h, hf, W, w, v, lv, l, hv, hb, hr, hl => by have := size_pos x; omega
  | N + 1, .mk k n s ts, h, hf, W, w, v, lv, l, hv, hb, hr, hl => by
    obtain ⟨u, rfl, hs, hki, hni, hu⟩ := tmV_iff.1 hv
    obtain ⟨a, c, rfl, h1, h2, h3⟩ := hu.len
    rw [formedT, Bool.and_eq_true] at hf
    by_cases hk : k = 0
    · have e : varsT (.mk k n s ts) l = if l.contains n then l else l ++ [n] := by rw [varsT, if_pos hk]
      rw [e]
      subst hk
      have hts : ts.length = 0 := by
        have := hf.1
        unfold plainT at this
        rw [if_pos rfl] at this
        simp at this
        simp [this.2]
      rw [hts]
      have := size_pos (.mk 0 n s ts)
      exact addVars_var (lv := none) hb hr (by omega) h2
    have e : varsT (.mk k n s ts) l = varsL ts l := by rw [varsT, if_neg hk]
    rw [e]
    have hk' : (k == 0) = false := beq_false_of_ne hk
    unfold BIG at h3
    obtain ⟨m, hm⟩ : ∃ m, ts.length = m := ⟨_, rfl⟩
    have IH := Lib.hid (fun (y : Tm) (hy : y ∈ ts) => addVars_at N y (mem_size h hy) (formed_mem hf.2 hy) W)
    have HL := Lib.hid (show l.length + sizesN ts ≤ 1000000 by rw [sizeN] at hl; omega)
    have HU := Lib.hid hu
    have HM := Lib.hid hm
    rw [hm] at h1 h3 hu HU ⊢
    have HBW := Lib.hid hb
    have HROW := Lib.hid hr
    obtain ⟨R, hR⟩ : ∃ R, varsL ts l = R := ⟨_, rfl⟩
    rw [hR]
    have HR := Lib.hid hR
    clear e hk hv hb hr hl hu hm hR h hf
    go_enter Try.func78, Try.ntmps78
    go_wp2_with fail
    go_loopw [0, 25] (fun z v wr => ∃ i : Nat, i ≤ m ∧ v = .int .i64 i ∧ Hid (RowN wr W.heap.size z (varsL (ts.take i) l)) ∧ Hid (Below W.heap.size W wr)) (fun _ v _ => m - (intOf v).toNat)
    case atStart => exact ⟨0, Nat.zero_le _, rfl, Lib.hid (by rw [List.take_zero, varsL]; exact row_ext HROW.out (bel1' _ _)), Lib.hid (Ext.trans' HBW.out (bel1' _ _))⟩
    case round =>
      obtain ⟨i, hi, rfl, HZ, HB⟩ := hrel
      by_cases hil : i < m
      · obtain ⟨y, hy⟩ : ∃ y, ts[i]? = some y := ⟨_, List.getElem?_eq_getElem (by rw [HM.out]; exact hil)⟩
        obtain ⟨b, off, k1, n1, s1, u1, rfl, hbb, _, _, _, c0, c1, c2, c3, htu, ht⟩ := HU.out.get hy
        obtain ⟨au, cu, rfl, _⟩ := htu.len
        clear htu
        have d0 := cell_later HB.out c0
        have d1 := cell_later HB.out c1
        have d2 := cell_later HB.out c2
        have d3 := cell_later HB.out c3
        have hz := sizes_drop' hy
        have hz2 := sizes_take' ts (i + 1)
        have hvl := (varss_len (ts.take i) l).1
        have hbx := bel1' wr (box4 k1 n1 s1 (.slice au y.args.length cu) 31)
        have ih := IH.out y (List.mem_of_getElem? hy) _ _ _ _ ht (HB.out.trans (hbx.mono HB.out.size)) (row_ext HZ.out hbx) (by have := HL.out; omega)
        have hst := varss_step hy l
        rw [← hst] at ih
        clear c0 c1 c2 c3 hz hz2 hvl hst ht hy hbx
        (go_wp2_with fail; go_fit (ih); rintro e w2 ⟨r2, rfl, hr2, b2⟩)
        have HZ2 := Lib.hid hr2
        have HB2 := Lib.hid b2
        clear hr2 b2 HZ HB d0 d1 d2 d3
        go_wp2
        go_roundw
        case rel => exact ⟨i + 1, by omega, by go_num, HZ2, HB2⟩
        case measure => simp [intOf]; omega
      · have hR2 : varsL (ts.take i) l = R := by rw [← HR.out, List.take_of_length_le (by rw [HM.out]; omega)]
        have HZ2 := HZ.out
        rw [hR2] at HZ2
        clear hR2 HZ HR
        go_wp2
        go_ret
        exact ⟨_, rfl, HZ2, HB.out⟩
set_option maxHeartbeats 2000000 in
theorem Vars_at (x : Tm) (w : World) (v : Value) (hv : TmV w x v) : Calls Try.prog 38 #[v] w fun e w' => ∃ r, e = .returned r ∧ Nums w' r (if goodT x then varsT x [] else []) ∧ Below w.heap.size w w' := by
  have G := fun w (h : TmV w x v) => Good_at x w v h
  have V := fun w1 (hb : Below w.heap.size w w1) (hs : goodT x = true) => addVars_at _ x (Nat.le_refl _) (good_parts hs).2.2 w w1 v (.slice none 0 0) [] hv hb (RowN.nil _ _) (by have := (good_parts hs).1; simp; omega)
  obtain ⟨k, n, s, u, rfl⟩ := hv.four
  have hv0 := TmV.ext (bel1' w (box4 k n s u 31)) _ _ hv
  clear hv
  cases hg : goodT x
  · rw [hg] at G
    clear V hg
    go_enter Try.func38, Try.ntmps38
    (go_wp2_with fail; go_fit (G _ hv0); rintro e w1 ⟨rfl, b1⟩)
    have B1 := Lib.hid (Ext.trans' (bel1' w _) b1)
    clear b1
    go_wp2
    go_ret
    exact ⟨_, rfl, Nums.nil _, B1.out⟩
  · rw [hg] at G
    have V' := fun w h => V w h hg
    rw [if_pos rfl]
    clear V hg
    go_enter Try.func38, Try.ntmps38
    (go_wp2_with fail; go_fit (G _ hv0); rintro e w1 ⟨rfl, b1⟩)
    obtain ⟨e0, e1, e2, e3⟩ := box_cells w 31 _ _ _ _ b1
    have B1 := Lib.hid (Ext.trans' (bel1' w _) b1)
    clear b1
    (go_wp2_with fail; go_fit (V' _ B1.out); rintro e w2 ⟨r, rfl, hr, b2⟩)
    have HN := Lib.hid hr.nums
    have B2 := Lib.hid b2
    clear hr b2
    go_wp2
    go_ret
    exact ⟨_, rfl, HN.out, B2.out⟩
end Go.Proofs.Ytbbbgijlbcmpbaa
/- Package bind: addVars, fits. -/
namespace Go.Proofs.Ytbbbgijlbcmpbaa
open Go.RowKit
set_option linter.unusedVariables false

section
variable {V w : World} {F : List Nat} {p : Value} {N : Nat} {R : List (Int × Tm)}
mutual
theorem occ_i64 {w : World} : ∀ (x : Tm) (v : Value), TmV w x v → ∀ m ∈ occT x, I64 m
  | .mk k n s ts, v, h, m, hm => by
    rw [TmV] at h
    obtain ⟨a, c, h1, h2, h3, h4, h5, h6, h7, h8⟩ := h
    by_cases hk : k = 0
    · subst hk
      rw [occ_var] at hm
      simp at hm
      subst hm
      exact h7
    · rw [occ_not hk] at hm
      rcases h8 with h8 | ⟨b, off, e1, e2, e3⟩
      · subst h8; simp [occL] at hm
      · exact occs_i64 ts b off e3 m hm
theorem occs_i64 {w : World} : ∀ (l : List Tm) (b off : Nat), TmRow w l b off → ∀ m ∈ occL l, I64 m
  | [], b, off, _, m, hm => by simp [occL] at hm
  | x :: r, b, off, h, m, hm => by
    rw [TmRow] at h
    obtain ⟨⟨c0, c1, c2, c3, h0, h1, h2, h3, h4⟩, h5⟩ := h
    rw [occL] at hm
    rcases List.mem_append.1 hm with hm | hm
    · exact occ_i64 x _ h4 m hm
    · exact occs_i64 r b (off + 4) h5 m hm
end
end
end Go.Proofs.Ytbbbgijlbcmpbaa
/- Package bind: whole. -/
namespace Go.Proofs.Ytbbbgijlbcmpbaa
open Go.RowKit
set_option linter.unusedVariables false

/-- All that lay below n is not looked at. -/
abbrev under (n : Nat) : Nat → Bool := fun k => decide (k < n)
section
variable {V : World} {F : List Nat} {p : Value} {N : Nat} {R : List (Int × Tm)}
end
end Go.Proofs.Ytbbbgijlbcmpbaa
/- Package bind: whole, where there is room. -/
namespace Go.Proofs.Ytbbbgijlbcmpbaa
open Go.RowKit
set_option linter.unusedVariables false

theorem Touch.then {F : List Nat} {w w' w'' : World} (h : Touch F w w') (hb : Below w'.heap.size w' w'') : Touch F w w'' := h.trans (Touch.of_below hb F) (fun k hk => Or.inl hk)
section
variable {D : Nat → Bool} {ps : List TmP} {n0 : Nat} {wr : World} {z : Value} {ts : List Tm}
end
end Go.Proofs.Ytbbbgijlbcmpbaa
/- Package bind: whole, walked. -/
namespace Go.Proofs.Ytbbbgijlbcmpbaa
open Go.RowKit
set_option linter.unusedVariables false

theorem sizes_map_drop {S : Int → Tm} {ts : List Tm} {i : Nat} {y : Tm} (h : ts[i]? = some y) : (subL S ts)[i]? = some (subT S y) := by rw [subL_map, List.getElem?_map, h]; rfl
section
variable {V : World} {F : List Nat} {p : Value} {N : Nat} {R : List (Int × Tm)}
end
end Go.Proofs.Ytbbbgijlbcmpbaa
/- Package bind: reaches. -/
namespace Go.Proofs.Ytbbbgijlbcmpbaa
open Go.RowKit Go.Maps
set_option linter.unusedVariables false

theorem lKeyed : Keyed Try.prog 2 := int_keyed Try.underlying2
theorem wf_i64 {n : Int} (h : I64 n) : (Lit.int .i64 n).wf = true := WalkArith.wf_i64 h
theorem lKey {n : Int} (h : I64 n) : keyOf Try.prog 2 (.int .i64 n) = some (.int .i64 n) := keyOf_int_mk Try.underlying2 (wf_i64 h)
section
variable {V w : World} {F : List Nat} {p : Value} {N : Nat} {R : List (Int × Tm)}
end
end Go.Proofs.Ytbbbgijlbcmpbaa
/- Package bind: a search in memory. -/
namespace Go.Proofs.Ytbbbgijlbcmpbaa
open Go.RowKit Go.Maps
set_option linter.unusedVariables false

/-- A place of the pile, beside its term's value. -/
structure PlP where
  t : TmP
  ends : Bool
  frm : Nat
section
variable {W w : World} {sb : Nat} {pb : Value} {n : Int} {M c : Nat} {pl : List PlP} {f : Int → Option Nat} {cnt : Nat}
end
end Go.Proofs.Ytbbbgijlbcmpbaa
/- Drawn together by pull.py from XPrN XRen XRenA XRenB. -/
namespace Go.Proofs.Ytbbbgijlbcmpbaa
open Go.RowKit
set_option linter.unusedVariables false

theorem formed_args {k n : Int} {s : ByteArray} {ts : List Tm} (h : formedT (.mk k n s ts) = true) (hne : ts ≠ []) : k = 2 ∧ n = 0 ∧ ts.length ≤ 8 := by
  rw [formedT, Bool.and_eq_true] at h
  have h1 := h.1
  have hl : ¬ ts.length = 0 := fun e => hne (List.eq_nil_of_length_eq_zero e)
  unfold plainT at h1
  split at h1
  · simp [hl] at h1
  split at h1
  · simp [hl] at h1
  split at h1
  · rename_i h2
    simp only [Bool.and_eq_true, decide_eq_true_eq] at h1
    exact ⟨h2, h1.1.1.1, h1.1.2⟩
  · cases h1

end Go.Proofs.Ytbbbgijlbcmpbaa
/- The document's side of chapter 13: rename, walked. -/
namespace Go.Proofs.Ytbbbgijlbcmpbaa
open Go.RowKit
set_option linter.unusedVariables false

/-- What rename answers. -/
def RenP (w : World) (T : Tm) (e : Ending) (w' : World) : Prop := ∃ v', e = .returned v' ∧ TmV (hide (under w.heap.size) w') T v' ∧ Below w.heap.size w w'
end Go.Proofs.Ytbbbgijlbcmpbaa
/- The document's side of chapter 13: From, Alike, walked. -/
namespace Go.Proofs.Ytbbbgijlbcmpbaa
open Go.RowKit
set_option linter.unusedVariables false

theorem results_cell3' {fn : Func} {p u v : Tmp} {ty : TypeId} (h : fn.results = #[.cell p ty, .tmp u, .tmp v]) (tmps : Array Value) (P : Program) (w : World) :
    (results fn tmps).run P w =
      ((asAddr (tmps.getD p undef)).run P w).andThen fun a w₁ => ((loadVar ty a).run P w₁).andThen fun x w₂ => .ok (.tuple #[x, tmps.getD u undef, tmps.getD v undef]) w₂ := by
  simp only [results, h]
  simp [Sem.run_bind, Result.andThen]
mutual
theorem xvars_len : ∀ (t : Tm) (l : List Int), (varsT t l).length ≤ l.length + sizeN t
  | .mk k n s ts, l => by
    rw [varsT, sizeN]
    by_cases hk : k = 0
    · rw [if_pos hk]
      split
      · omega
      · simp
    · rw [if_neg hk]
      have := xvarss_len ts l
      omega
theorem xvarss_len : ∀ (ts : List Tm) (l : List Int), (varsL ts l).length ≤ l.length + sizesN ts
  | [], l => by rw [varsL, sizesN]; omega
  | x :: r, l => by
    rw [varsL, sizesN]
    have h1 := xvars_len x l
    have h2 := xvarss_len r (varsT x l)
    omega
end
/-- Alike but for names. -/
def alikeB (x y : Tm) : Bool := goodT x && goodT y && sameT (renT 0 x) (renT 0 y)
end Go.Proofs.Ytbbbgijlbcmpbaa
/- Package unify: join, stand: one variable is let stand for another, or for a term. -/
namespace Go.Proofs.Ytbbbgijlbcmpbaa
open Go.RowKit
set_option linter.unusedVariables false

section
variable {V w : World} {F : List Nat} {p : Value} {N : Nat} {R S : List (Int × Tm)} {cb c : Nat}
theorem Touch.box {F : List Nat} {w w' : World} (t : Touch F w w') {b : Nat} {vs : List Value} (hn : ¬ b ∈ F) (hx : Box w b vs) : Box w' b vs := hx.block (t.block b hx.lt hn) (Nat.lt_of_lt_of_le hx.lt t.size)
end
end Go.Proofs.Ytbbbgijlbcmpbaa
/- Package unify: apart's map of names. -/
namespace Go.Proofs.Ytbbbgijlbcmpbaa
open Go.RowKit Go.Maps
set_option linter.unusedVariables false

/-- A variable without letters, as a value. -/
def leafVal (v : Int) : Value := .agg #[.int .i64 0, .int .i64 v, .string ⟨#[]⟩, .slice none 0 0]
theorem pos_app {n : Int} (m : List Int) : ∀ {l : List Int}, n ∈ l → posI (l ++ m) n = posI l n
  | x :: r, h => by
    rw [List.cons_append, posI, posI]
    by_cases e : x = n
    · rw [if_pos e, if_pos e]
    · rw [if_neg e, if_neg e, pos_app m (by
        rcases List.mem_cons.1 h with h | h
        · exact absurd h.symm e
        · exact h)]
theorem pos_new {n : Int} : ∀ {l : List Int}, ¬ n ∈ l → posI (l ++ [n]) n = l.length
  | [], _ => by simp [posI]
  | x :: r, h => by
    rw [List.cons_append, posI, if_neg (fun e => h (by simp [e])), pos_new (fun q => h (by simp [q]))]
    rfl
theorem zeroLeaf (w : World) : (zeroValue 31).run Try.prog w = .ok (leafVal 0) w := by kernel_rfl
end Go.Proofs.Ytbbbgijlbcmpbaa
/- What says more than another, as chapter 13 says it: a term with terms in place of its variables. Nothing here is walked. -/
namespace Go.Proofs.Ytbbbgijlbcmpbaa

mutual
/-- One is gone through beside another, with what stands in place of its variables so far. -/
def moreT : Tm → Tm → List (Int × Tm) → Bool × List (Int × Tm)
  | .mk k n s ts, b, L =>
    if k = 0 then (match getB L n with
      | some t => (sameT t b, L)
      | none => (true, (n, b) :: L))
    else if k = b.k ∧ n = b.n ∧ s.data.toList = b.s.data.toList ∧ ts.length = b.args.length then moreL ts b.args L
    else (false, L)
def moreL : List Tm → List Tm → List (Int × Tm) → Bool × List (Int × Tm)
  | [], _, L => (true, L)
  | _ :: _, [], L => (true, L)
  | x :: r, y :: q, L => if (moreT x y L).1 = true then moreL r q (moreT x y L).2 else (false, (moreT x y L).2)
end
def moreB (a b : Tm) : Bool := goodT a && goodT b && (moreT a b []).1
theorem pos_at {n : Int} : ∀ {l : List Int}, n ∈ l → l[posI l n]? = some n
  | x :: r, h => by
    rw [posI]
    by_cases e : x = n
    · rw [if_pos e]; simp [e]
    · rw [if_neg e]
      have hr : n ∈ r := by
        rcases List.mem_cons.1 h with h | h
        · exact absurd h.symm e
        · exact h
      simpa using pos_at hr
theorem pos_lt {n : Int} {l : List Int} (h : n ∈ l) : posI l n < l.length := by
  have := pos_at h
  exact (List.getElem?_eq_some_iff.1 this).1
/-- The way back from the numbers. -/
def backV (l : List Int) (base : Int) : Int → Tm := fun m => varV ((l[(m - base).toNat]?).getD 0)
theorem back_ren {t : Tm} (hf : formedT t = true) (base : Int) : subT (backV (varsT t []) base) (renT base t) = t := by
  unfold renT
  rw [sub_sub]
  refine sub_id t hf fun m hm => ?_
  unfold renV
  rw [sub_varV]
  unfold backV
  rw [show (base + (posI (varsT t []) m : Int) - base).toNat = posI (varsT t []) m by omega, pos_at ((mem_vars2 t []).2 (Or.inr hm))]
  rfl
mutual
theorem vars_nodup : ∀ (t : Tm) (l : List Int), l.Nodup → (varsT t l).Nodup
  | .mk k n s ts, l, h => by
    rw [varsT]
    by_cases hk : k = 0
    · rw [if_pos hk]
      by_cases hc : l.contains n = true
      · rw [if_pos hc]; exact h
      · rw [if_neg hc]
        have hc' : ¬ n ∈ l := by simpa using hc
        rw [List.nodup_append]
        exact ⟨h, by simp, fun a ha b hb => by simp at hb; subst hb; exact fun e => hc' (e ▸ ha)⟩
    · rw [if_neg hk]
      exact varss_nodup ts l h
theorem varss_nodup : ∀ (ts : List Tm) (l : List Int), l.Nodup → (varsL ts l).Nodup
  | [], l, h => by rw [varsL]; exact h
  | x :: r, l, h => by rw [varsL]; exact varss_nodup r _ (vars_nodup x l h)
end
theorem ren_formed {t : Tm} (hf : formedT t = true) {base : Int} (h0 : 0 ≤ base) (h1 : base + ((varsT t []).length : Int) ≤ 2147483648) : formedT (renT base t) = true := by
  unfold renT
  refine formed_sub t hf fun m hm => ?_
  have := pos_lt ((mem_vars2 t []).2 (Or.inr hm))
  exact var_formed (by omega) (by omega)
theorem ren_same {t : Tm} (hf : formedT t = true) {base : Int} (h0 : 0 ≤ base) (h1 : base + ((varsT t []).length : Int) ≤ 2147483648) : renT 0 (renT base t) = renT 0 t ∧ goodT (renT base t) = goodT t := by
  obtain ⟨e1, e2⟩ := variants (A := renV (varsT t []) base) (B := backV (varsT t []) base) hf (ren_formed hf h0 h1) rfl (back_ren hf base)
  exact ⟨e1.symm, e2.symm⟩
end Go.Proofs.Ytbbbgijlbcmpbaa
/- Package alias: the map of numbers; a term renamed. -/
namespace Go.Proofs.Ytbbbgijlbcmpbaa
open Go.RowKit Go.Maps
set_option linter.unusedVariables false

/-- Each of l is a number from base on, in l's order. -/
def NumM (w : World) (mb : Nat) (base : Int) (l : List Int) : Prop := ∃ D : DataW Unit, w.ownsMap Try.prog 2 (plainElem Try.prog 2) mb l.length D ∧ Tidy D ∧ (∀ v, Maps.has D (.int .i64 v) = true ↔ v ∈ l) ∧ ∀ v, v ∈ l → ∀ z, D.atKey (.int .i64 v) z = .lit (.int .i64 (base + (posI l v : Int)))
theorem NumM.nil (w : World) (base : Int) : NumM (w.alloc (.map #[] 0)) w.heap.size base [] := ⟨.map [], World.ownsMap_made w _ _ _, tidy_empty, fun v => by simp [Maps.has], fun v h => by cases h⟩
theorem NumM.block {w w' : World} {mb : Nat} {base : Int} {l : List Int} (h : NumM w mb base l) (e : w'.heap[mb]? = w.heap[mb]?) : NumM w' mb base l := by
  obtain ⟨D, ⟨es, clock, h1, h2⟩, q⟩ := h
  exact ⟨D, ⟨es, clock, e.trans h1, h2⟩, q⟩
theorem NumM.lt {w : World} {mb : Nat} {base : Int} {l : List Int} (h : NumM w mb base l) : mb < w.heap.size := by
  obtain ⟨D, q1, _⟩ := h
  exact q1.lt
theorem NumM.ext {w w' : World} {mb : Nat} {base : Int} {l : List Int} (h : NumM w mb base l) (b : Below w.heap.size w w') : NumM w' mb base l := h.block (b.block mb h.lt)
/-- What stands in the map: looked up. -/
theorem NumM.look {w : World} {mb : Nat} {base : Int} {l : List Int} (h : NumM w mb base l) {n : Int} (hn : I64 n) (hm : n ∈ l) : (Instr.lookup 117 (.map (some mb)) (.int .i64 n) false).run Try.prog w = .ok (.int .i64 (base + (posI l n : Int))) w := by
  obtain ⟨D, q1, q2, q3, q4⟩ := h
  obtain ⟨c, hrun, hat, hw⟩ := q1.lookup_int lKeyed Try.underlying117 Try.underlying2 (by kernel_rfl) (lKey hn)
  rw [q4 n hm] at hat
  cases hat
  exact hrun
/-- A number is put into it. -/
theorem NumM.store {w : World} {mb : Nat} {base : Int} {l : List Int} (h : NumM w mb base l) {n : Int} (hn : I64 n) (hl : l.length < maxLen) (hm : ¬ n ∈ l) {z : Int} (hz : base + (l.length : Int) = z) (hzz : I64 z) :
    ∃ w', (Instr.mapUpdate 117 (.map (some mb)) (.int .i64 n) (.int .i64 z)).run Try.prog w = .ok () w' ∧ NumM w' mb base (l ++ [n]) ∧ Touch [mb] w w' := by
  obtain ⟨D, q1, q2, q3, q4⟩ := h
  obtain ⟨w', hrun, ho, ht⟩ := q1.store lKeyed Try.underlying117 hl (lKey hn) (plainElem_int Try.underlying2 (wf_i64 hzz))
  refine ⟨w', hrun, ⟨_, by rw [List.length_append]; exact ho, q2.put (by trivial) _, fun u => ?_, fun u hu y => ?_⟩, ?_⟩
  · by_cases e : u = n
    · subst e
      rw [has_put_same q2.isMap (by trivial)]
      simp
    · rw [has_put_other (fun e' => e (by injection e')), q3 u]
      simp [e]
  · by_cases e : u = n
    · subst e
      rw [atKey_put_same q2.isMap (by trivial), pos_new hm, hz]
    · have hul : u ∈ l := by simpa [e] using hu
      rw [atKey_put_other (fun e' => e (by injection e')), q4 u hul y, pos_app _ hul]
  · obtain ⟨g1, g2, g3, g4, g5⟩ := ht.grown
    exact ⟨g1, g2, g3, g4, fun k hk hne => g5 k hk (fun e => hne (by simp at e; simp [e]))⟩
/-- What holds as the Args are renamed. -/
def RnI (w w2 : World) (Ts : List Tm) (vs : List Value) (j : Nat) (a : Option Addr) (c : Nat) (wr : World) : Prop :=
  ∃ (D1 : Nat → Bool) (ps : List TmP), ps.length = j ∧ ps.map (·.1) = Ts.take j ∧ Row D1 noM wr w2.heap.size (.slice a j c) ps ∧ Turn (under w2.heap.size) noM D1 noM w2 wr ∧ Okd D1 noM wr ∧ Box wr w.heap.size vs ∧ Box wr (w.heap.size + 1) [.int .i64 0, .int .i64 0, .string ⟨#[]⟩, .slice none 0 0]
set_option maxHeartbeats 8000000 in
set_option maxRecDepth 100000 in
theorem renamed_at : ∀ (M : Nat) (x : Tm), sizeN x ≤ M → ∀ (l : List Int) (base : Int), formedT x = true → (∀ m ∈ occT x, m ∈ l) → 0 ≤ base → base + l.length ≤ 4294967296 → ∀ (w : World) (v : Value) (mb : Nat), TmV w x v → NumM w mb base l →
    Calls Try.prog 85 #[v, .map (some mb)] w (RenP w (subT (renV l base) x))
  | 0, x, h, l, base, hf, ho, h0, h1, w, v, mb, hv, hm => by have := size_pos x; omega
  | M + 1, .mk k n s ts, h, l, base, hf, ho, h0, h1, w, v, mb, hv, hm => by
    obtain ⟨u, rfl, hss, hkk, hnn, hu⟩ := tmV_iff.1 hv
    obtain ⟨a, c, rfl, hb1, hb2, hb3⟩ := hu.len
    unfold maxLen at hb2
    obtain ⟨w1, e1, B1, z1, X1⟩ := box_new w #[.int .i64 k, .int .i64 n, .string s, .slice a ts.length c] 31
    obtain ⟨w2, e2, B2, z2, X2⟩ := box_new w1 #[.int .i64 0, .int .i64 0, .string ⟨#[]⟩, .slice none 0 0] 31
    have X1 := X1.ext B2
    have B12 := Ext.trans' B1 B2
    rw [z1] at X2 z2
    have HE := Lib.hid (And.intro e1 e2)
    have HB2 := Lib.hid (And.intro B12 (And.intro X1 (And.intro X2 z2)))
    by_cases hk0 : k = 0
    · subst hk0
      have hT : subT (renV l base) (.mk 0 n s ts) = varV (base + (posI l n : Int)) := by rw [sub_var]; rfl
      rw [hT]
      have hin := ho n (by rw [occ_var]; simp)
      have hlook := (hm.ext B12).look hnn hin
      have hp1 := pos_lt hin
      obtain ⟨z, hz⟩ : ∃ z, base + (posI l n : Int) = z := ⟨_, rfl⟩
      have HZ := Lib.hid (show I64 z by unfold I64; omega)
      rw [hz] at hlook ⊢
      obtain ⟨x0, x1, x2, x3, _⟩ := X1.four
      clear hT hf ho hv hu h hin hp1 hz hm X1 X2 hss hkk hnn h0 h1 B1 B2 z1 e1 e2 B12 hb1 hb2 hb3 z2
      go_enter Try.func85, Try.ntmps85
      go_upto_region 1 with fail
      (try rw [HE.out.1, HE.out.2])
      (go_wp2_with fail; go_fit (var_at _ z); rintro e w3 ⟨rfl, b3⟩)
      obtain ⟨r0, r1, r2, r3, rf⟩ := (HB2.out.2.2.1.ext b3).four
      have HB3 := Lib.hid (Ext.trans' HB2.out.1 b3)
      clear b3 x0 x1 x2 x3 hlook
      go_wp2
      refine bodyPost_ret (v := .agg #[.int .i64 0, .int .i64 z, .string ⟨#[]⟩, .slice none 0 0]) (by rw [results_cell1 rfl]; go_simp) rfl ⟨_, rfl, leaf_tm _ i64_0 HZ.out (by unfold BIG; decide), ?_⟩
      exact Below.set4 (b := w.heap.size + 1) HB3.out (by omega) _ _ _ _
    · have hk0' : (k == 0) = false := beq_false_of_ne hk0
      have hT : subT (renV l base) (.mk k n s ts) = .mk k n s (subL (renV l base) ts) := sub_not _ hk0 _ _ _
      rw [hT]
      have hm8' : ts.length ≤ 8 := by
        by_cases hne : ts = []
        · simp [hne]
        · exact (formed_args hf hne).2.2
      rw [formedT, Bool.and_eq_true] at hf
      rw [occ_not hk0] at ho
      have IH := Lib.hid (fun (y : Tm) (hy : y ∈ ts) => renamed_at M y (mem_size h hy) l base (formed_mem hf.2 hy) (fun m hm' => ho m (mem_occL.2 ⟨y, hy, hm'⟩)) h0 h1)
      have HU := Lib.hid hu
      obtain ⟨m, hm0⟩ : ∃ m, ts.length = m := ⟨_, rfl⟩
      have HM := Lib.hid hm0
      have HYB := Lib.hid (And.intro hss (And.intro hkk hnn))
      have HMAP := Lib.hid hm
      obtain ⟨Ts, hTs⟩ : ∃ Ts, subL (renV l base) ts = Ts := ⟨_, rfl⟩
      have HTS := Lib.hid (And.intro hTs (show Ts.length = m by rw [← hTs, subL_len, hm0]))
      rw [hTs]
      rw [hm0] at hb1 hb3 hu HU X1 HB2 HE hm8' ⊢
      obtain ⟨i0, hi0, hz0, hs0, hb0⟩ := info_parts infoTerm
      have HI0 := Lib.hid (show RnI w w2 Ts [.int .i64 k, .int .i64 n, .string s, .slice a m c] 0 none 0 w2 from
        ⟨under w2.heap.size, [], rfl, by simp, Row.none _ _ _ _, Turn.refl _ _ _, ⟨fun q hq => by simp at hq, fun q hq => by simp; omega⟩, X1, X2⟩)
      obtain ⟨x0, x1, x2, x3, _⟩ := X1.four
      have hw2 : w.heap.size + 2 = w2.heap.size := by omega
      clear hT hm0 hf hv hu h X1 X2 hss hkk hnn hTs z2 hm B1 B2 z1 e1 e2 B12 hk0 ho h0 h1
      go_enter Try.func85, Try.ntmps85
      go_upto_region 1 with fail
      (try rw [HE.out.1, HE.out.2])
      go_wp2_with fail
      clear x0 x1 x2 x3
      go_loopw [5, 7, 19] (fun z _ i wr => ∃ (j : Nat) (a' : Option Addr) (c' : Nat), j ≤ m ∧ z = .slice a' j c' ∧ i = .int .i64 j ∧ Hid (RnI w w2 Ts [.int .i64 k, .int .i64 n, .string s, .slice a m c] j a' c' wr)) (fun _ _ i _ => m - (intOf i).toNat)
      case atStart => exact ⟨0, none, 0, Nat.zero_le _, rfl, rfl, HI0⟩
      case round =>
        obtain ⟨j, a', c', hj, rfl, rfl, HP⟩ := hrel
        clear HI0
        by_cases hjm : j < m
        · have hjm2 : (j : Int) < m := by omega
          obtain ⟨y, hy⟩ : ∃ y, ts[j]? = some y := ⟨_, List.getElem?_eq_getElem (by rw [HM.out]; exact hjm)⟩
          obtain ⟨D1, ps, hpl, hpm, hrow, htn, hok, hx5, hx8⟩ := HP.out
          have hbw : Below w.heap.size w wr := Below.trans HB2.out.1 ((htn.bel (Nat.le_refl _) (fun _ _ => rfl)).mono HB2.out.1.size)
          obtain ⟨gb, go, ku, nu, su, vu, rfl, _, _, _, _, d0, d1, d2, d3, hvu, htu⟩ := (HU.out.ext hbw).get hy
          obtain ⟨a5, m5, c5, rfl⟩ : ∃ a5 m5 c5, vu = .slice a5 m5 c5 := by obtain ⟨a5, c5, e, _⟩ := hvu.len; exact ⟨_, _, _, e⟩
          obtain ⟨w5, e5, b5, z5, x5⟩ := box_new wr #[.int .i64 ku, .int .i64 nu, .string su, .slice a5 m5 c5] 31
          obtain ⟨y0, y1, y2, y3, _⟩ := x5.four
          have C := IH.out y (List.mem_of_getElem? hy) w5 _ mb (TmV.ext b5 _ _ htu) (HMAP.out.ext (hbw.trans (b5.mono hbw.size)))
          have hTj : Ts[j]? = some (subT (renV l base) y) := by rw [← HTS.out.1]; exact sizes_map_drop hy
          obtain ⟨U, hUU⟩ : ∃ U, subT (renV l base) y = U := ⟨_, rfl⟩
          unfold RenP at C
          rw [hUU] at hTj C
          have HPS := Lib.hid (And.intro hpl (And.intro hpm (And.intro hrow (And.intro htn (And.intro hok (And.intro hx5 (And.intro hx8 (And.intro hTj b5))))))))
          have HE5 := Lib.hid e5
          obtain ⟨q0, q1, q2, q3, _⟩ := hx5.four
          clear hpl hpm hrow htn hok hx5 hx8 hTj b5 z5 x5 e5 hy hvu htu hUU HP hbw
          go_upto_region 7 with fail
          (try rw [HE5.out])
          clear d0 d1 d2 d3 q0 q1 q2 q3
          (go_wp2_with fail; go_fit (C); rintro e w8 ⟨v8, rfl, hT8, b8⟩)
          obtain ⟨k6, n6, s6, a6, l6, c6, rfl, f1, f2, f3, hpv⟩ := four_of hT8
          have hpc : pCells (U, .slice a6 l6 c6) = [.int .i64 k6, .int .i64 n6, .string s6, .slice a6 l6 c6] := by
            have := hpv
            simp only [pVal, Value.agg.injEq] at this
            have h2 := congrArg Array.toList this
            exact h2.symm
          obtain ⟨hpl, hpm, hrow, htn, hok, hx5, hx8, hTj, b5⟩ := HPS.out
          have hb8 := Ext.trans' b5 b8
          have hW9 : Below wr.heap.size wr (w8.alloc (.cells #[.int .i64 k6, .int .i64 n6, .string s6, .slice a6 l6 c6] 31)) := Ext.trans' hb8 (bel1' w8 _)
          have hR9 := hrow.turn (Turn.below (D := D1) (M := noM) hW9) hok.1
          have hrow9 : (w8.alloc (.cells #[.int .i64 k6, .int .i64 n6, .string s6, .slice a6 l6 c6] 31)).ownsRow w2.heap.size 31 4 (.slice a' j c') j (ps.flatMap pCells) := by
            have := hR9.1
            unfold RowP at this
            rw [hpl] at this
            exact this
          have htW : TmV (hide D1 (w8.alloc (.cells #[.int .i64 k6, .int .i64 n6, .string s6, .slice a6 l6 c6] 31))) U (pVal (U, .slice a6 l6 c6)) := by
            rw [← hpv]
            refine TmV.later (bel1' w8 _) (TmV.stay (Stays.less fun q hq => ?_) _ _ hT8)
            have hq' : w5.heap.size ≤ q := by simpa using hq
            exact hok.2 q (Nat.le_trans b5.size hq')
          have hle8 : w2.heap.size ≤ (w8.alloc (.cells #[.int .i64 k6, .int .i64 n6, .string s6, .slice a6 l6 c6] 31)).heap.size := Nat.le_trans htn.size hW9.size
          have hone : ∀ v ∈ [Value.int .i64 k6, .int .i64 n6, .string s6, .slice a6 l6 c6], v.oneCell' = true := fun v hv => by
            simp at hv
            rcases hv with rfl | rfl | rfl | rfl <;> rfl
          have HN := Lib.hid (fun (a4 : Option Addr) (c4 : Nat) (w4 : World) (ho : w4.ownsRow w2.heap.size 31 4 (.slice a4 (j + 1) c4) (j + 1) (ps.flatMap pCells ++ [.int .i64 k6, .int .i64 n6, .string s6, .slice a6 l6 c6])) (hg : (w8.alloc (.cells #[.int .i64 k6, .int .i64 n6, .string s6, .slice a6 l6 c6] 31)).grownBy w4 (Value.slice a' j c').ownBlock)
              (hat : (Value.slice a4 (j + 1) c4).ownBlock = (Value.slice a' j c').ownBlock ∨ (Value.slice a4 (j + 1) c4).ownBlock = some (w8.alloc (.cells #[.int .i64 k6, .int .i64 n6, .string s6, .slice a6 l6 c6] 31)).heap.size) =>
            (show RnI w w2 Ts [.int .i64 k, .int .i64 n, .string s, .slice (some ⟨gb, go, none⟩) m c] (j + 1) a4 c4 w4 from by
              have hT9 := (htn.trans (Turn.below (D := D1) (M := noM) hW9)).grown hg (fun g hg' => (row_in hrow9 hg').1) hat
              refine ⟨withB D1 (.slice a4 (j + 1) c4), ps ++ [(U, .slice a6 l6 c6)], by rw [List.length_append, hpl]; rfl, by rw [List.map_append, hpm, take_next hTj]; rfl, hR9.more htW (hok.later hW9.size) hg hat (by rw [hpl, hpc]; exact ho), hT9, ⟨fun q hq => absurd hq (by simp), fun q hq => ?_⟩, ?_, ?_⟩
              · rw [withB_no (fun e => by have := (row_in ho e).2; omega)]
                exact hok.2 q (Nat.le_trans (Nat.le_trans hW9.size hg.size) hq)
              · exact (hx5.ext hW9).block (hg.block _ (hx5.ext hW9).lt (fun e => by have := (row_in hrow9 e.symm).1; omega)) (Nat.lt_of_lt_of_le (hx5.ext hW9).lt hg.size)
              · exact (hx8.ext hW9).block (hg.block _ (hx8.ext hW9).lt (fun e => by have := (row_in hrow9 e.symm).1; omega)) (Nat.lt_of_lt_of_le (hx8.ext hW9).lt hg.size)))
          have HROW := Lib.hid hrow9
          have HLE := Lib.hid hle8
          have HONE := Lib.hid hone
          clear hpl hpm hrow htn hok hx5 hx8 hTj b5 hb8 hW9 hR9 hrow9 htW hle8 hone C y0 y1 y2 y3 hT8 b8 hpv hpc f1 f2 f3
          go_wp2_with (at_builtin; refine wpList_append_k rfl _ _ 29 rfl w2.heap.size 31 i0 (.agg #[.int .i64 0, .int .i64 0, .string ⟨#[]⟩, .slice none 0 0]) 4 56 Try.underlying29 hi0 hz0 hs0 (by decide) hb0 rfl (.slice a' j c') j (ps.flatMap pCells) rfl HROW.out (some ⟨w8.heap.size, 0, none⟩) 1 1 [.int .i64 k6, .int .i64 n6, .string s6, .slice a6 l6 c6] rfl rfl (Or.inr ⟨_, rfl, fun j u hu => cell_new _ _ _ j u hu⟩) HONE.out (by unfold maxLen; omega) (by omega) HLE.out (j + 1) _ rfl rfl ?_; intro a4 c4 w4 hown4 hgrow4 hat4; have HN4 := Lib.hid (HN.out a4 c4 w4 hown4 hgrow4 hat4); clear hown4 hgrow4 hat4)
          go_roundw
          case rel => exact ⟨j + 1, a4, c4, by omega, rfl, by go_num, HN4⟩
          case measure => simp [intOf]; omega
        · have hjm2 : j = m := by omega
          subst hjm2
          obtain ⟨D1, ps, hpl, hpm, hrow, htn, hok, hx5, hx8⟩ := HP.out
          obtain ⟨x0, x1, x2, x3, xf⟩ := hx5.four
          have hx8' := hx8.far (c := w.heap.size) (k := 3) (u := .slice a' j c') (by omega)
          obtain ⟨y0, y1, y2, y3, yf⟩ := hx8'.four
          have HEND := Lib.hid HP.out
          clear hpl hpm hrow htn hok hx5 hx8 hx8' HP
          go_wp2
          refine bodyPost_ret (v := .agg #[.int .i64 k, .int .i64 n, .string s, .slice a' j c']) (by rw [results_cell1 rfl]; go_simp) rfl ?_
          clear x0 x1 x2 x3 xf y0 y1 y2 y3 yf
          obtain ⟨D1, ps, hpl, hpm, hrow, htn, hok, hx5, hx8⟩ := HEND.out
          have htk2 : Ts.take j = Ts := List.take_of_length_le (by rw [HTS.out.2]; exact Nat.le_refl _)
          rw [htk2] at hpm
          have hF := hrow.fin htn hok (by rw [hpl]; omega)
          rw [fin_no (fun q hq => by simp; omega), hpm] at hF
          have hd0 : under w2.heap.size w.heap.size = true := by simp; omega
          have hd1 : under w2.heap.size (w.heap.size + 1) = true := by simp; omega
          have h2 := hF.stay (((((Stays.set (D := under w2.heap.size) ⟨w.heap.size, 3, none⟩ (.slice a' j c') hd0).trans (Stays.set ⟨w.heap.size + 1, 0, none⟩ (.int .i64 k) hd1)).trans (Stays.set ⟨w.heap.size + 1, 1, none⟩ (.int .i64 n) hd1)).trans (Stays.set ⟨w.heap.size + 1, 2, none⟩ (.string s) hd1)).trans (Stays.set ⟨w.heap.size + 1, 3, none⟩ (.slice a' j c') hd1))
          refine ⟨_, rfl, tmV_iff.2 ⟨_, rfl, HYB.out.1, HYB.out.2.1, HYB.out.2.2, h2.stay (Stays.less fun q hq => by simp at hq ⊢; omega)⟩, ?_⟩
          have hbw : Below w.heap.size w wr := Below.trans HB2.out.1 ((htn.bel (Nat.le_refl _) (fun _ _ => rfl)).mono HB2.out.1.size)
          exact Below.set4 (b := w.heap.size + 1) (hbw.setCell (p := ⟨w.heap.size, 3, none⟩) (Nat.le_refl _) _) (by omega) _ _ _ _
end Go.Proofs.Ytbbbgijlbcmpbaa
/- Package alias: From, walked. -/
namespace Go.Proofs.Ytbbbgijlbcmpbaa
open Go.RowKit Go.Maps
set_option linter.unusedVariables false

/-- What From answers: the term, the next, the error. -/
def fromE (first : Int) (x : Tm) : Tm × Int × Int :=
  if goodT x = true ∧ 0 ≤ first ∧ first ≤ 2147483647 then
    (if first + ((varsT x []).length : Int) ≤ 2147483648 then (renT first x, first + ((varsT x []).length : Int), 0) else (varV 0, 0, 3))
  else (varV 0, 0, 1)
/-- What it leaves. -/
def FromP (w : World) (first : Int) (x : Tm) (e : Ending) (w' : World) : Prop :=
  ∃ r, e = .returned (.tuple #[r, .int .i64 (fromE first x).2.1, .int .i64 (fromE first x).2.2]) ∧ TmV (hide (under w.heap.size) w') (fromE first x).1 r ∧ Below w.heap.size w w'
theorem makeMap_n {t k e : TypeId} (ht : Try.prog.underlying t = some (.map k e)) (n : Int) (w : World) : (Instr.makeMap t (some (.int .i64 n))).run Try.prog w = .ok (.map (some w.heap.size)) (w.alloc (.map #[] 0)) := by
  simp [Instr.makeMap, run_underlying ht]
  rfl
theorem varV_zero (w : World) : TmV w (varV 0) (.agg #[.int .i64 0, .int .i64 0, .string ⟨#[]⟩, .slice none 0 0]) := leaf_tm w i64_0 i64_0 (by unfold BIG; decide)
set_option maxHeartbeats 8000000 in
set_option maxRecDepth 100000 in
theorem pFrom_at (x : Tm) (first : Int) (hfi : I64 first) (w : World) (v : Value) (hv : TmV w x v) : Calls Try.prog 53 #[v, .int .i64 first] w (FromP w first x) := by
  obtain ⟨k, n, s, a, m, c, rfl⟩ := hv.full
  obtain ⟨w1, e1, B1, z1, X1⟩ := box_new w #[.int .i64 k, .int .i64 n, .string s, .slice a m c] 31
  obtain ⟨w2, e2, B2, z2, X2⟩ := box_new w1 #[.int .i64 0, .int .i64 0, .string ⟨#[]⟩, .slice none 0 0] 31
  have X1 := X1.ext B2
  have B12 := Ext.trans' B1 B2
  rw [z1] at X2 z2
  have HE := Lib.hid (And.intro e1 e2)
  have HB2 := Lib.hid (And.intro B12 (And.intro X1 (And.intro X2 z2)))
  have HV := Lib.hid (fun (wq : World) (hb : Below w.heap.size w wq) => TmV.ext hb _ _ hv)
  obtain ⟨x0, x1, x2, x3, _⟩ := X1.four
  have C := Good_at x w2 _ (HV.out _ B12)
  unfold FromP
  have bad : ∀ (wz w3 : World) (e : Int), Below w2.heap.size w2 w3 → e = 1 ∨ e = 3 → fromE first x = (varV 0, 0, e) → wz = set4 w3 (w.heap.size + 1) (.int .i64 0) (.int .i64 0) (.string ⟨#[]⟩) (.slice none 0 0) → Below w.heap.size w wz := fun wz w3 e hb _ _ hz => by
    rw [hz]
    exact Below.set4 (b := w.heap.size + 1) (Ext.trans' HB2.out.1 hb) (by omega) _ _ _ _
  have HBAD := Lib.hid bad
  clear B1 B2 z1 e1 e2 B12 X1 X2 hv bad z2
  cases hg : goodT x
  · have hr : fromE first x = (varV 0, 0, 1) := by unfold fromE; rw [hg]; simp
    rw [hr]
    rw [hg] at C
    clear hr hg
    go_enter Try.func53, Try.ntmps53
    go_upto_region 1 with fail
    (try rw [HE.out.1, HE.out.2])
    (go_wp2_with fail; go_fit (C); rintro e w3 ⟨rfl, b3⟩)
    have HB3 := Lib.hid (Ext.trans' HB2.out.1 b3)
    obtain ⟨r0, r1, r2, r3, rf⟩ := (HB2.out.2.2.1.ext b3).four
    clear b3
    go_wp2
    refine bodyPost_ret (v := .tuple #[.agg #[.int .i64 0, .int .i64 0, .string ⟨#[]⟩, .slice none 0 0], .int .i64 0, .int .i64 1]) (by rw [results_cell3' rfl]; go_simp) rfl ⟨_, rfl, varV_zero _, ?_⟩
    exact Below.set4 (b := w.heap.size + 1) HB3.out (by omega) _ _ _ _
  · rw [hg] at C
    by_cases hlo : first < 0
    · have hr : fromE first x = (varV 0, 0, 1) := by unfold fromE; rw [if_neg (by omega)]
      rw [hr]
      have hlo2 : decide (first < 0) = true := by simpa using hlo
      clear hr hg
      go_enter Try.func53, Try.ntmps53
      go_upto_region 1 with fail
      (try rw [HE.out.1, HE.out.2])
      (go_wp2_with fail; go_fit (C); rintro e w3 ⟨rfl, b3⟩)
      have HB3 := Lib.hid (Ext.trans' HB2.out.1 b3)
      obtain ⟨r0, r1, r2, r3, rf⟩ := (HB2.out.2.2.1.ext b3).four
      clear b3
      go_wp2
      refine bodyPost_ret (v := .tuple #[.agg #[.int .i64 0, .int .i64 0, .string ⟨#[]⟩, .slice none 0 0], .int .i64 0, .int .i64 1]) (by rw [results_cell3' rfl]; go_simp) rfl ⟨_, rfl, varV_zero _, ?_⟩
      exact Below.set4 (b := w.heap.size + 1) HB3.out (by omega) _ _ _ _
    have hlo2 : decide (first < 0) = false := by simpa using hlo
    by_cases hhi : 2147483647 < first
    · have hr : fromE first x = (varV 0, 0, 1) := by unfold fromE; rw [if_neg (by omega)]
      rw [hr]
      have hhi2 : decide ((2147483647 : Int) < first) = true := by simpa using hhi
      clear hr hg
      go_enter Try.func53, Try.ntmps53
      go_upto_region 1 with fail
      (try rw [HE.out.1, HE.out.2])
      (go_wp2_with fail; go_fit (C); rintro e w3 ⟨rfl, b3⟩)
      have HB3 := Lib.hid (Ext.trans' HB2.out.1 b3)
      obtain ⟨r0, r1, r2, r3, rf⟩ := (HB2.out.2.2.1.ext b3).four
      clear b3
      go_wp2
      refine bodyPost_ret (v := .tuple #[.agg #[.int .i64 0, .int .i64 0, .string ⟨#[]⟩, .slice none 0 0], .int .i64 0, .int .i64 1]) (by rw [results_cell3' rfl]; go_simp) rfl ⟨_, rfl, varV_zero _, ?_⟩
      exact Below.set4 (b := w.heap.size + 1) HB3.out (by omega) _ _ _ _
    have hhi2 : decide ((2147483647 : Int) < first) = false := by simpa using hhi
    have hlen := xvars_len x []
    have hsz := (good_parts hg).1
    obtain ⟨L, hL⟩ : ∃ L, (varsT x []).length = L := ⟨_, rfl⟩
    have hLb : L ≤ 2000 := by simp at hlen; omega
    obtain ⟨z, hz⟩ : ∃ z, first + (L : Int) = z := ⟨_, rfl⟩
    have hwz : IntKind.i64.wrap z = z := by rw [IntKind.wrap_i64]; omega
    obtain ⟨p, hp⟩ : ∃ p, z - 1 = p := ⟨_, rfl⟩
    have hwp : IntKind.i64.wrap p = p := by rw [IntKind.wrap_i64]; omega
    have HVR := Lib.hid (fun (wq : World) (hb : Below w.heap.size w wq) => Vars_at x wq _ (HV.out _ hb))
    rw [hg, if_pos rfl] at HVR
    by_cases hov : 2147483648 < z
    · have hr : fromE first x = (varV 0, 0, 3) := by unfold fromE; rw [if_pos ⟨hg, by omega, by omega⟩, hL, if_neg (by omega)]
      rw [hr]
      have hov2 : (2147483647 : Int) < p := by omega
      have hov3 : decide ((2147483647 : Int) < p) = true := by simpa using hov2
      have HL := Lib.hid hL
      clear hr hg hlen hsz hL
      go_enter Try.func53, Try.ntmps53
      go_upto_region 1 with fail
      (try rw [HE.out.1, HE.out.2])
      (go_wp2_with fail; go_fit (C); rintro e w3 ⟨rfl, b3⟩)
      have HB3 := Lib.hid (Ext.trans' HB2.out.1 b3)
      have HX3 := Lib.hid (And.intro (HB2.out.2.1.ext b3) (HB2.out.2.2.1.ext b3))
      clear b3 C x0 x1 x2 x3
      obtain ⟨x0, x1, x2, x3, _⟩ := HX3.out.1.four
      have C := HVR.out w3 HB3.out
      (go_wp2_with fail; go_fit (C); rintro e w4 ⟨rv, rfl, hnv, b4⟩)
      obtain ⟨ra, rc, rfl, hrc1, hrc2⟩ := hnv.len
      rw [HL.out] at hrc1 ⊢
      unfold maxLen at hrc2
      have HB4 := Lib.hid (Ext.trans' HB3.out b4)
      obtain ⟨r0, r1, r2, r3, rf⟩ := (HX3.out.2.ext b4).four
      clear b4 C x0 x1 x2 x3 hnv
      go_wp2
      refine bodyPost_ret (v := .tuple #[.agg #[.int .i64 0, .int .i64 0, .string ⟨#[]⟩, .slice none 0 0], .int .i64 0, .int .i64 3]) (by rw [results_cell3' rfl]; go_simp) rfl ⟨_, rfl, varV_zero _, ?_⟩
      exact Below.set4 (b := w.heap.size + 1) HB4.out (by omega) _ _ _ _
    · have hr : fromE first x = (renT first x, z, 0) := by unfold fromE; rw [if_pos ⟨hg, by omega, by omega⟩, hL, if_pos (by omega), hz]
      rw [hr]
      have hov2 : ¬ (2147483647 : Int) < p := by omega
      have hov3 : decide ((2147483647 : Int) < p) = false := by simpa using hov2
      have HRN := Lib.hid (fun (wq : World) (hb : Below w.heap.size w wq) (mb : Nat) (hm : NumM wq mb first (varsT x [])) => renamed_at _ x (Nat.le_refl _) (varsT x []) first (good_parts hg).2.2 (fun i hi => (mem_vars2 x []).2 (Or.inr hi)) (by omega) (by rw [hL]; omega) wq _ mb (HV.out _ hb) hm)
      have HI64 := Lib.hid (fun (i : Int) (hi : i ∈ varsT x []) => occ_i64 x _ (HV.out w (Below.refl _ _)) i (((mem_vars2 x []).1 hi).elim (fun q => by cases q) id))
      have HND := Lib.hid (vars_nodup x [] List.nodup_nil)
      have HL := Lib.hid hL
      have HT := Lib.hid (show subT (renV (varsT x []) first) x = renT first x from rfl)
      obtain ⟨l, hl⟩ : ∃ l, varsT x [] = l := ⟨_, rfl⟩
      rw [hl] at HVR HRN HND HL HT HI64
      have HFI := Lib.hid (And.intro (show 0 ≤ first ∧ first ≤ 2147483647 from ⟨by omega, by omega⟩) (And.intro hz hLb))
      have hmm := makeMap_n Try.underlying117
      have hbig : (L : Int) ≤ 2000 := by omega
      clear hr hg hlen hsz hL hl hfi hov hlo hhi
      go_enter Try.func53, Try.ntmps53
      go_upto_region 1 with fail
      (try rw [HE.out.1, HE.out.2])
      (go_wp2_with fail; go_fit (C); rintro e w3 ⟨rfl, b3⟩)
      have HB3 := Lib.hid (Ext.trans' HB2.out.1 b3)
      have HX3 := Lib.hid (And.intro (HB2.out.2.1.ext b3) (HB2.out.2.2.1.ext b3))
      clear b3 C x0 x1 x2 x3
      obtain ⟨x0, x1, x2, x3, _⟩ := HX3.out.1.four
      have C := HVR.out w3 HB3.out
      (go_wp2_with fail; go_fit (C); rintro e w4 ⟨rv, rfl, hnv, b4⟩)
      obtain ⟨ra, rc, rfl, hrc1, hrc2⟩ := hnv.len
      have HNV := Lib.hid hnv
      rw [HL.out] at hrc1 HNV ⊢
      unfold maxLen at hrc2
      have HB4 := Lib.hid (Ext.trans' HB3.out b4)
      have HX4 := Lib.hid (And.intro (HX3.out.1.ext b4) (HX3.out.2.ext b4))
      clear b4 C x0 x1 x2 x3 hnv
      go_upto_region 8 with fail
      clear hmm
      obtain ⟨w5, e5⟩ : ∃ w5, w4.alloc (.map #[] 0) = w5 := ⟨_, rfl⟩
      have hb5 : Below w4.heap.size w4 w5 := by rw [← e5]; exact bel1' _ _
      have HB45 := Lib.hid hb5
      have H5 := Lib.hid (And.intro (show NumM w5 w4.heap.size first (l.take 0) by rw [← e5]; exact NumM.nil _ _) (And.intro (show Below w.heap.size w w5 from Ext.trans' HB4.out hb5) (And.intro (HX4.out.1.ext hb5) (HX4.out.2.ext hb5))))
      rw [e5]
      clear e5 hb5
      obtain ⟨mb, hmb⟩ : ∃ mb, w4.heap.size = mb := ⟨_, rfl⟩
      have hmbw : w.heap.size + 1 < mb := by have := HX4.out.2.lt; omega
      have HMB := Lib.hid hmb
      rw [hmb] at H5 ⊢
      clear hmb
      go_wp2_with fail
      go_loopw [10, 11, 39] (fun _ _ i wr => ∃ j : Nat, j ≤ L ∧ i = .int .i64 j ∧ Hid (NumM wr mb first (l.take j) ∧ Touch [mb] w5 wr)) (fun _ _ i _ => L - (intOf i).toNat)
      case atStart => exact ⟨0, Nat.zero_le _, rfl, Lib.hid ⟨H5.out.1, Touch.of_below (Below.refl _ _) _⟩⟩
      case round =>
        obtain ⟨j, hj, rfl, HP⟩ := hrel
        by_cases hjL : j < L
        · have hjL2 : (j : Int) < L := by omega
          obtain ⟨y, hy⟩ : ∃ y, l[j]? = some y := ⟨_, List.getElem?_eq_getElem (by rw [HL.out]; exact hjL)⟩
          obtain ⟨gb, go, rfl, hgb, c0⟩ := HNV.out.get hy
          have c0 : wr.cell? ⟨gb, go + j, none⟩ = some (.int .i64 y) := cell_later (HB45.out.trans (HP.out.2.below (B := w4.heap.size) HB45.out.size (fun q hq => by have := HMB.out; simp at hq; omega))) c0
          have hI := HI64.out y (List.mem_of_getElem? hy)
          have hnot : ¬ y ∈ l.take j := fun hm => by
            obtain ⟨q, hq, e⟩ := List.getElem_of_mem hm
            have hql : q < j := by rw [List.length_take] at hq; omega
            rw [List.getElem_take] at e
            have := (List.getElem?_inj (i := q) (j := j) (by rw [HL.out]; omega) HND.out).1 (by rw [hy, List.getElem?_eq_getElem (by rw [HL.out]; omega), e])
            omega
          obtain ⟨zj, hzj⟩ : ∃ zj, first + (j : Int) = zj := ⟨_, rfl⟩
          have hwj : IntKind.i64.wrap zj = zj := by have := HFI.out.1; rw [IntKind.wrap_i64]; omega
          have hlt : (l.take j).length = j := by rw [List.length_take, HL.out]; omega
          obtain ⟨w6, hrun, hm6, t6⟩ := HP.out.1.store hI (by rw [hlt]; unfold maxLen; omega) hnot (z := zj) (by rw [hlt]; exact hzj) (by have := HFI.out.1; unfold I64; omega)
          have H6 := Lib.hid (show NumM w6 mb first (l.take (j + 1)) ∧ Touch [mb] w5 w6 from ⟨by rw [take_next hy]; exact hm6, HP.out.2.trans t6 (fun q hq => Or.inl hq)⟩)
          clear hy hgb hI hnot hlt hm6 t6 HP
          go_wp2
          go_roundw
          case rel => exact ⟨j + 1, by omega, by go_num, H6⟩
          case measure => simp [intOf]; omega
        · have hjL2 : j = L := by omega
          subst hjL2
          have hbw : Below w.heap.size w wr := H5.out.2.1.trans ((HP.out.2.below (B := w.heap.size) H5.out.2.1.size (fun q hq => by simp at hq; omega)))
          have hx1 := HP.out.2.box (by simp; omega) H5.out.2.2.1
          have hx2 := HP.out.2.box (by simp; omega) H5.out.2.2.2
          have C := HRN.out wr hbw mb (by have := HP.out.1; rw [List.take_of_length_le (by rw [HL.out]; exact Nat.le_refl _)] at this; exact this)
          rw [HT.out] at C
          obtain ⟨x0, x1, x2, x3, _⟩ := hx1.four
          have HX := Lib.hid (And.intro hbw hx2)
          have hltr : w.heap.size + 1 < wr.heap.size := hx2.lt
          clear hbw hx1 hx2
          (go_wp2_with fail; go_fit (C); rintro e w7 ⟨v7, rfl, ht7, b7⟩)
          obtain ⟨k5, n5, s5, a5, l5, c5, rfl, f1, f2, f3, f4⟩ := four_of ht7
          have HB7 := Lib.hid (Ext.trans' HX.out.1 b7)
          obtain ⟨r0, r1, r2, r3, rf⟩ := (HX.out.2.ext b7).four
          have HFA := Lib.hid (show TmV (hide (under w.heap.size) (set4 w7 (w.heap.size + 1) (.int .i64 k5) (.int .i64 n5) (.string s5) (.slice a5 l5 c5))) (renT first x) (.agg #[.int .i64 k5, .int .i64 n5, .string s5, .slice a5 l5 c5]) from by
            have hd : under wr.heap.size (w.heap.size + 1) = true := by simp; omega
            have hle := HX.out.1.size
            exact TmV.stay (Stays.less fun k hk => by simp at hk ⊢; omega) _ _ (TmV.stay ((((Stays.set (D := under wr.heap.size) ⟨w.heap.size + 1, 0, none⟩ (.int .i64 k5) hd).trans (Stays.set ⟨w.heap.size + 1, 1, none⟩ (.int .i64 n5) hd)).trans (Stays.set ⟨w.heap.size + 1, 2, none⟩ (.string s5) hd)).trans (Stays.set ⟨w.heap.size + 1, 3, none⟩ (.slice a5 l5 c5) hd)) _ _ ht7))
          clear b7 C x0 x1 x2 x3 ht7 f1 f2 f3 f4
          go_wp2
          refine bodyPost_ret (v := .tuple #[.agg #[.int .i64 k5, .int .i64 n5, .string s5, .slice a5 l5 c5], .int .i64 z, .int .i64 0]) (by rw [results_cell3' rfl]; go_simp) rfl ⟨_, rfl, HFA.out, ?_⟩
          exact Below.set4 (b := w.heap.size + 1) HB7.out (by omega) _ _ _ _
end Go.Proofs.Ytbbbgijlbcmpbaa
