import Derived.Test.YtchbbaehdcmcfaaHsoaf
import Derived.Laws.ResultCell
set_option linter.unusedVariables false
set_option linter.unusedSimpArgs false
/- Package bind: addVars, fits. -/
namespace Go.Proofs.Ytchbbaehdcmcfaa
open Go.RowKit
set_option linter.unusedVariables false
def Moved (w w' : World) (z z' : Value) : Prop := Kept w w' z.ownBlock ∧ (z'.ownBlock = z.ownBlock ∨ ∀ k, z'.ownBlock = some k → w.heap.size ≤ k)
theorem Moved.of {w w' : World} (z : Value) (h : Below w.heap.size w w') : Moved w w' z z := ⟨Kept.of h _, Or.inl rfl⟩
theorem Moved.trans {a b c : World} {x y z : Value} (h : Moved a b x y) (g : Moved b c y z) : Moved a c x z := by
 refine ⟨h.1.trans g.1 h.2, ?_⟩
 rcases g.2 with e | e
 ·rw [e]; exact h.2
 ·exact Or.inr fun k hk => Nat.le_trans h.1.1 (e k hk)
theorem Moved.grown {w w2 w4 : World} {z z' : Value} (hb : Below w.heap.size w w2) (hg : w2.grownBy w4 z.ownBlock) (hat : z'.ownBlock = z.ownBlock ∨ z'.ownBlock = some w2.heap.size) : Moved w w4 z z' := by
 refine ⟨⟨Nat.le_trans hb.size hg.size, fun k hk hn => (hg.block k (Nat.lt_of_lt_of_le hk hb.size) (fun e => hn e.symm)).trans (hb.block k hk)⟩, hat.imp id fun e k hk => ?_⟩
 rw [e] at hk
 injection hk with hk
 rw [← hk]; exact hb.size
theorem occs_step {ts : List Tm} {i : Nat} {y : Tm} (h : ts[i]? = some y) : occL (ts.take (i + 1)) = occL (ts.take i) ++ occT y := by
 have key : ∀ (a b : List Tm), occL (a ++ b) = occL a ++ occL b := by
  intro a b
  induction a with
  | nil => rfl
  | cons x r ih => rw [List.cons_append, occL, occL, ih, List.append_assoc]
 rw [List.take_add_one, h, key]
 show occL (ts.take i) ++ (occT y ++ []) = _
 rw [List.append_nil]
set_option maxHeartbeats 4000000 in
set_option maxRecDepth 100000 in
theorem badd_var {W w : World} {n : Int} {s : ByteArray} {au lw : Value} {l : List Int} (hb : Below W.heap.size W w) (hr : RowN w W.heap.size lw l) (hl : l.length ≤ 1000000000) :
  Calls Try.prog 97 #[lw, .agg #[.int .i64 0, .int .i64 n, .string s, au]] w fun e w' => ∃ r, e = .returned r ∧ RowN w' W.heap.size r (l ++ [n]) ∧ Below W.heap.size W w' ∧ Moved w w' lw r := by
 have hbb := bel1' w (box4 0 n s au 31)
 obtain ⟨i0, hi0, hz0, hs0, hb0⟩ := info_parts infoI64
 have hlt := hr.lt
 obtain ⟨m, hm⟩ : ∃ m, l.length = m := ⟨_, rfl⟩
 have HBW := Lib.hid hb
 have hWs : W.heap.size ≤ w.heap.size := hb.size
 have HBB := Lib.hid hbb
 have HR2 : Hid (w.ownsRow W.heap.size 2 1 lw m (l.flatMap numCells)) := Lib.hid (by have := hr; unfold RowN at this; rw [hm] at this; exact this)
 have HM := Lib.hid hm
 have HLT := Lib.hid hlt
 rw [hm] at hl
 obtain ⟨al, cl, rfl, h1⟩ := row_formk HR2.out
 clear hr hb hm hlt hbb
 go_enter Try.func97, Try.ntmps97
 go_wp2_with (at_builtin; refine wpList_append_k rfl _ _ 57 rfl W.heap.size 2 i0 (.int .i64 0) 1 8 Try.underlying57 hi0 hz0 hs0 (by decide) hb0 rfl (.slice al m cl) m (l.flatMap numCells) rfl ((HR2.out.alloc _).alloc _) _ 1 1 [.int .i64 n] rfl rfl (Or.inr ⟨⟨w.heap.size + 1, 0, none⟩, rfl, fun j u hu => by have := cell_one_new' (w := w) (box4 0 n s au 31) (.int .i64 n) 2 j u hu; exact this⟩) (fun u hu => by simp at hu; subst hu; rfl) (by unfold maxLen; omega) (by omega) (by simp; omega) (m + 1) ((l ++ [n]).flatMap numCells) rfl (by rw [List.flatMap_append]; rfl) ?_; intro a4 c4 w4 hown4 hgrow4 hat4)
 have HFIN : Hid (RowN w4 W.heap.size (.slice a4 (m + 1) c4) (l ++ [n]) ∧ Below W.heap.size W w4 ∧ Moved w w4 (.slice al m cl) (.slice a4 (m + 1) c4)) := Lib.hid ⟨by
  unfold RowN
  rw [List.length_append, HM.out]
  exact hown4, ((Ext.trans' HBW.out HBB.out).alloc (by simp; omega) _).grown hgrow4 (by simp; omega) (fun q hq => (HLT.out q hq).1), Moved.grown (Ext.trans' HBB.out (bel1' _ _)) hgrow4 hat4⟩
 clear hown4 hgrow4 hat4
 go_ret
 exact ⟨_, rfl, HFIN.out⟩
set_option maxHeartbeats 4000000 in
set_option maxRecDepth 100000 in
theorem badd_at : ∀ (N : Nat) (x : Tm), sizeN x ≤ N → ∀ (W w : World) (v lv : Value) (l : List Int), TmV W x v → Below W.heap.size W w → RowN w W.heap.size lv l → l.length + sizeN x ≤ 1000000000 →
  Calls Try.prog 97 #[lv, v] w fun e w' => ∃ r, e = .returned r ∧ RowN w' W.heap.size r (l ++ occT x) ∧ Below W.heap.size W w' ∧ Moved w w' lv r
 | 0, x, h, W, w, v, lv, l, hv, hb, hr, hl => by have := size_pos x; omega
 | N + 1, .mk k n s ts, h, W, w, v, lv, l, hv, hb, hr, hl => by
  obtain ⟨u, rfl, hs, hki, hni, hu⟩ := tmV_iff.1 hv
  obtain ⟨a, c, rfl, h1, h2, h3⟩ := hu.len
  by_cases hk : k = 0
  ·subst hk
   rw [occ_var]
   have := size_pos (.mk 0 n s ts)
   exact badd_var hb hr (by omega)
  rw [occ_not hk]
  have hk' : (k == 0) = false := beq_false_of_ne hk
  unfold BIG at h3
  obtain ⟨m, hm⟩ : ∃ m, ts.length = m := ⟨_, rfl⟩
  have IH := Lib.hid (fun (y : Tm) (hy : y ∈ ts) => badd_at N y (mem_size h hy) W)
  have HL := Lib.hid (show l.length + sizesN ts ≤ 1000000000 by rw [sizeN] at hl; omega)
  have HU := Lib.hid hu
  have HM := Lib.hid hm
  rw [hm] at h1 h3 hu HU ⊢
  have HBW := Lib.hid hb
  have HROW := Lib.hid hr
  obtain ⟨R, hR⟩ : ∃ R, l ++ occL ts = R := ⟨_, rfl⟩
  rw [hR]
  have HR := Lib.hid hR
  clear hk hv hb hr hl hu hm hR h
  go_enter Try.func97, Try.ntmps97
  go_wp2_with fail
  go_loopw [0, 18] (fun z v wr => ∃ i : Nat, i ≤ m ∧ v = .int .i64 i ∧ Hid (RowN wr W.heap.size z (l ++ occL (ts.take i)) ∧ Moved w wr lv z) ∧ Hid (Below W.heap.size W wr)) (fun _ v _ => m - (RowKit.intOf v).toNat)
  case atStart => exact ⟨0, Nat.zero_le _, rfl, Lib.hid ⟨by rw [List.take_zero, occL, List.append_nil]; exact row_ext HROW.out (bel1' _ _), Moved.of _ (bel1' _ _)⟩, Lib.hid (Ext.trans' HBW.out (bel1' _ _))⟩
  case round =>
   obtain ⟨i, hi, rfl, HZ, HB⟩ := hrel
   by_cases hil : i < m
   ·obtain ⟨y, hy⟩ : ∃ y, ts[i]? = some y := ⟨_, List.getElem?_eq_getElem (by rw [HM.out]; exact hil)⟩
    obtain ⟨b, off, k1, n1, s1, u1, rfl, hbb, _, _, _, c0, c1, c2, c3, htu, ht⟩ := HU.out.get hy
    obtain ⟨au, cu, rfl, _⟩ := htu.len
    clear htu
    have d0 := cell_later HB.out c0
    have d1 := cell_later HB.out c1
    have d2 := cell_later HB.out c2
    have d3 := cell_later HB.out c3
    have hbx := bel1' wr (box4 k1 n1 s1 (.slice au y.args.length cu) 31)
    have hlen : (l ++ occL (ts.take i)).length + sizeN y ≤ 1000000000 := by
     have h1 := sizes_drop' hy
     have h2 := sizes_take' ts (i + 1)
     have h3 := occs_len (ts.take i)
     have h4 := HL.out
     rw [List.length_append]
     omega
    have ih := IH.out y (List.mem_of_getElem? hy) _ _ _ _ ht (HB.out.trans (hbx.mono HB.out.size)) (row_ext HZ.out.1 hbx) hlen
    rw [List.append_assoc, ← occs_step hy] at ih
    have hmv := HZ.out.2.trans (Moved.of _ hbx)
    have HMV := Lib.hid hmv
    clear hmv
    clear c0 c1 c2 c3 hlen ht hy hbx
    (go_wp2_with fail; go_fit (ih); rintro e w2 ⟨r2, rfl, hr2, b2, m2⟩)
    have HZ2 := Lib.hid (And.intro hr2 (HMV.out.trans m2))
    have HB2 := Lib.hid b2
    clear hr2 b2 m2 HZ HB d0 d1 d2 d3
    go_wp2
    go_roundw
    case rel => exact ⟨i + 1, by omega, by go_num, HZ2, HB2⟩
    case measure => simp [RowKit.intOf]; omega
   ·have hR2 : l ++ occL (ts.take i) = R := by rw [← HR.out, List.take_of_length_le (by rw [HM.out]; omega)]
    have HZ2 := HZ.out.1
    have HMV := Lib.hid HZ.out.2
    rw [hR2] at HZ2
    clear hR2 HZ HR
    go_wp2
    go_ret
    exact ⟨_, rfl, HZ2, HB.out, HMV.out⟩
section
variable {V w : World} {F : List Nat} {p : Value} {N : Nat} {R : List (Int × Tm)}
def fitsB (N : Nat) (x : Tm) : Bool := goodT x && (occT x).all fun m => decide (0 ≤ m) && decide (m < (N : Int))
theorem fitsB_true {N : Nat} {x : Tm} : fitsB N x = true ↔ goodT x = true ∧ ∀ m ∈ occT x, 0 ≤ m ∧ m < (N : Int) := by
 unfold fitsB
 simp only [Bool.and_eq_true, List.all_eq_true, decide_eq_true_eq]
mutual
theorem occ_i64 {w : World} : ∀ (x : Tm) (v : Value), TmV w x v → ∀ m ∈ occT x, I64 m
 | .mk k n s ts, v, h, m, hm => by
  rw [TmV] at h
  obtain ⟨a, c, h1, h2, h3, h4, h5, h6, h7, h8⟩ := h
  by_cases hk : k = 0
  ·subst hk
   rw [occ_var] at hm
   simp at hm
   subst hm
   exact h7
  ·rw [occ_not hk] at hm
   rcases h8 with h8 | ⟨b, off, e1, e2, e3⟩
   ·subst h8; simp [occL] at hm
   ·exact occs_i64 ts b off e3 m hm
theorem occs_i64 {w : World} : ∀ (l : List Tm) (b off : Nat), TmRow w l b off → ∀ m ∈ occL l, I64 m
 | [], b, off, _, m, hm => by simp [occL] at hm
 | x :: r, b, off, h, m, hm => by
  rw [TmRow] at h
  obtain ⟨⟨c0, c1, c2, c3, h0, h1, h2, h3, h4⟩, h5⟩ := h
  rw [occL] at hm
  rcases List.mem_append.1 hm with hm | hm
  ·exact occ_i64 x _ h4 m hm
  ·exact occs_i64 r b (off + 4) h5 m hm
end
set_option maxHeartbeats 4000000 in
theorem fits_at' (h : IsB V F w p N R) {x : Tm} {v : Value} (hv : TmV w x v) : Calls Try.prog 62 #[p, v] w fun e w' => e = .returned (.bool (fitsB N x)) ∧ Below w.heap.size w w' := by
 have G := fun w (h : TmV w x v) => Good_at x w v h
 have V' := fun w1 (hb : Below w.heap.size w w1) (hs : goodT x = true) => badd_at _ x (Nat.le_refl _) w w1 v (.slice none 0 0) [] hv hb (RowN.nil _ _) (by have := (good_parts hs).1; simp; omega)
 have GV := fun w1 (hb : Below w.heap.size w w1) => given_at (h.ext hb)
 have HI := Lib.hid (occ_i64 x v hv)
 obtain ⟨k, n, s, a, m, c, rfl⟩ := hv.full
 have hv0 := TmV.ext (bel1' w (box4 k n s (.slice a m c) 31)) _ _ hv
 obtain ⟨bt, av, cv, bs, rfl, hlt, c0, c1, h1, h2, hs⟩ := h.open
 clear hs c0 c1 h1 h2
 cases hg : goodT x
 ·have hr : fitsB N x = false := by unfold fitsB; rw [hg]; rfl
  rw [hg] at G
  rw [hr]
  clear V' hg hv hr GV
  go_enter Try.func62, Try.ntmps62
  (go_wp2_with fail; go_fit (G _ hv0); rintro e w1 ⟨rfl, b1⟩)
  have B1 := Lib.hid (Ext.trans' (bel1' w _) b1)
  clear b1
  go_wp2
  go_ret
  exact ⟨rfl, B1.out⟩
 ·obtain ⟨b, hbb⟩ : ∃ b, fitsB N x = b := ⟨_, rfl⟩
  have HF := Lib.hid (show (occT x).all (fun m => decide (0 ≤ m) && decide (m < (N : Int))) = b by rw [← hbb]; unfold fitsB; rw [hg]; rfl)
  have HLN := Lib.hid (show (occT x).length ≤ 2000 by have := (good_parts hg).1; have := occ_len x; omega)
  rw [hg] at G
  rw [hbb]
  have V2 := fun w h => V' w h hg
  have HGV := Lib.hid GV
  clear V' hg hv hbb GV h
  go_enter Try.func62, Try.ntmps62
  (go_wp2_with fail; go_fit (G _ hv0); rintro e w1 ⟨rfl, b1⟩)
  obtain ⟨e0, e1, e2, e3⟩ := box_cells w 31 _ _ _ _ b1
  have B1 := Lib.hid (Ext.trans' (bel1' w _) b1)
  clear b1 hv0
  (go_wp2_with fail; go_fit (V2 _ B1.out); rintro e w2 ⟨r, rfl, hr, b2, _⟩)
  have hn := hr.nums
  rw [List.nil_append] at hn
  obtain ⟨ra, rc, rfl, l1, l2⟩ := hn.len
  have HN := Lib.hid hn
  have B2 := Lib.hid b2
  obtain ⟨q, hq⟩ : ∃ q, (occT x).length = q := ⟨_, rfl⟩
  have HQ := Lib.hid hq
  have hq2 := HLN.out
  rw [hq] at hq2 l1 HN ⊢
  clear hr b2 V2 hn e0 e1 e2 e3 hq
  go_wp2_with fail
  go_loopw [13] (fun v wr => ∃ i : Nat, i ≤ q ∧ v = .int .i64 i ∧ Hid (((occT x).drop i).all (fun m => decide (0 ≤ m) && decide (m < (N : Int))) = b) ∧ Hid (wr = w2)) (fun v _ => q - (RowKit.intOf v).toNat)
  case atStart => exact ⟨0, Nat.zero_le _, rfl, Lib.hid (by rw [List.drop_zero]; exact HF.out), Lib.hid rfl⟩
  case round =>
   obtain ⟨i, hi, rfl, HD, HWR⟩ := hrel
   obtain rfl := HWR.out
   clear HWR
   by_cases hil : i < q
   ·obtain ⟨y, hy⟩ : ∃ y, (occT x)[i]? = some y := ⟨_, List.getElem?_eq_getElem (by rw [HQ.out]; exact hil)⟩
    obtain ⟨gb, go, rfl, _, c0⟩ := HN.out.get hy
    have hd := HD.out
    rw [List.drop_eq_getElem_cons (by rw [HQ.out]; exact hil), List.all_cons, show (occT x)[i]'(by rw [HQ.out]; exact hil) = y by rw [List.getElem?_eq_getElem (by rw [HQ.out]; exact hil)] at hy; exact Option.some.inj hy] at hd
    have C := HGV.out _ B2.out y (HI.out y (List.mem_of_getElem? hy))
    cases hy2 : (decide (0 ≤ y) && decide (y < (N : Int)))
    ·rw [hy2] at C hd
     rw [Bool.false_and] at hd
     subst hd
     clear HF HD hy hy2
     (go_wp2_with fail; go_fit (C); rintro e w3 ⟨rfl, rfl⟩)
     go_wp2
     go_ret
     exact ⟨rfl, B2.out⟩
    ·rw [hy2] at C hd
     rw [Bool.true_and] at hd
     have HD2 := Lib.hid hd
     clear HD hd hy hy2
     (go_wp2_with fail; go_fit (C); rintro e w3 ⟨rfl, rfl⟩)
     go_wp2
     go_roundw
     case rel => exact ⟨i + 1, by omega, by go_num, HD2, (by first | exact Lib.hid rfl | exact Lib.hid trivial)⟩
     case measure => simp [RowKit.intOf]; omega
   ·have hd := HD.out
    rw [List.drop_eq_nil_of_le (by rw [HQ.out]; omega)] at hd
    have hd2 : b = true := by rw [← hd]; rfl
    subst hd2
    clear HF HD hd
    go_wp2
    go_ret
    exact ⟨rfl, B2.out⟩
end
end Go.Proofs.Ytchbbaehdcmcfaa
/- Package bind: whole. -/
namespace Go.Proofs.Ytchbbaehdcmcfaa
open Go.RowKit
set_option linter.unusedVariables false
abbrev under (n : Nat) : Nat → Bool := fun k => decide (k < n)
def NumC (w : World) (b : Nat) (z : Int) : Prop := w.cell? ⟨b, 0, none⟩ = some (.int .i64 z) ∧ w.frozen? ⟨b, 0, none⟩ = false ∧ b < w.heap.size
theorem NumC.ext {w w' : World} {b : Nat} {z : Int} (h : NumC w b z) (hb : Below w.heap.size w w') : NumC w' b z :=
 ⟨cell_later hb h.1, (hb.frozen (p := ⟨b, 0, none⟩) h.2.2).trans h.2.1, Nat.lt_of_lt_of_le h.2.2 hb.size⟩
theorem NumC.put {w : World} {b : Nat} {z : Int} (h : NumC w b z) (y : Int) : NumC (w.setCell ⟨b, 0, none⟩ (.int .i64 y)) b y :=
 ⟨css h.1, by rw [World.frozen?_setCell]; exact h.2.1, by simpa [World.setCell] using h.2.2⟩
theorem touch_one (w : World) (b o : Nat) (u : Value) : Touch [b] w (w.setCell ⟨b, o, none⟩ u) :=
 ⟨rfl, rfl, rfl, by simp [World.setCell], fun k _ hn => Below.heap_setCell w _ u k (fun e => hn (by simp [e]))⟩
theorem IsB.touch {V w w' : World} {F : List Nat} {p : Value} {N : Nat} {R : List (Int × Tm)} (h : IsB V F w p N R) {T : List Nat} (ht : Touch T w w') (hn : ∀ k ∈ T, ¬ k ∈ F) (hb : Blind V T) : IsB V F w' p N R :=
 h.keep (fun k hk => ht.block k (h.lt k hk) (fun hm => hn k hm hk)) (h.see.1.touch hb ht)
def WPost (w : World) (rb room q : Nat) (T : Tm) (e : Ending) (w' : World) : Prop :=
 ∃ v' b, e = .returned (.tuple #[v', .bool b]) ∧ Touch [rb] w w' ∧ (b = true ↔ sizeN T ≤ room ∧ depthN T ≤ q) ∧ (b = true → TmV (hide (under w.heap.size) w') T v' ∧ NumC w' rb ((room : Int) - sizeN T)) ∧ (b = false → v' = .agg #[.int .i64 0, .int .i64 0, .string ⟨#[]⟩, .slice none 0 0])
theorem topped {R : List (Int × Tm)} {y : Tm} (hg : goodT y = true) (ht : topB R y) : subT (fullB R) y = .mk y.k y.n y.s (subL (fullB R) y.args) := by
 cases y with
 | mk k n s ts =>
  by_cases hk : k = 0
  ·subst hk
   have hv := (formed_var (good_parts hg).2.2).1
   have h0 : getB R n = none := ht rfl
   rw [sub_var, full_free (get_none.1 h0)]
   unfold varV at hv ⊢
   injection hv with _ _ hs hts
   subst hs hts
   rfl
  ·rw [sub_not _ hk]
   rfl
theorem depths_take_succ {ts : List Tm} {i : Nat} {y : Tm} (h : ts[i]? = some y) : depthsN (ts.take (i + 1)) = max (depthsN (ts.take i)) (depthN y) := by
 induction ts generalizing i with
 | nil => simp at h
 | cons x r ih =>
  cases i with
  | zero => simp at h; subst h; simp [depthsN]
  | succ i =>
   simp only [List.take_succ_cons, depthsN]
   rw [ih (by simpa using h)]
   omega
theorem depths_take_le (ts : List Tm) (i : Nat) : depthsN (ts.take i) ≤ depthsN ts := by
 induction ts generalizing i with
 | nil => simp
 | cons x r ih =>
  cases i with
  | zero => simp [depthsN]
  | succ i =>
   simp only [List.take_succ_cons, depthsN]
   have := ih i
   omega
section
variable {V : World} {F : List Nat} {p : Value} {N : Nat} {R : List (Int × Tm)}
set_option maxHeartbeats 4000000 in
set_option maxRecDepth 100000 in
theorem whole_zero (q room : Nat) (hq : q ≤ 64) (hr : room ≤ 2000) (h0 : q = 0 ∨ room = 0) (w : World) {v : Value} {T : Tm} {rb : Nat} (hv : ∃ k n s u, v = .agg #[.int .i64 k, .int .i64 n, .string s, u]) (hc : NumC w rb room) :
  Calls Try.prog 63 #[p, v, .int .i64 q, .pointer (some ⟨rb, 0, none⟩)] w (WPost w rb room q T) := by
 obtain ⟨k, n, s, u, rfl⟩ := hv
 have c0 := hc.1
 have H0 := Lib.hid h0
 have hw := fun (w1 : World) (h : Below w.heap.size w w1) => cell_later h c0
 clear hc h0
 have fin : ∀ w', Below w.heap.size w w' → WPost w rb room q T (.returned (.tuple #[.agg #[.int .i64 0, .int .i64 0, .string ⟨#[]⟩, .slice none 0 0], .bool false])) w' := fun w' hb => by
  refine ⟨_, _, rfl, Touch.of_below hb _, ⟨fun h => (by cases h), fun h => ?_⟩, fun h => (by cases h), fun _ => rfl⟩
  have h1 := size_pos T
  have h2 := depth_pos T
  have h3 := H0.out
  omega
 by_cases hq0 : q = 0
 ·subst hq0
  go_enter Try.func63, Try.ntmps63
  go_wp2
  refine bodyPost_ret (v := .tuple #[.agg #[.int .i64 0, .int .i64 0, .string ⟨#[]⟩, .slice none 0 0], .bool false]) (by rw [results_cell_tmp rfl]; go_simp) rfl (fin _ ?_)
  exact Ext.trans' (bel1' w _) (bel1' _ _)
 ·obtain rfl : room = 0 := by have := H0.out; omega
  have hqz : ((q : Int) == 0) = false := by simp; omega
  have hw' := fun o1 o2 => hw ((w.alloc o1).alloc o2) (Ext.trans' (bel1' w o1) (bel1' _ o2))
  clear hw
  go_enter Try.func63, Try.ntmps63
  go_wp2
  refine bodyPost_ret (v := .tuple #[.agg #[.int .i64 0, .int .i64 0, .string ⟨#[]⟩, .slice none 0 0], .bool false]) (by rw [results_cell_tmp rfl]; go_simp) rfl (fin _ ?_)
  exact Ext.trans' (bel1' w _) (bel1' _ _)
end
end Go.Proofs.Ytchbbaehdcmcfaa
/- Package bind: whole, where there is room. -/
namespace Go.Proofs.Ytchbbaehdcmcfaa
open Go.RowKit
set_option linter.unusedVariables false
theorem Touch.more {F : List Nat} {w w' w'' : World} {row : Option Nat} (h : Touch F w w') (hg : w'.grownBy w'' row) (hr : ∀ k, row = some k → w.heap.size ≤ k) : Touch F w w'' :=
 ⟨hg.os.trans h.os, hg.tape.trans h.tape, hg.output.trans h.output, Nat.le_trans h.size hg.size, fun k hk hn => (hg.block k (Nat.lt_of_lt_of_le hk h.size) (fun e => by have := hr k e.symm; omega)).trans (h.block k hk hn)⟩
theorem Touch.then {F : List Nat} {w w' w'' : World} (h : Touch F w w') (hb : Below w'.heap.size w' w'') : Touch F w w'' := h.trans (Touch.of_below hb F) (fun k hk => Or.inl hk)
theorem Touch.setNew {F : List Nat} {w w' : World} (h : Touch F w w') (a : Addr) (u : Value) (ha : w.heap.size ≤ a.block) : Touch F w (w'.setCell a u) :=
 ⟨h.os, h.tape, h.output, Nat.le_trans h.size (by simp [World.setCell]), fun k hk hn => (Below.heap_setCell w' a u k (by omega)).trans (h.block k hk hn)⟩
theorem Touch.four {F : List Nat} {w w' : World} (h : Touch F w w') {b : Nat} (hb : w.heap.size ≤ b) (u0 u1 u2 u3 : Value) : Touch F w (set4 w' b u0 u1 u2 u3) :=
 (((h.setNew ⟨b, 0, none⟩ u0 hb).setNew ⟨b, 1, none⟩ u1 hb).setNew ⟨b, 2, none⟩ u2 hb).setNew ⟨b, 3, none⟩ u3 hb
theorem WPost.no {w w' : World} {rb room q : Nat} {T : Tm} (ht : Touch [rb] w w') (hn : ¬ (sizeN T ≤ room ∧ depthN T ≤ q)) : WPost w rb room q T (.returned (.tuple #[.agg #[.int .i64 0, .int .i64 0, .string ⟨#[]⟩, .slice none 0 0], .bool false])) w' :=
 ⟨_, _, rfl, ht, ⟨fun h => (by cases h), fun h => absurd h hn⟩, fun h => (by cases h), fun _ => rfl⟩
theorem cell_new2 (w : World) (o : Obj) (cs : Array Value) (ty : TypeId) (j : Nat) (u : Value) (h : cs.toList[j]? = some u) : ((w.alloc o).alloc (.cells cs ty)).cell? ((⟨w.heap.size + 1, 0, none⟩ : Addr).add j) = some u := by
 have h1 := cell_new (w.alloc o) cs ty j u h
 rwa [show (w.alloc o).heap.size = w.heap.size + 1 by simp] at h1
theorem set4_other (w : World) (b : Nat) (u0 u1 u2 u3 : Value) (k : Nat) (h : k ≠ b) : (set4 w b u0 u1 u2 u3).heap[k]? = w.heap[k]? :=
 (Below.heap_setCell _ _ _ k h).trans ((Below.heap_setCell _ _ _ k h).trans ((Below.heap_setCell _ _ _ k h).trans (Below.heap_setCell _ _ _ k h)))
theorem set4_size (w : World) (b : Nat) (u0 u1 u2 u3 : Value) : (set4 w b u0 u1 u2 u3).heap.size = w.heap.size := by simp [World.setCell]
theorem NumC.block {w w' : World} {b : Nat} {z : Int} (h : NumC w b z) (hb : w'.heap[b]? = w.heap[b]?) (hlt : b < w'.heap.size) : NumC w' b z :=
 ⟨by rw [World.cell?_of_block hb]; exact h.1, by rw [World.frozen?_of_block hb]; exact h.2.1, hlt⟩
structure ArgsD (D : Nat → Bool) (ps : List TmP) (n0 : Nat) (wr : World) (z : Value) (ts : List Tm) : Prop where
 low : ∀ k, k < n0 → D k = true
 old : Old D wr
 own : ∀ g, z.ownBlock = some g → D g = true
 row : RowP wr n0 31 z ps
 tms : ∀ p ∈ ps, TmV (hide D wr) p.1 (pVal p)
 map : ps.map (·.1) = ts
 size : n0 ≤ wr.heap.size
def ArgsIn (n0 : Nat) (wr : World) (z : Value) (ts : List Tm) : Prop := ∃ D ps, ArgsD D ps n0 wr z ts
theorem ArgsIn.none {n0 : Nat} {wr : World} (h : n0 ≤ wr.heap.size) : ArgsIn n0 wr (.slice none 0 0) [] :=
 ⟨under n0, [], fun k hk => by simpa using hk, fun k hk => by simp; omega, fun g hg => (by cases hg), World.ownsRow_nil _ _ _ _, fun p hp => (by cases hp), rfl, h⟩
section
variable {D : Nat → Bool} {ps : List TmP} {n0 : Nat} {wr : World} {z : Value} {ts : List Tm}
theorem ArgsD.len (h : ArgsD D ps n0 wr z ts) : ps.length = ts.length := by rw [← h.map, List.length_map]
theorem ArgsD.form (h : ArgsD D ps n0 wr z ts) : ∃ a c, z = .slice a ts.length c ∧ ts.length ≤ c ∧ c ≤ maxLen ∧ (∀ g, z.ownBlock = some g → n0 ≤ g ∧ g < wr.heap.size) := by
 have hl := h.len
 obtain ⟨a, c, rfl, e1, e2, _⟩ := Elems.owned pCells_len h.row
 exact ⟨a, c, by rw [hl], by omega, e2, fun g hg => row_in h.row hg⟩
theorem ArgsD.touch (h : ArgsD D ps n0 wr z ts) {w' : World} {T : List Nat} (ht : Touch T wr w') (hT : ∀ k ∈ T, k < n0) : ArgsD D ps n0 w' z ts := by
 obtain ⟨h1, h2, h3, h4, h5, h6, h7⟩ := h
 refine ⟨h1, h2.mono ht.size, h3, row_at h4 (fun g hg => ht.block g (row_in h4 hg).2 (fun hm => by have := hT g hm; have := (row_in h4 hg).1; omega)), fun p hp => ?_, h6, Nat.le_trans h7 ht.size⟩
 exact TmV.stay (Stays.hide ht.size fun k hk hd => ⟨hd, ht.block k hk (fun hm => by rw [h1 k (hT k hm)] at hd; cases hd)⟩) _ _ (h5 p hp)
theorem ArgsD.more (h : ArgsD D ps n0 wr z ts) {w9 w' : World} {z' : Value} {T : List Nat} (ht : Touch T wr w9) (hT : ∀ k ∈ T, k < n0) {p : TmP} (hp : TmV (hide (under wr.heap.size) w9) p.1 (pVal p))
  (hg : w9.grownBy w' z.ownBlock) (hv : z'.ownBlock = z.ownBlock ∨ z'.ownBlock = some w9.heap.size) (hr : w'.ownsRow n0 31 4 z' (ps.length + 1) (ps.flatMap pCells ++ pCells p)) : ArgsIn n0 w' z' (ts ++ [p.1]) := by
 have h9 := h.touch ht hT
 have hs := grown_stays hg h.own hv
 refine ⟨withB D z', ps ++ [p], fun k hk => withB_of (h.low k hk), fun k hk => ?_, fun g hg' => withB_own hg', ?_, fun q hq => ?_, by rw [List.map_append, h.map]; rfl, Nat.le_trans h9.size hg.size⟩
 ·rw [withB_no]
  ·exact h.old k (Nat.le_trans (Nat.le_trans ht.size hg.size) hk)
  ·intro e
   have := (row_in hr e).2
   omega
 ·unfold RowP
  rw [List.length_append, List.flatMap_append, List.length_singleton]
  simpa using hr
 ·rcases List.mem_append.1 hq with hq | hq
  ·exact TmV.stay hs _ _ (h9.tms q hq)
  ·simp at hq
   subst hq
   refine TmV.stay hs _ _ (TmV.stay (Stays.less fun k hk => h.old k ?_) _ _ hp)
   simpa using hk
theorem ArgsD.done (h : ArgsD D ps n0 wr z ts) {w' : World} {n : Nat} (hn : n ≤ n0) (hs : wr.heap.size ≤ w'.heap.size) (hb : ∀ k, n0 ≤ k → k < wr.heap.size → w'.heap[k]? = wr.heap[k]?) (hl : ts.length * 56 ≤ BIG) : Tms (hide (under n) w') z ts := by
 have hh : RowP (hide (under n) w') n0 31 z ps := row_at h.row (fun g hg => by
  have := row_in h.row hg
  rw [hide_get _ _ _ (by simp; omega)]
  exact hb g this.1 this.2)
 have := hh.terms (fun p hp => TmV.stay (Stays.hide hs fun k hk hd => by
  have hk0 : n0 ≤ k := by
   apply Nat.le_of_not_lt
   intro hlt
   rw [h.low k hlt] at hd; cases hd
  exact ⟨by simp; omega, hb k hk0 hk⟩) _ _ (h.tms p hp)) (by rw [h.len]; exact hl)
 rw [h.map] at this
 exact this
end
end Go.Proofs.Ytchbbaehdcmcfaa
/- Package bind: whole, walked. -/
namespace Go.Proofs.Ytchbbaehdcmcfaa
open Go.RowKit
set_option linter.unusedVariables false
def WIH (V : World) (F : List Nat) (p : Value) (N : Nat) (R : List (Int × Tm)) (q : Nat) : Prop :=
 ∀ (w : World) (x : Tm) (v : Value) (room rb : Nat), IsB V F w p N R → TmV V x v → goodT x = true → (∀ m ∈ occT x, 0 ≤ m ∧ m < N) → room ≤ 2000 → NumC w rb room → ¬ rb ∈ F → Blind V [rb] →
  Calls Try.prog 63 #[p, v, .int .i64 q, .pointer (some ⟨rb, 0, none⟩)] w (WPost w rb room q (subT (fullB R) x))
theorem sizes_map_drop {S : Int → Tm} {ts : List Tm} {i : Nat} {y : Tm} (h : ts[i]? = some y) : (subL S ts)[i]? = some (subT S y) := by rw [subL_map, List.getElem?_map, h]; rfl
section
variable {V : World} {F : List Nat} {p : Value} {N : Nat} {R : List (Int × Tm)}
set_option maxHeartbeats 8000000 in
set_option maxRecDepth 100000 in
theorem whole_succ (q : Nat) (hq : q + 1 ≤ 64) (ih : WIH V F p N R q) : WIH V F p N R (q + 1) := by
 intro w x v room rb h hv hg ho hroom hc hrb hbl
 by_cases h0 : room = 0
 ·obtain ⟨k, n, s, u, rfl⟩ := hv.four
  exact whole_zero (q + 1) room hq hroom (Or.inr h0) w ⟨k, n, s, u, rfl⟩ hc
 obtain ⟨hT, hN⟩ := h.tri
 obtain ⟨T, hTx⟩ : ∃ T, subT (fullB R) x = T := ⟨_, rfl⟩
 rw [hTx]
 have IH := Lib.hid ih
 have HIS := Lib.hid h
 have HWK := fun (w3 : World) (ht : Touch [rb] w w3) => Walk_at (h.touch ht (fun k hk => by simp at hk; subst hk; exact hrb) hbl) hv hg ho
 have HTX := Lib.hid hTx
 have HBL := Lib.hid (And.intro hrb hbl)
 obtain ⟨Q, hQ⟩ : ∃ Q : Int, Q = ((q + 1 : Nat) : Int) := ⟨_, rfl⟩
 have hQ0 : (Q == 0) = false := by simp; omega
 have hQ1 : Q - 1 = (q : Int) := by omega
 have HQ := Lib.hid hQ
 rw [← hQ]
 obtain ⟨kx, nx, sx, ax, mx, cx, rfl⟩ := hv.full
 obtain ⟨w1, e1, B1, z1, X1⟩ := box_new w #[.int .i64 kx, .int .i64 nx, .string sx, .slice ax mx cx] 31
 obtain ⟨w2, e2, B2, z2, X2⟩ := box_new w1 #[.int .i64 0, .int .i64 0, .string ⟨#[]⟩, .slice none 0 0] 31
 have X1 := X1.ext B2
 have B12 := Ext.trans' B1 B2
 rw [z1] at X2 z2
 have hc2 := hc.ext B12
 have hrlt := hc.2.2
 obtain ⟨rm, hrm⟩ : ∃ rm : Nat, room = rm + 1 := ⟨room - 1, by omega⟩
 have hrm0 : ((room : Int) == 0) = false := by simp; omega
 have hrm1 : (room : Int) - 1 = (rm : Int) := by omega
 have HRM := Lib.hid hrm
 obtain ⟨w3, e3⟩ : ∃ w3, w2.setCell ⟨rb, 0, none⟩ (.int .i64 rm) = w3 := ⟨_, rfl⟩
 have T3 : Touch [rb] w w3 := by rw [← e3]; exact (Touch.of_below B12 _).trans (touch_one w2 rb 0 _) (fun k hk => Or.inl hk)
 have s3 : w3.heap.size = w.heap.size + 1 + 1 := by rw [← e3]; simp [World.setCell]; omega
 have N3 : NumC w3 rb rm := by rw [← e3]; exact hc2.put _
 have hne : w.heap.size ≠ rb := by omega
 have hne2 : w.heap.size + 1 ≠ rb := by omega
 have Y1 : Box w3 w.heap.size [.int .i64 kx, .int .i64 nx, .string sx, .slice ax mx cx] := by rw [← e3]; exact X1.far hne
 have Y2 : Box w3 (w.heap.size + 1) [.int .i64 0, .int .i64 0, .string ⟨#[]⟩, .slice none 0 0] := by rw [← e3]; exact X2.far hne2
 have C := HWK w3 T3
 have HT3 := Lib.hid (And.intro T3 (And.intro s3 N3))
 have HY := Lib.hid (And.intro Y1 Y2)
 have r0 := hc2.1
 have rf := hc2.2.1
 obtain ⟨a0, a1, a2, a3, af⟩ := X1.four
 obtain ⟨c0, c1, c2, c3, cf⟩ := Y1.four
 have HGD := Lib.hid (And.intro hg ho)
 have HTN := Lib.hid (And.intro hT hN)
 clear hTx hQ hv ih h HWK hc hrb hbl B1 B2 z2 X1 X2 B12 hc2 hrm s3 T3 N3 Y1 Y2 hg ho hT hN
 go_enter Try.func63, Try.ntmps63
 go_wp2_with fail
 go_fit (C)
 rintro e w4 ⟨y, v4, rfl, hy, hwk, htop, b4⟩
 obtain ⟨k, n, s, a, m, c, rfl, fk, fn, fs, fv⟩ := four_of hy
 clear e1 e2 e3 z1 a0 a1 a2 a3 af c0 c1 c2 c3 cf r0 rf C fv
 have hN3 := HT3.out.2.2.ext b4
 have hs4 : w.heap.size + 1 + 1 ≤ w4.heap.size := by have := b4.size; have := HT3.out.2.1; omega
 have T4 : Touch [rb] w w4 := HT3.out.1.then b4
 have Y1 := HY.out.1.ext b4
 have Y2 := HY.out.2.ext b4
 obtain ⟨Ts, hTs⟩ : ∃ Ts, subL (fullB R) y.args = Ts := ⟨_, rfl⟩
 have hTeq : T = .mk k n s Ts := by rw [← HTX.out, ← hwk.same, topped hwk.good htop, fk, fn, fs, hTs]
 have hlen : Ts.length = m := by
  obtain ⟨yk, yn, ys, yt⟩ := y
  obtain ⟨u, hu, _, _, _, hU⟩ := tmV_iff.1 hy
  obtain ⟨a', c', rfl, _⟩ := hU.len
  simp only [Value.agg.injEq] at hu
  have hu' := congrArg Array.toList hu
  simp only [List.cons.injEq, and_true, Value.slice.injEq] at hu'
  rw [← hTs, subL_len]
  exact hu'.2.2.2.2.1.symm
 have hU : Tms V (.slice a m c) y.args := by
  obtain ⟨yk, yn, ys, yt⟩ := y
  obtain ⟨u, hu, _, _, _, hU⟩ := tmV_iff.1 hy
  simp only [Value.agg.injEq] at hu
  have hu' := congrArg Array.toList hu
  simp only [List.cons.injEq, and_true] at hu'
  rw [hu'.2.2.2]
  exact hU
 have HYB := Lib.hid (show s.size ≤ BIG ∧ I64 k ∧ I64 n by
  obtain ⟨yk, yn, ys, yt⟩ := y
  obtain ⟨u, hu, q1, q2, q3, _⟩ := tmV_iff.1 hy
  simp only [Value.agg.injEq] at hu
  have hu' := congrArg Array.toList hu
  simp only [List.cons.injEq, and_true, Value.int.injEq, true_and, Value.string.injEq] at hu'
  rw [hu'.1, hu'.2.1, hu'.2.2.1]
  exact ⟨q1, q2, q3⟩)
 obtain ⟨w5, e5⟩ : ∃ w5, (((w4.setCell ⟨w.heap.size, 0, none⟩ (.int .i64 k)).setCell ⟨w.heap.size, 1, none⟩ (.int .i64 n)).setCell ⟨w.heap.size, 2, none⟩ (.string s)).setCell ⟨w.heap.size, 3, none⟩ (.slice a m c) = w5 := ⟨_, rfl⟩
 have b5 : Below w.heap.size w4 w5 := by rw [← e5]; exact Below.set4 (Below.refl _ _) (Nat.le_refl _) _ _ _ _
 have Z1 : Box w5 w.heap.size [.int .i64 k, .int .i64 n, .string s, .slice a m c] := by
  rw [← e5]; exact (((Y1.set (k := 0) (by simp)).set (k := 1) (by simp)).set (k := 2) (by simp)).set (k := 3) (by simp)
 have Z2 : Box w5 (w.heap.size + 1) [.int .i64 0, .int .i64 0, .string ⟨#[]⟩, .slice none 0 0] := by
  rw [← e5]; exact (((Y2.far (c := w.heap.size) (by omega)).far (by omega)).far (by omega)).far (by omega)
 have T5 : Touch [rb] w w5 := by
  refine ⟨b5.os.trans T4.os, b5.tape.trans T4.tape, b5.output.trans T4.output, Nat.le_trans T4.size b5.size, fun j hj hn => (b5.block j (by have := T4.size; omega)).trans (T4.block j hj hn)⟩
 have N5 : NumC w5 rb rm := ⟨by rw [b5.cell (p := ⟨rb, 0, none⟩) hrlt]; exact hN3.1, by rw [b5.frozen (p := ⟨rb, 0, none⟩) hrlt]; exact hN3.2.1, by have := b5.size; have := hN3.2.2; omega⟩
 have s5 : w.heap.size + 1 + 1 ≤ w5.heap.size := Nat.le_trans hs4 b5.size
 obtain ⟨d0, d1, d2, d3, df⟩ := Y1.four
 obtain ⟨g0, g1, g2, g3, gf⟩ := Z1.four
 have hbound : m * 56 ≤ BIG ∧ m ≤ c ∧ c ≤ maxLen := by obtain ⟨a', c', e', q1, q2, q3⟩ := hU.len; cases e'; exact ⟨q3, q1, q2⟩
 obtain ⟨hb1, hb2, hb3⟩ := hbound
 unfold BIG at hb1
 have hargs : ∀ (i : Nat) (t : Tm), y.args[i]? = some t → goodT t = true ∧ ∀ j ∈ occT t, 0 ≤ j ∧ j < (N : Int) := fun i t hi => by
  have hm := List.mem_of_getElem? hi
  refine ⟨good_arg hwk.good hm, fun j hj => ?_⟩
  have hr := hwk.rng
  obtain ⟨yk, yn, ys, yt⟩ := y
  by_cases hk0 : yk = 0
  ·have := (formed_var (show formedT (.mk 0 yn ys yt) = true by rw [← hk0]; exact (good_parts hwk.good).2.2)).1
   unfold varV at this
   injection this with _ _ _ e
   have hm' : t ∈ yt := hm
   rw [e] at hm'
   cases hm'
  ·exact hr j (by rw [occ_not hk0]; exact mem_occL.2 ⟨t, hm, hj⟩)
 have HAR := Lib.hid hargs
 have HU := Lib.hid hU
 have HTS := Lib.hid (And.intro hTs hlen)
 have HTE := Lib.hid hTeq
 have HS := Lib.hid (And.intro T5 (And.intro N5 (And.intro Z1 (And.intro Z2 s5))))
 clear hy hwk htop b4 fk fn fs hN3 hs4 T4 Y1 Y2 hTs hTeq hlen hU b5 Z1 Z2 T5 N5 s5 hargs
 go_wp2_with fail
 (try rw [e5])
 clear e5 d0 d1 d2 d3 df
 go_loopg [10, 35] m (fun g z u wr => ∃ i : Nat, i ≤ m ∧ u = .int .i64 i ∧ g = m - i ∧ Hid (ArgsIn (w.heap.size + 1 + 1) wr z (Ts.take i)) ∧ Hid (Touch [rb] w wr ∧ Box wr w.heap.size [.int .i64 k, .int .i64 n, .string s, .slice a m c] ∧ Box wr (w.heap.size + 1) [.int .i64 0, .int .i64 0, .string ⟨#[]⟩, .slice none 0 0]) ∧
  Hid (sizesN (Ts.take i) ≤ rm ∧ depthsN (Ts.take i) ≤ q ∧ NumC wr rb ((rm : Int) - sizesN (Ts.take i))))
 case atStart => exact ⟨0, Nat.zero_le _, rfl, rfl, Lib.hid (by rw [List.take_zero]; exact ArgsIn.none HS.out.2.2.2.2), Lib.hid ⟨HS.out.1, HS.out.2.2.1, HS.out.2.2.2.1⟩, Lib.hid ⟨by rw [List.take_zero, sizesN]; omega, by rw [List.take_zero, depthsN]; omega, by rw [List.take_zero, sizesN]; simpa using HS.out.2.1⟩⟩
 case round =>
  obtain ⟨i, hi, rfl, hgk, HA, HW, HC⟩ := hrel
  have HGK := Lib.hid hgk
  clear hgk
  by_cases hil : i < m
  ·obtain ⟨t, ht⟩ : ∃ t, y.args[i]? = some t := ⟨_, List.getElem?_eq_getElem (by have := HTS.out; rw [← this.1, subL_len] at this; omega)⟩
   obtain ⟨b, off, k1, n1, s1, u1, rfl, hbb, _, _, _, c0, c1, c2, c3, htu, htv⟩ := HU.out.get ht
   obtain ⟨au, cu, rfl, _⟩ := htu.len
   clear htu
   have hI := HIS.out.touch HW.out.1 (fun j hj => by simp at hj; subst hj; exact HBL.out.1) HBL.out.2
   have hS := hI.see.1
   have d0 := hS.2 _ _ c0
   have d1 := hS.2 _ _ c1
   have d2 := hS.2 _ _ c2
   have d3 := hS.2 _ _ c3
   have hTi : Ts[i]? = some (subT (fullB R) t) := by rw [← HTS.out.1]; exact sizes_map_drop ht
   obtain ⟨hz1, hz2, hz3⟩ := HC.out
   obtain ⟨ri, hri⟩ : ∃ ri : Nat, rm = ri + sizesN (Ts.take i) := ⟨rm - sizesN (Ts.take i), by omega⟩
   have hcell : NumC wr rb ri := by rw [show (ri : Int) = (rm : Int) - sizesN (Ts.take i) by omega]; exact hz3
   have hbx := bel1' wr (box4 k1 n1 s1 (.slice au t.args.length cu) 31)
   have C := IH.out _ t _ ri rb (hI.ext hbx) htv (HAR.out i t ht).1 (HAR.out i t ht).2 (by have := HRM.out; omega) (hcell.ext hbx) HBL.out.1 HBL.out.2
   have HRI := Lib.hid hri
   have HTI := Lib.hid hTi
   obtain ⟨g0, g1, g2, g3, gf⟩ := HW.out.2.1.four
   clear hI hS ht htv hTi hz1 hz2 hz3 hri hcell hbx c0 c1 c2 c3
   go_wp2_with fail
   go_fit (C)
   rintro e w7 ⟨v7, bb, rfl, t7, hiff, hok, hno⟩
   clear C d0 d1 d2 d3
   cases bb
   ·obtain rfl := hno rfl
    have hnot : ¬ (sizeN T ≤ room ∧ depthN T ≤ q + 1) := by
     rintro ⟨q1, q2⟩
     have h1 := hiff.2
     rw [HTE.out, sizeN] at q1
     rw [HTE.out, depthN] at q2
     have h2 := sizes_drop' HTI.out
     have h3 := sizes_take' Ts (i + 1)
     have h4 := depths_take_succ HTI.out
     have h5 := depths_take_le Ts (i + 1)
     have h6 := HRM.out
     have h7 := HRI.out
     have := h1 ⟨by omega, by omega⟩
     cases this
    have HNT := Lib.hid hnot
    have T7 := Lib.hid ((HW.out.1.then (bel1' _ _)).trans t7 (fun j hj => Or.inl hj))
    have Z2 := HW.out.2.2.ext (bel1' wr (box4 k1 n1 s1 (.slice au t.args.length cu) 31))
    have s7 : w.heap.size + 1 < w7.heap.size := Nat.lt_of_lt_of_le Z2.lt t7.size
    have Z3 : Box w7 (w.heap.size + 1) _ := Z2.block (t7.block _ Z2.lt (by simp; omega)) s7
    obtain ⟨x0, x1, x2, x3, xf⟩ := Z3.four
    clear hiff hok hno hnot Z2 Z3 t7
    go_wp2
    refine bodyPost_ret (v := .tuple #[.agg #[.int .i64 0, .int .i64 0, .string ⟨#[]⟩, .slice none 0 0], .bool false]) (by rw [results_cell_tmp rfl]; go_simp) rfl ?_
    exact WPost.no ((T7.out.four (Nat.le_succ _) _ _ _ _).then (bel1' _ _)) HNT.out
   ·obtain ⟨hv7, hn7⟩ := hok rfl
    obtain ⟨hle1, hle2⟩ := hiff.1 rfl
    obtain ⟨tk, tn, tsn, ta, tl, tc, rfl, _, _, _, fv⟩ := four_of hv7
    obtain ⟨D, ps, HD⟩ := HA.out
    have tch7 : Touch [rb] wr w7 := (Touch.of_below (bel1' wr _) [rb]).trans t7 (fun j hj => Or.inl hj)
    obtain ⟨az, cz, rfl, z1, z2, hzo⟩ := HD.form
    have hzl : (Ts.take i).length = i := by rw [List.length_take, HTS.out.2]; omega
    have hpl : ps.length = i := by rw [HD.len]; exact hzl
    rw [hzl] at z1 hzo HD HA ⊢
    have hD7 := HD.touch tch7 (fun j hj => by simp at hj; omega)
    have hrow7 : w7.ownsRow (w.heap.size + 1 + 1) 31 4 (.slice az i cz) i (ps.flatMap pCells) := by have := hD7.row; unfold RowP at this; rw [hpl] at this; exact this
    obtain ⟨i0, hi0, hz0, hs0, hb0⟩ := info_parts infoTerm
    have HROW := Lib.hid hrow7
    have HDD := Lib.hid HD
    have HPL := Lib.hid hpl
    have HFV := Lib.hid fv
    have HV7 := Lib.hid hv7
    have HN7 := Lib.hid hn7
    have HLE := Lib.hid (And.intro hle1 hle2)
    have TCH := Lib.hid tch7
    have HZO := Lib.hid hzo
    have s7 : w.heap.size + 1 + 1 ≤ w7.heap.size := hD7.size
    unfold maxLen at z2
    clear hiff hok hno hv7 hn7 hle1 hle2 fv HA HD tch7 hzo hzl hpl hD7 hrow7 t7
    go_wp2_with (at_builtin; refine wpList_append_k rfl _ _ 29 rfl (w.heap.size + 1 + 1) 31 i0 (.agg #[.int .i64 0, .int .i64 0, .string ⟨#[]⟩, .slice none 0 0]) 4 56 Try.underlying29 hi0 hz0 hs0 (by decide) hb0 rfl (.slice az i cz) i (ps.flatMap pCells) rfl ((HROW.out.alloc _).alloc _) _ 1 1 [.int .i64 tk, .int .i64 tn, .string tsn, .slice ta tl tc] rfl rfl (Or.inr ⟨⟨w7.heap.size + 1, 0, none⟩, rfl, fun j u hu => by have := cell_new2 w7 (box4 tk tn tsn (.slice ta tl tc) 31) #[.int .i64 tk, .int .i64 tn, .string tsn, .slice ta tl tc] 31 j u hu; exact this⟩) (fun u hu => by simp at hu; rcases hu with rfl | rfl | rfl | rfl <;> rfl) (by unfold maxLen; omega) (by omega) (by simp; omega) (i + 1) (ps.flatMap pCells ++ [.int .i64 tk, .int .i64 tn, .string tsn, .slice ta tl tc]) rfl rfl ?_; intro a4 c4 w10 hown10 hgrow10 hat10)
    go_roundg (m - (i + 1))
    case measure => have := HGK.out; omega
    case rel =>
     have bw9 : Below w7.heap.size w7 ((w7.alloc (box4 tk tn tsn (.slice ta tl tc) 31)).alloc (box4 tk tn tsn (.slice ta tl tc) 31)) := Ext.trans' (bel1' _ _) (bel1' _ _)
     obtain ⟨w9, e9⟩ : ∃ w9, (w7.alloc (box4 tk tn tsn (.slice ta tl tc) 31)).alloc (box4 tk tn tsn (.slice ta tl tc) 31) = w9 := ⟨_, rfl⟩
     rw [e9] at hgrow10 hat10 bw9
     have t9 : Touch [rb] wr w9 := TCH.out.then bw9
     have hpc : pCells (subT (fullB R) t, Value.slice ta tl tc) = [.int .i64 tk, .int .i64 tn, .string tsn, .slice ta tl tc] := by
      have h1 := HFV.out
      simp only [pVal, Value.agg.injEq] at h1
      exact (congrArg Array.toList h1).symm
     have hmore := HDD.out.more (w' := w10) (z' := .slice a4 (i + 1) c4) (p := (subT (fullB R) t, .slice ta tl tc)) t9 (fun j hj => by simp at hj; omega)
      (by rw [← HFV.out]; exact TmV.stay (Stays.hide bw9.size fun j hj hd => ⟨hd, bw9.block j hj⟩) _ _ (TmV.stay (Stays.less fun j hj => by simp at hj ⊢; omega) _ _ HV7.out)) hgrow10 hat10 (by rw [hpc, HPL.out]; exact hown10)
     rw [← take_next HTI.out] at hmore
     have hz : ∀ g, (Value.slice az i cz).ownBlock = some g → w.heap.size + 1 + 1 ≤ g := fun g e => (HZO.out g e).1
     have hk9 : ∀ j, j < w.heap.size + 1 + 1 → w10.heap[j]? = w9.heap[j]? := fun j hj => hgrow10.block j (by have := HDD.out.size; have := t9.size; omega) (fun e => by have := hz j e.symm; omega)
     have hkb : ∀ j, j < w.heap.size + 1 + 1 → j ≠ rb → w10.heap[j]? = wr.heap[j]? := fun j hj hne => (hk9 j hj).trans (t9.block j (by have := HDD.out.size; omega) (by simpa using hne))
     have s10 : w.heap.size + 1 + 1 ≤ w10.heap.size := Nat.le_trans HDD.out.size (Nat.le_trans t9.size hgrow10.size)
     have hsz := sizes_drop' HTI.out
     have hdp := depths_take_succ HTI.out
     have hri := HRI.out
     have hle := HLE.out
     have hcc := HC.out
     refine ⟨i + 1, by omega, by go_num, rfl, Lib.hid hmore, Lib.hid ⟨((HW.out.1.trans t9 (fun j hj => Or.inl hj)).more hgrow10 (fun g e => by have := hz g e; omega)), HW.out.2.1.block (hkb _ (by omega) hne) (by omega), HW.out.2.2.block (hkb _ (by omega) hne2) (by omega)⟩, Lib.hid ⟨by omega, by omega, ?_⟩⟩
     have hn9 := (HN7.out.ext bw9).block (hk9 rb (by omega)) (by omega)
     rw [show (rm : Int) - sizesN (Ts.take (i + 1)) = (ri : Int) - sizeN (subT (fullB R) t) by omega]
     exact hn9
  ·have him : i = m := by omega
   subst him
   have hfull : Ts.take i = Ts := List.take_of_length_le (by rw [HTS.out.2]; exact Nat.le_refl _)
   rw [hfull] at HA HC
   obtain ⟨D, ps, HD⟩ := HA.out
   obtain ⟨az, cz, rfl, z1, z2, hzo⟩ := HD.form
   rw [HTS.out.2] at z1 HD HA hzo ⊢
   have HDD := Lib.hid HD
   obtain ⟨g0, g1, g2, g3, gf⟩ := HW.out.2.1.four
   obtain ⟨x0, x1, x2, x3, xf⟩ := HW.out.2.2.four
   clear hfull HA HD hzo
   go_wp2
   refine bodyPost_ret (v := .tuple #[.agg #[.int .i64 k, .int .i64 n, .string s, .slice az i cz], .bool true]) (by rw [results_cell_tmp rfl]; go_simp) rfl ?_
   obtain ⟨wE, eE⟩ : ∃ wE, set4 (wr.setCell ⟨w.heap.size, 3, none⟩ (.slice az i cz)) (w.heap.size + 1) (.int .i64 k) (.int .i64 n) (.string s) (.slice az i cz) = wE := ⟨_, rfl⟩
   show WPost w rb room (q + 1) T _ (set4 (wr.setCell ⟨w.heap.size, 3, none⟩ (.slice az i cz)) (w.heap.size + 1) (.int .i64 k) (.int .i64 n) (.string s) (.slice az i cz))
   have tE : Touch [rb] w wE := by rw [← eE]; exact (HW.out.1.setNew _ _ (Nat.le_refl _)).four (Nat.le_succ _) _ _ _ _
   have hkE : ∀ j, j ≠ w.heap.size → j ≠ w.heap.size + 1 → wE.heap[j]? = wr.heap[j]? := fun j h1 h2 => by
    rw [← eE]
    exact ((Below.heap_setCell _ _ _ j h2).trans ((Below.heap_setCell _ _ _ j h2).trans ((Below.heap_setCell _ _ _ j h2).trans (Below.heap_setCell _ _ _ j h2)))).trans (Below.heap_setCell _ _ _ j h1)
   have sE : wE.heap.size = wr.heap.size := by rw [← eE]; simp [World.setCell]
   rw [eE]
   have hcc := HC.out
   have hrm := HRM.out
   refine ⟨_, true, rfl, tE, ⟨fun _ => ?_, fun _ => rfl⟩, fun _ => ⟨?_, ?_⟩, fun h => by cases h⟩
   ·rw [HTE.out, sizeN, depthN]; omega
   ·rw [HTE.out]
    refine tmV_iff.2 ⟨_, rfl, HYB.out.1, HYB.out.2.1, HYB.out.2.2, HDD.out.done (by omega) (Nat.le_of_eq sE.symm) (fun j h1 h2 => hkE j (by omega) (by omega)) (by rw [HTS.out.2]; unfold BIG; omega)⟩
   ·rw [HTE.out, sizeN]
    have hb := (HC.out.2.2).block (hkE rb (by omega) (by omega)) (by rw [sE]; exact HC.out.2.2.2.2)
    rw [show (room : Int) - ((sizesN Ts + 1 : Nat) : Int) = (rm : Int) - sizesN Ts by omega]
    exact hb
theorem whole_any : ∀ q : Nat, q ≤ 64 → WIH V F p N R q
 | 0, hq => fun w x v room rb h hv hg ho hroom hc hrb hbl => by
  obtain ⟨k, n, s, u, rfl⟩ := hv.four
  exact whole_zero 0 room hq hroom (Or.inl rfl) w ⟨k, n, s, u, rfl⟩ hc
 | q + 1, hq => whole_succ q hq (whole_any q (by omega))
end
end Go.Proofs.Ytchbbaehdcmcfaa
/- Package bind: Whole; New, Fresh. -/
namespace Go.Proofs.Ytchbbaehdcmcfaa
open Go.RowKit
set_option linter.unusedVariables false
def wholeB (N : Nat) (R : List (Int × Tm)) (x : Tm) : Tm × Int :=
 if fitsB N x = true then (if goodT (subT (fullB R) x) = true then (subT (fullB R) x, 0) else (varV 0, 12)) else (varV 0, 1)
theorem zero_tm (w : World) : TmV w (varV 0) (.agg #[.int .i64 0, .int .i64 0, .string ⟨#[]⟩, .slice none 0 0]) := leaf_tm w (by unfold I64; omega) (by unfold I64; omega) (by unfold BIG; decide)
section
variable {V w : World} {F : List Nat} {p : Value} {N : Nat} {R : List (Int × Tm)}
theorem wpost_good {w w' : World} {rb : Nat} {x : Tm} {e : Ending} (hT : Tri N R) (hN : N ≤ 65536) (hf : fitsB N x = true) (h : WPost w rb 2000 64 (subT (fullB R) x) e w') :
  ∃ v' b, e = .returned (.tuple #[v', .bool b]) ∧ Touch [rb] w w' ∧ b = goodT (subT (fullB R) x) ∧ (b = true → TmV (hide (under w.heap.size) w') (subT (fullB R) x) v') ∧ (b = false → v' = .agg #[.int .i64 0, .int .i64 0, .string ⟨#[]⟩, .slice none 0 0]) := by
 obtain ⟨v', b, h1, h2, h3, h4, h5⟩ := h
 obtain ⟨f1, f2⟩ := fitsB_true.1 hf
 have hfm := subfull_formed hN hT (good_parts f1).2.2 f2
 refine ⟨v', b, h1, h2, ?_, fun e => (h4 e).1, h5⟩
 cases hg : goodT (subT (fullB R) x)
 ·cases b
  ·rfl
  ·obtain ⟨a1, a2⟩ := h3.1 rfl
   rw [good_of a1 a2 hfm] at hg
   cases hg
 ·obtain ⟨a1, a2, _⟩ := good_parts hg
  exact h3.2 ⟨a1, a2⟩
set_option maxHeartbeats 4000000 in
theorem Whole_at (h : IsB V F w p N R) {x : Tm} {v : Value} (hv : TmV V x v) :
  Calls Try.prog 23 #[p, v] w fun e w' => ∃ r, e = .returned (.tuple #[r, .int .i64 (wholeB N R x).2]) ∧ TmV (hide (under w.heap.size) w') (wholeB N R x).1 r ∧ Below w.heap.size w w' := by
 obtain ⟨hT, hN⟩ := h.tri
 have FI := fun w1 (hb : Below w.heap.size w w1) => fits_at' (h.ext hb) (TmV.stay (h.see.1.later hb) _ _ hv)
 have HI := Lib.hid h
 have HV := Lib.hid hv
 obtain ⟨kx, nx, sx, ax, mx, cx, rfl⟩ := hv.full
 obtain ⟨w1, e1, B1, z1, X1⟩ := box_new w #[.int .i64 kx, .int .i64 nx, .string sx, .slice ax mx cx] 31
 obtain ⟨w2, e2, B2, z2, X2⟩ := box_new w1 #[.int .i64 0, .int .i64 0, .string ⟨#[]⟩, .slice none 0 0] 31
 have X1 := X1.ext B2
 have B12 := Ext.trans' B1 B2
 rw [z1] at X2
 have C := FI w2 B12
 have HB := Lib.hid (And.intro B12 (And.intro X1 X2))
 obtain ⟨a0, a1, a2, a3, af⟩ := X1.four
 unfold wholeB
 cases hf : fitsB N x
 ·rw [hf] at C
  clear FI h hv B1 B2 z2 X1 X2 B12 hf
  go_enter Try.func23, Try.ntmps23
  go_wp2_with fail
  go_fit (C)
  rintro e w4 ⟨rfl, b4⟩
  have Z2 := HB.out.2.2.ext b4
  obtain ⟨x0, x1, x2, x3, xf⟩ := Z2.four
  have HB4 := Lib.hid (HB.out.1.trans (b4.mono HB.out.1.size))
  clear e1 e2 b4 C Z2
  go_wp2
  refine bodyPost_ret (v := .tuple #[.agg #[.int .i64 0, .int .i64 0, .string ⟨#[]⟩, .slice none 0 0], .int .i64 1]) (by rw [results_cell_tmp rfl]; go_simp) rfl ⟨_, rfl, zero_tm _, ?_⟩
  exact Below.set4 HB4.out (Nat.le_succ _) _ _ _ _
 ·rw [hf] at C
  have W := fun w6 (hb : Below w.heap.size w w6) rb (h1 : NumC w6 rb 2000) (h2 : ¬ rb ∈ F) (h3 : Blind V [rb]) => whole_any 64 (Nat.le_refl _) w6 x _ 2000 rb (h.ext hb) hv (fitsB_true.1 hf).1 (fitsB_true.1 hf).2 (by omega) h1 h2 h3
  have HG := Lib.hid (fun (w6 w' : World) (rb : Nat) (e : Ending) (hp : WPost w6 rb 2000 64 (subT (fullB R) x) e w') => wpost_good hT hN hf hp)
  have HL := Lib.hid h.lt
  have HSE := Lib.hid h.see
  rw [if_pos rfl]
  obtain ⟨A, hA⟩ : ∃ A : Tm × Int, (if goodT (subT (fullB R) x) = true then (subT (fullB R) x, (0 : Int)) else (varV 0, 12)) = A := ⟨_, rfl⟩
  rw [hA]
  have HA := Lib.hid hA
  clear hA
  clear FI h hv B1 B2 z2 X1 X2 B12 hf
  go_enter Try.func23, Try.ntmps23
  go_wp2_with fail
  go_fit (C)
  rintro e w4 ⟨rfl, b4⟩
  have Z1 := HB.out.2.1.ext b4
  have Z2 := HB.out.2.2.ext b4
  have HB4 := Lib.hid (HB.out.1.trans (b4.mono HB.out.1.size))
  obtain ⟨w5, e5, B5, z5, X5⟩ := box_new w4 #[.int .i64 2000] 3
  have hs4 : w.heap.size ≤ w4.heap.size := HB4.out.size
  have hlt4 : w.heap.size + 1 < w4.heap.size := Z2.lt
  have hbw5 : Below w.heap.size w w5 := HB4.out.trans (B5.mono hs4)
  have hn5 : NumC w5 w4.heap.size 2000 := ⟨X5.cells 0 _ rfl, X5.fz 0, X5.lt⟩
  have hnf : ¬ w4.heap.size ∈ F := fun hm => by have := HL.out _ hm; omega
  have hbl : Blind V [w4.heap.size] := Blind.new (HSE.out.1.later HB4.out) (fun k hk => by simp at hk; omega)
  have C5 := W w5 hbw5 _ hn5 hnf hbl
  have Z1 := Z1.ext B5
  have Z2 := Z2.ext B5
  obtain ⟨y0, y1, y2, y3, yf⟩ := Z1.four
  have H5 := Lib.hid (And.intro hbw5 (And.intro Z1 Z2))
  have hw45 : w4.heap.size < w5.heap.size := X5.lt
  have HG5 := Lib.hid (fun e w' hp => HG.out w5 w' w4.heap.size e hp)
  clear e1 e2 b4 C W B5 X5 hbw5 hn5 hnf hbl Z1 Z2 HG
  go_wp2_with fail
  go_fit (C5)
  rintro e w6 hp
  obtain ⟨v6, b, rfl, t6, hb, hok, hno⟩ := HG5.out e w6 hp
  clear e5 C5 hp y0 y1 y2 y3 yf
  have Z2 := H5.out.2.2.block (w' := w6) (t6.block _ H5.out.2.2.lt (by simp; omega)) (Nat.lt_of_lt_of_le H5.out.2.2.lt t6.size)
  have hb6 : Below w.heap.size w w6 := ⟨t6.os.trans H5.out.1.os, t6.tape.trans H5.out.1.tape, t6.output.trans H5.out.1.output, Nat.le_trans H5.out.1.size t6.size, fun j hj => (t6.block j (Nat.lt_of_lt_of_le hj H5.out.1.size) (by simp; omega)).trans (H5.out.1.block j hj)⟩
  have s6 : w.heap.size + 1 < w6.heap.size := Z2.lt
  obtain ⟨x0, x1, x2, x3, xf⟩ := Z2.four
  have HB6 := Lib.hid hb6
  have HS5 := Lib.hid (show w.heap.size + 1 < w5.heap.size by omega)
  cases b
  ·obtain rfl := hno rfl
   obtain rfl : A = (varV 0, 12) := by rw [← HA.out, ← hb]; rfl
   clear hb hok hno t6 hb6 Z2
   go_wp2
   refine bodyPost_ret (v := .tuple #[.agg #[.int .i64 0, .int .i64 0, .string ⟨#[]⟩, .slice none 0 0], .int .i64 12]) (by rw [results_cell_tmp rfl]; go_simp) rfl ⟨_, rfl, zero_tm _, ?_⟩
   exact (Below.set4 HB6.out (Nat.le_succ _) _ _ _ _).alloc (by simp [World.setCell]; omega) _
  ·obtain rfl : A = (subT (fullB R) x, 0) := by rw [← HA.out, ← hb]; rfl
   have hv6 := hok rfl
   obtain ⟨k, n, s, a, m, c, rfl, _, _, _, fv⟩ := four_of hv6
   have HV6 := Lib.hid hv6
   clear hb hok hno t6 hb6 Z2 hv6 fv
   go_wp2
   refine bodyPost_ret (v := .tuple #[.agg #[.int .i64 k, .int .i64 n, .string s, .slice a m c], .int .i64 0]) (by rw [results_cell_tmp rfl]; go_simp) rfl ⟨_, rfl, ?_, ?_⟩
   ·refine TmV.stay (Stays.less (D := under w5.heap.size) fun j hj => by have := HS5.out; simp at hj ⊢; omega) _ _ (TmV.stay (Stays.hide (w := w6) ?_ fun j hj hd => ⟨hd, ?_⟩) _ _ HV6.out)
    ·exact Nat.le_trans (Nat.le_of_eq (set4_size w6 (w.heap.size + 1) (.int .i64 k) (.int .i64 n) (.string s) (.slice a m c)).symm) (bel1' _ _).size
    ·have hj5 : w5.heap.size ≤ j := by simpa using hd
     refine ((bel1' (set4 w6 (w.heap.size + 1) (.int .i64 k) (.int .i64 n) (.string s) (.slice a m c)) _).block j (by rw [set4_size]; exact hj)).trans (set4_other _ _ _ _ _ _ j ?_)
     have := HS5.out
     omega
   ·exact (Below.set4 HB6.out (Nat.le_succ _) _ _ _ _).alloc (by simp [World.setCell]; omega) _
end
end Go.Proofs.Ytchbbaehdcmcfaa
