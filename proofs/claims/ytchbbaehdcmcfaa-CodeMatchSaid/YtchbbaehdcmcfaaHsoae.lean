import Derived.Test.YtchbbaehdcmcfaaHsoad
import Derived.Deep.Quiet
import Derived.Below
import Derived.BigQuiet
import Derived.Test.YtchbbaehdcmcfaaHsoac
import Derived.Deep.RegionHeld3
import Derived.Deep.QuietTactic
import Derived.Maps.AppendAt
import Derived.Deep.Upon
import Derived.Deep.AppendSrc
import Derived.Laws.CopyOwn
import Derived.Laws.CopyRow
import Derived.Laws.Pointers
import Derived.Deep.OwnRows
import Derived.OwnWalk
import Derived.Test.YtchbbaehdcmcfaaRows
set_option linter.unusedVariables false
set_option linter.unusedSimpArgs false
/- Package term: what is good. -/
namespace Go.Proofs.Ytchbbaehdcmcfaa
open Go.RowKit
set_option linter.unusedVariables false
def okT (t : Tm) (q : Nat) : Bool := decide (depthN t ≤ q) && formedT t
def okL : List Tm → Nat → Bool
 | [], _ => true
 | x :: r, q => okT x q && okL r q
theorem okL_eq : ∀ (l : List Tm) (q : Nat), okL l q = (decide (depthsN l ≤ q) && formedL l)
 | [], q => by simp [okL, depthsN, formedL]
 | x :: r, q => by
  rw [okL, okL_eq r q, depthsN, formedL]
  unfold okT
  by_cases h1 : depthN x ≤ q
  ·by_cases h2 : depthsN r ≤ q
   ·rw [decide_eq_true h1, decide_eq_true h2, decide_eq_true (by omega)]
    cases formedT x <;> cases formedL r <;> rfl
   ·rw [decide_eq_true h1, decide_eq_false h2, decide_eq_false (by omega)]
    cases formedT x <;> rfl
  ·have e : decide (max (depthN x) (depthsN r) ≤ q) = false := decide_eq_false (by omega)
   rw [decide_eq_false h1, e]
   rfl
theorem okT_zero (t : Tm) : okT t 0 = false := by
 unfold okT
 have := depth_pos t
 rw [decide_eq_false (by omega)]
 rfl
theorem okT_succ (k n : Int) (s : ByteArray) (ts : List Tm) (q : Nat) : okT (.mk k n s ts) (q + 1) = (plainT k n s.data.toList ts.length && okL ts q) := by
 unfold okT
 rw [okL_eq, formedT, depthN]
 by_cases h : depthsN ts ≤ q
 ·rw [decide_eq_true h, decide_eq_true (by omega)]
  cases plainT k n s.data.toList ts.length <;> rfl
 ·rw [decide_eq_false h, decide_eq_false (by omega)]
  cases plainT k n s.data.toList ts.length <;> rfl
set_option maxHeartbeats 4000000 in
set_option maxRecDepth 100000 in
theorem good_at : ∀ (q : Nat) (x : Tm), q ≤ 1000000 → ∀ (w : World) (v : Value), TmV w x v →
  Calls Try.prog 66 #[v, .int .i64 q] w fun e w' => e = .returned (.bool (okT x q)) ∧ Below w.heap.size w w'
 | 0, x, hq, w, v, hv => by
  obtain ⟨k, n, s, u, rfl⟩ := hv.four
  rw [okT_zero]
  clear hv
  go_enter Try.func66, Try.ntmps66
  go_wp2
  go_ret
  exact ⟨rfl, bel1' _ _⟩
 | q + 1, .mk k n s ts, hq, w, v, hv => by
  obtain ⟨u, rfl, hs, hk, hn, hu⟩ := tmV_iff.1 hv
  obtain ⟨a, c, rfl, h1, h2, h3⟩ := hu.len
  unfold BIG at h3 hs
  rw [okT_succ]
  obtain ⟨m, hm⟩ : ∃ m, ts.length = m := ⟨_, rfl⟩
  have IH := Lib.hid (fun (y : Tm) => good_at q y (by omega))
  have HU := Lib.hid hu
  have HM := Lib.hid hm
  rw [hm] at h1 h3 hu HU ⊢
  have F := fun w => fits_at (k := k) (n := n) (s := s) (a := a) (m := m) (c := c) hs hn h1 h2 h3 w
  obtain ⟨p, hp⟩ : ∃ p, plainT k n s.data.toList m = p := ⟨_, rfl⟩
  rw [hp] at F ⊢
  obtain ⟨Q, hQ⟩ : ∃ Q : Int, ((q + 1 : Nat) : Int) = Q := ⟨_, rfl⟩
  rw [hQ]
  have hq1 : Q - 1 = q := by omega
  have hQ0 : (Q == 0) = false := by apply beq_false_of_ne; omega
  have hQb : Q ≤ 1000001 := by omega
  have hQ1 : 0 < Q := by omega
  clear hv hu hm hp hQ
  cases p
  ·rw [Bool.false_and]
   go_enter Try.func66, Try.ntmps66
   (go_wp2_with fail; go_fit (F _); rintro e w1 ⟨rfl, b1⟩)
   have B1 := Lib.hid (Ext.trans' (bel1' w _) b1)
   clear b1
   go_wp2
   go_ret
   exact ⟨rfl, B1.out⟩
  ·rw [Bool.true_and]
   obtain ⟨r, hr⟩ : ∃ r, okL ts q = r := ⟨_, rfl⟩
   rw [hr]
   have HR := Lib.hid hr
   clear hr
   go_enter Try.func66, Try.ntmps66
   (go_wp2_with fail; go_fit (F _); rintro e w1 ⟨rfl, b1⟩)
   obtain ⟨e0, e1, e2, e3⟩ := box_cells w 31 _ _ _ _ b1
   have B1 := Lib.hid (Ext.trans' (bel1' w _) b1)
   clear b1 F
   go_wp2_with fail
   go_loopw [17] (fun v wr => ∃ i : Nat, i ≤ m ∧ v = .int .i64 i ∧ Hid (okL (ts.drop i) q = r) ∧ Hid (Below w.heap.size w wr)) (fun v _ => m - (RowKit.intOf v).toNat)
   case atStart => exact ⟨0, Nat.zero_le _, rfl, Lib.hid (by rw [List.drop_zero]; exact HR.out), B1⟩
   case round =>
    obtain ⟨i, hi, rfl, HD, HB⟩ := hrel
    by_cases hil : i < m
    ·obtain ⟨y, hy⟩ : ∃ y, ts[i]? = some y := ⟨_, List.getElem?_eq_getElem (by rw [HM.out]; exact hil)⟩
     have hdr : ts.drop i = y :: ts.drop (i + 1) := by
      obtain ⟨hlt', rfl⟩ := List.getElem?_eq_some_iff.1 hy
      exact List.drop_eq_getElem_cons hlt'
     have hd := HD.out
     rw [hdr, okL] at hd
     obtain ⟨b, off, k', n', s', u', rfl, hbb, _, _, _, c0, c1, c2, c3, htu, ht⟩ := (HU.out.ext HB.out).get hy
     obtain ⟨au, cu, rfl, _⟩ := htu.len
     clear htu
     have ih := IH.out y _ _ (TmV.ext (bel1' wr (box4 k' n' s' (.slice au y.args.length cu) 31)) _ _ ht)
     clear hdr HD ht
     cases hq : okT y q
     ·rw [hq, Bool.false_and] at hd
      rw [hq] at ih
      subst hd
      clear hq hy HR
      (go_wp2_with fail; go_fit (ih); rintro e w2 ⟨rfl, b2⟩)
      have B2 := Lib.hid (Ext.trans' HB.out (Ext.trans' (bel1' _ _) b2))
      clear b2
      go_wp2
      go_ret
      exact ⟨rfl, B2.out⟩
     ·rw [hq, Bool.true_and] at hd
      rw [hq] at ih
      have HD := Lib.hid hd
      clear hq hd hy
      (go_wp2_with fail; go_fit (ih); rintro e w2 ⟨rfl, b2⟩)
      have B2 := Lib.hid (Ext.trans' HB.out (Ext.trans' (bel1' _ _) b2))
      clear b2
      go_wp2
      go_roundw
      case rel => exact ⟨i + 1, by omega, by go_num, HD, B2⟩
      case measure => simp [RowKit.intOf]; omega
    ·have hd := HD.out
     rw [List.drop_eq_nil_of_le (by rw [HM.out]; omega), okL] at hd
     subst hd
     clear HR HD
     go_wp2
     go_ret
     exact ⟨rfl, HB.out⟩
theorem Good_at (x : Tm) (w : World) (v : Value) (hv : TmV w x v) : Calls Try.prog 27 #[v] w fun e w' => e = .returned (.bool (goodT x)) ∧ Below w.heap.size w w' := by
 have S := fun w (h : TmV w x v) => size_at x w v h
 have G := fun w (h : TmV w x v) => good_at 64 x (by omega) w v h
 have hg : goodT x = (decide (sizeN x ≤ 2000) && okT x 64) := by
  unfold goodT okT
  rw [Bool.and_assoc]
 obtain ⟨k, n, s, u, rfl⟩ := hv.four
 have hv0 := TmV.ext (bel1' w (box4 k n s u 31)) _ _ hv
 obtain ⟨p, hp⟩ : ∃ p, min (sizeN x) 2001 = p := ⟨_, rfl⟩
 rw [hp] at S
 rw [hg]
 generalize okT x 64 = f at G ⊢
 clear hg hv
 by_cases h1 : p ≤ 2000
 ·rw [decide_eq_true (by omega), Bool.true_and]
  clear hp
  go_enter Try.func27, Try.ntmps27
  (go_wp2_with fail; go_fit (S _ hv0); rintro e w1 ⟨rfl, b1⟩)
  obtain ⟨e0, e1, e2, e3⟩ := box_cells w 31 _ _ _ _ b1
  have hv1 := TmV.ext b1 _ _ hv0
  (go_wp2_with fail; go_fit (G _ hv1); rintro e w2 ⟨rfl, b2⟩)
  have B2 := Lib.hid (Ext.trans' (bel1' w _) (Ext.trans' b1 b2))
  clear b1 b2
  go_wp2
  go_ret
  exact ⟨rfl, B2.out⟩
 ·rw [decide_eq_false (by omega), Bool.false_and]
  clear hp
  go_enter Try.func27, Try.ntmps27
  (go_wp2_with fail; go_fit (S _ hv0); rintro e w1 ⟨rfl, b1⟩)
  obtain ⟨e0, e1, e2, e3⟩ := box_cells w 31 _ _ _ _ b1
  have B1 := Lib.hid (Ext.trans' (bel1' w _) b1)
  clear b1
  go_wp2
  go_ret
  exact ⟨rfl, B1.out⟩
end Go.Proofs.Ytchbbaehdcmcfaa
/- A region that draws its order, walked once in the text's order, in a class of worlds. Nothing here speaks of one program. -/
namespace Go
section
variable {P : Program} {ops : Array Oper} {C : World → Prop}
theorem quiet_of {o : Oper} {a : Act} {K : Act → Prop} (h : ∃ v, (∀ w, C w → o.quietAt P a C w v) ∧ K (a.put o.dst v)) : o.quiet P a C K := h
theorem wp_region_class (C : World → Prop) {id : Nat} {Q : Exit → Act → World → Prop} {a : Act} {w : World} {l : List Oper} (hm : P.follows .mixedOrders = true) (hB : Region.lexB .any l.toArray = true) (hC : C w.drew)
  (h : wpQuiet P l.toArray C (fun a' => ∀ w', C w' → Q .normal a' w') l a) : (Code.region id l.toArray true).wp P Q a w :=
 wp_region_quiet hm hB hC (by simpa using h)
end
end Go
/- Worlds of which some blocks are not looked at: terms that read without them. Nothing here speaks of one program. -/
namespace Go.Proofs.Ytchbbaehdcmcfaa
open Go.RowKit
set_option linter.unusedVariables false
def hide (D : Nat → Bool) (w : World) : World := { w with heap := w.heap.mapIdx fun i o => if D i then Obj.deferred none else o }
theorem hide_size (D : Nat → Bool) (w : World) : (hide D w).heap.size = w.heap.size := by unfold hide; simp
theorem hide_get (D : Nat → Bool) (w : World) (k : Nat) (h : D k = false) : (hide D w).heap[k]? = w.heap[k]? := by
 unfold hide
 simp only [Array.getElem?_mapIdx]
 cases w.heap[k]? with
 | none => rfl
 | some o => simp [h]
theorem hide_gone (D : Nat → Bool) (w : World) (a : Addr) (h : D a.block = true) : (hide D w).cell? a = none := by
 unfold World.cell? hide
 simp only [Array.getElem?_mapIdx]
 cases w.heap[a.block]? with
 | none => rfl
 | some o => simp [h]
theorem hide_cell (D : Nat → Bool) (w : World) (a : Addr) (h : D a.block = false) : (hide D w).cell? a = w.cell? a := World.cell?_of_block (hide_get D w a.block h)
def Stays (w w' : World) : Prop := w.heap.size ≤ w'.heap.size ∧ ∀ a v, w.cell? a = some v → w'.cell? a = some v
theorem Stays.refl (w : World) : Stays w w := ⟨Nat.le_refl _, fun _ _ h => h⟩
theorem Stays.trans {a b c : World} (h : Stays a b) (h' : Stays b c) : Stays a c := ⟨Nat.le_trans h.1 h'.1, fun x v hv => h'.2 x v (h.2 x v hv)⟩
theorem Stays.hide {D D' : Nat → Bool} {w w' : World} (hs : w.heap.size ≤ w'.heap.size) (hk : ∀ k, k < w.heap.size → D k = false → D' k = false ∧ w'.heap[k]? = w.heap[k]?) : Stays (hide D w) (hide D' w') := by
 refine ⟨by rw [hide_size, hide_size]; exact hs, fun a v hv => ?_⟩
 have hlt : a.block < w.heap.size := by
  have := World.block_lt_of_cell? _ _ hv
  rwa [hide_size] at this
 cases hd : D a.block with
 | true => rw [hide_gone D w a hd] at hv; cases hv
 | false =>
  obtain ⟨h1, h2⟩ := hk _ hlt hd
  rw [hide_cell D w a hd] at hv
  rw [hide_cell D' w' a h1, World.cell?_of_block h2]
  exact hv
theorem Stays.unhide (D : Nat → Bool) (w : World) : Stays (Go.Proofs.Ytchbbaehdcmcfaa.hide D w) w := by
 refine ⟨by rw [hide_size]; exact Nat.le_refl _, fun a v hv => ?_⟩
 cases hd : D a.block with
 | true => rw [hide_gone D w a hd] at hv; cases hv
 | false => rwa [hide_cell D w a hd] at hv
theorem Stays.below {D D' : Nat → Bool} {w w' : World} (hb : Below w.heap.size w w') (hD : ∀ k, k < w.heap.size → D k = false → D' k = false) : Stays (Go.Proofs.Ytchbbaehdcmcfaa.hide D w) (Go.Proofs.Ytchbbaehdcmcfaa.hide D' w') :=
 Stays.hide hb.size fun k hk hd => ⟨hD k hk hd, hb.block k hk⟩
theorem Stays.less {D D' : Nat → Bool} {w : World} (hD : ∀ k, D k = false → D' k = false) : Stays (Go.Proofs.Ytchbbaehdcmcfaa.hide D w) (Go.Proofs.Ytchbbaehdcmcfaa.hide D' w) :=
 Stays.hide (Nat.le_refl _) fun k _ hd => ⟨hD k hd, rfl⟩
theorem Stays.set {D : Nat → Bool} {w : World} (a : Addr) (v : Value) (h : D a.block = true) : Stays (Go.Proofs.Ytchbbaehdcmcfaa.hide D w) (Go.Proofs.Ytchbbaehdcmcfaa.hide D (w.setCell a v)) :=
 Stays.hide (by simp [World.setCell]) fun k _ hd => ⟨hd, Below.heap_setCell w a v k (fun e => by rw [e, h] at hd; cases hd)⟩
mutual
theorem TmV.stay {w w' : World} (hb : Stays w w') : ∀ (x : Tm) (v : Value), TmV w x v → TmV w' x v
 | .mk k n s ts, v, h => by
  rw [TmV] at h ⊢
  obtain ⟨a, c, h1, h2, h3, h4, h5, h6, h7, h8⟩ := h
  refine ⟨a, c, h1, h2, h3, h4, h5, h6, h7, ?_⟩
  rcases h8 with h8 | ⟨b, off, e1, e2, e3⟩
  ·exact Or.inl h8
  ·exact Or.inr ⟨b, off, e1, Nat.lt_of_lt_of_le e2 hb.1, TmRow.stay hb ts b off e3⟩
theorem TmRow.stay {w w' : World} (hb : Stays w w') : ∀ (l : List Tm) (b off : Nat), TmRow w l b off → TmRow w' l b off
 | [], b, off, _ => by rw [TmRow]; trivial
 | x :: r, b, off, h => by
  rw [TmRow] at h ⊢
  obtain ⟨⟨c0, c1, c2, c3, h0, h1, h2, h3, h4⟩, h5⟩ := h
  exact ⟨⟨c0, c1, c2, c3, hb.2 _ _ h0, hb.2 _ _ h1, hb.2 _ _ h2, hb.2 _ _ h3, TmV.stay hb x _ h4⟩, TmRow.stay hb r b (off + 4) h5⟩
end
theorem Tms.stay {w w' : World} {v : Value} {l : List Tm} (h : Tms w v l) (hb : Stays w w') : Tms w' v l := by
 obtain ⟨a, c, h1, h2, h3, h4, h5⟩ := h
 refine ⟨a, c, h1, h2, h3, h4, ?_⟩
 rcases h5 with h5 | ⟨b, off, e1, e2, e3⟩
 ·exact Or.inl h5
 ·exact Or.inr ⟨b, off, e1, Nat.lt_of_lt_of_le e2 hb.1, TmRow.stay hb l b off e3⟩
theorem RowP.hide {w : World} {base : Nat} {ty : TypeId} {v : Value} {ps : List TmP} {D : Nat → Bool} (h : RowP w base ty v ps) (hD : ∀ k, base ≤ k → (∃ cur, w.heap[k]? = some (.cells cur ty (0, 0))) → D k = false) : RowP (Go.Proofs.Ytchbbaehdcmcfaa.hide D w) base ty v ps := by
 obtain ⟨h1, h2⟩ := h
 refine ⟨h1, ?_⟩
 rcases h2 with h2 | ⟨g, cap, cur, hv, hg, hh, r⟩
 ·exact Or.inl h2
 ·exact Or.inr ⟨g, cap, cur, hv, hg, by rw [hide_get D w g (hD g hg ⟨_, hh⟩)]; exact hh, r⟩
def Old (D : Nat → Bool) (w : World) : Prop := ∀ k, w.heap.size ≤ k → D k = false
theorem Old.mono {D : Nat → Bool} {w w' : World} (h : Old D w) (hs : w.heap.size ≤ w'.heap.size) : Old D w' := fun k hk => h k (Nat.le_trans hs hk)
theorem TmV.later {D : Nat → Bool} {w w' : World} (hb : Below w.heap.size w w') {x : Tm} {v : Value} (h : TmV (hide D w) x v) : TmV (hide D w') x v := TmV.stay (Stays.below hb fun _ _ h => h) x v h
theorem TmV.bare {D : Nat → Bool} {w : World} {x : Tm} {v : Value} (h : TmV (hide D w) x v) : TmV w x v := TmV.stay (Stays.unhide D w) x v h
end Go.Proofs.Ytchbbaehdcmcfaa
/- A region that draws its order, walked operation by operation while a condition holds. Nothing here speaks of one program. -/
namespace Go
section
variable {P : Program} {md : Region.Mode} {ops : Array Oper} {Q : Exit → Act → World → Prop} {S : World → Prop}
theorem held_t {i : Nat} {oi : Oper} {fuel : Nat} {listed : Array Bool} {a : Act} {w : World} (hS : S w)
  (h : ∃ v, (∀ w, S w → (execOp a.eval oi).run P w = .ok (.value v) w) ∧ wpAnyH P md ops Q S fuel (listed.setIfInBounds i true) (a.put oi.dst v) w)
  (hi : ops[i]? = some oi := by simp only [List.getElem?_toArray, List.getElem?_cons_zero, List.getElem?_cons_succ]; rfl)
  (hs : Region.noSelect ops = true := by kernel_rfl) (hf : Region.free md ops listed i = true := by kernel_rfl) (hr : (Region.ready md ops listed).contains i = true := by kernel_rfl) (hw : Region.wanted oi (yielded ops a.tmps) = true := by rfl)
  (hQ : ∀ v c a w, Q (.panic c) (a.put oi.dst v) w → Q (.panic c) a w := by exact fun _ _ _ _ h => h) : wpAnyH P md ops Q S (fuel + 1) listed a w := by
 obtain ⟨v, h1, h2⟩ := h
 exact wpAnyH_take hi hs hf hr (hQ v) (Or.inl ⟨hw, h1⟩) hS h2
theorem held_s {i : Nat} {oi : Oper} {fuel : Nat} {listed : Array Bool} {a : Act} {w : World} (hS : S w) (h : wpAnyH P md ops Q S fuel (listed.setIfInBounds i true) (a.put oi.dst undef) w)
  (hi : ops[i]? = some oi := by simp only [List.getElem?_toArray, List.getElem?_cons_zero, List.getElem?_cons_succ]; rfl)
  (hs : Region.noSelect ops = true := by kernel_rfl) (hf : Region.free md ops listed i = true := by kernel_rfl) (hr : (Region.ready md ops listed).contains i = true := by kernel_rfl) (hw : Region.wanted oi (yielded ops a.tmps) = false := by rfl)
  (hQ : ∀ c a w, Q (.panic c) (a.put oi.dst undef) w → Q (.panic c) a w := by exact fun _ _ _ h => h) : wpAnyH P md ops Q S (fuel + 1) listed a w :=
 wpAnyH_take hi hs hf hr hQ (Or.inr ⟨hw, rfl⟩) hS h
theorem held_c (i : Nat) {o : Oper} {fuel : Nat} {listed : Array Bool} {a : Act} {w : World}
  (h : ∀ K' : Act → World → Prop, Shut (∀ a w, S w → (S w → wpAnyH P md ops Q S fuel (listed.setIfInBounds i true) a w) → K' a w) → if Region.wanted o (yielded ops a.tmps) = true then Oper.wp P o a w K' Q else K' (a.put o.dst undef) w)
  (hr : Region.ready md ops listed = [i] := by kernel_rfl) (hi : ops[i]? = some o := by simp only [List.getElem?_toArray, List.getElem?_cons_zero, List.getElem?_cons_succ]; rfl) : wpAnyH P md ops Q S (fuel + 1) listed a w :=
 wpAnyH_ready hr (by simp) (AllReadyH.cons hi h AllReadyH.nil)
end
end Go
/- Drawn together by pull.py from XPrM XPrN XPrB XPrE XPrF XPrG XPrH XPsB. -/
namespace Go.Proofs.Ytchbbaehdcmcfaa
open Go.RowKit
set_option linter.unusedVariables false
structure Turn (D M D' M' : Nat → Bool) (w w' : World) : Prop where
 size : w.heap.size ≤ w'.heap.size
 dd : ∀ k, k < w.heap.size → D' k = D k
 mm : ∀ k, k < w.heap.size → M' k = M k
 kept : ∀ k, k < w.heap.size → M k = false → w'.heap[k]? = w.heap[k]?
 ot : Below 0 w w'
theorem Turn.trans {D M D' M' D2 M2 : Nat → Bool} {a b c : World} (h : Turn D M D' M' a b) (g : Turn D' M' D2 M2 b c) : Turn D M D2 M2 a c :=
 ⟨Nat.le_trans h.size g.size, fun k hk => (g.dd k (Nat.lt_of_lt_of_le hk h.size)).trans (h.dd k hk), fun k hk => (g.mm k (Nat.lt_of_lt_of_le hk h.size)).trans (h.mm k hk),
  fun k hk hm => (g.kept k (Nat.lt_of_lt_of_le hk h.size) ((h.mm k hk).trans hm)).trans (h.kept k hk hm), h.ot.trans g.ot⟩
theorem Turn.below {D M : Nat → Bool} {w w' : World} (h : Below w.heap.size w w') : Turn D M D M w w' := ⟨h.size, fun _ _ => rfl, fun _ _ => rfl, fun k hk _ => h.block k hk, h.mono (Nat.zero_le _)⟩
theorem Turn.stays {D M D' M' : Nat → Bool} {w w' : World} (h : Turn D M D' M' w w') (md : ∀ k, M k = true → D k = true) : Stays (hide D w) (hide D' w') :=
 Stays.hide h.size fun k hk hd => ⟨(h.dd k hk).trans hd, h.kept k hk (by cases hm : M k with | false => rfl | true => rw [md k hm] at hd; cases hd)⟩
theorem Turn.bel {D M D' M' : Nat → Bool} {w w' : World} (h : Turn D M D' M' w w') {n : Nat} (hn : n ≤ w.heap.size) (hm : ∀ k, k < n → M k = false) : Below n w w' :=
 ⟨h.ot.os, h.ot.tape, h.ot.output, h.size, fun k hk => h.kept k (Nat.lt_of_lt_of_le hk hn) (hm k hk)⟩
theorem Turn.set {D M D' M' : Nat → Bool} {w w' : World} (h : Turn D M D' M' w w') (a : Addr) (u : Value) (ha : w.heap.size ≤ a.block ∨ M a.block = true) : Turn D M D' M' w (w'.setCell a u) :=
 ⟨Nat.le_trans h.size (by simp [World.setCell]), h.dd, h.mm, fun k hk hm => (Below.heap_setCell w' a u k (fun e => by
  rcases ha with ha | ha
  ·omega
  ·rw [e, ha] at hm; cases hm)).trans (h.kept k hk hm), h.ot.setCell (Nat.zero_le _) u⟩
theorem row_at {w w' : World} {B k n : Nat} {e : TypeId} {v : Value} {xs : List Value} (h : w.ownsRow B e k v n xs) (hb : ∀ g, v.ownBlock = some g → w'.heap[g]? = w.heap[g]?) : w'.ownsRow B e k v n xs := by
 obtain ⟨h0, h1⟩ := h
 refine ⟨h0, ?_⟩
 rcases h1 with h1 | ⟨g, cap, cur, rfl, hg, hh, h2⟩
 ·exact Or.inl h1
 ·exact Or.inr ⟨g, cap, cur, rfl, hg, by rw [hb g rfl]; exact hh, h2⟩
theorem row_in {w : World} {B k n : Nat} {e : TypeId} {v : Value} {xs : List Value} (h : w.ownsRow B e k v n xs) {g : Nat} (hg : v.ownBlock = some g) : B ≤ g ∧ g < w.heap.size := by
 rcases h.2 with ⟨rfl, _⟩ | ⟨g', cap, cur, rfl, h1, h2, _⟩
 ·cases hg
 ·cases hg
  exact ⟨h1, (Array.getElem?_eq_some_iff.1 h2).1⟩
def plusB (D : Nat → Bool) (b : Nat) : Nat → Bool := fun k => k == b || D k
theorem plusB_self (D : Nat → Bool) (b : Nat) : plusB D b b = true := by simp [plusB]
theorem plusB_of {D : Nat → Bool} {b k : Nat} (h : D k = true) : plusB D b k = true := by simp [plusB, h]
theorem plusB_ne {D : Nat → Bool} {b k : Nat} (h : k ≠ b) : plusB D b k = D k := by simp [plusB, h]
theorem Turn.box {D M D' M' : Nat → Bool} {w w' : World} {b : Nat} (h : Turn (plusB D b) M D' M' w w') (hb : w.heap.size ≤ b) : Turn D M D' M' w w' :=
 ⟨h.size, fun k hk => (h.dd k hk).trans (plusB_ne (by omega)), h.mm, h.kept, h.ot⟩
theorem Turn.into {D M : Nat → Bool} {w w' : World} (h : Below w.heap.size w w') {b : Nat} (hb : w.heap.size ≤ b) : Turn D M (plusB D b) M w w' :=
 ⟨h.size, fun k hk => plusB_ne (by omega), fun _ _ => rfl, fun k hk _ => h.block k hk, h.mono (Nat.zero_le _)⟩
structure Box (w : World) (b : Nat) (vs : List Value) : Prop where
 cells : ∀ j u, vs[j]? = some u → w.cell? ⟨b, j, none⟩ = some u
 fz : ∀ j, w.frozen? ⟨b, j, none⟩ = false
 lt : b < w.heap.size
theorem box_new (w : World) (cs : Array Value) (ty : TypeId) : ∃ w1, w.alloc (.cells cs ty) = w1 ∧ Below w.heap.size w w1 ∧ w1.heap.size = w.heap.size + 1 ∧ Box w1 w.heap.size cs.toList := by
 refine ⟨_, rfl, bel1' _ _, by simp, fun j u h => ?_, fun j => by simp, by simp⟩
 have := cell_new w cs ty j u h
 rw [add_plain, Nat.zero_add] at this
 exact this
theorem Box.ext {w w' : World} {b : Nat} {vs : List Value} (h : Box w b vs) (hb : Below w.heap.size w w') : Box w' b vs :=
 ⟨fun j u hu => cell_later hb (h.cells j u hu), fun j => (hb.frozen (p := ⟨b, j, none⟩) h.lt).trans (h.fz j), Nat.lt_of_lt_of_le h.lt hb.size⟩
theorem Box.far {w : World} {b c k : Nat} {u : Value} {vs : List Value} (h : Box w b vs) (hne : b ≠ c) : Box (w.setCell ⟨c, k, none⟩ u) b vs :=
 ⟨fun j v hv => by
  rw [World.cell?_setCell_other]
  ·exact h.cells j v hv
  ·intro e; injection e with e _ _; exact hne e.symm, fun j => by rw [World.frozen?_setCell]; exact h.fz j, by have := h.lt; simpa [World.setCell] using this⟩
theorem Box.set {w : World} {b k : Nat} {u : Value} {vs : List Value} (h : Box w b vs) (hk : k < vs.length) : Box (w.setCell ⟨b, k, none⟩ u) b (vs.set k u) :=
 ⟨fun j v hv => by
  by_cases hj : j = k
  ·subst hj
   rw [List.getElem?_set_self hk] at hv
   injection hv with hv
   subst hv
   exact css (h.cells j _ (List.getElem?_eq_getElem hk))
  ·rw [List.getElem?_set_ne (by omega)] at hv
   rw [World.cell?_setCell_other]
   ·exact h.cells j v hv
   ·intro e; injection e with _ e _; exact hj e.symm, fun j => by rw [World.frozen?_setCell]; exact h.fz j, by have := h.lt; simpa [World.setCell] using this⟩
theorem Box.four {w : World} {b : Nat} {v0 v1 v2 v3 : Value} (h : Box w b [v0, v1, v2, v3]) : w.cell? ⟨b, 0, none⟩ = some v0 ∧ w.cell? ⟨b, 1, none⟩ = some v1 ∧ w.cell? ⟨b, 2, none⟩ = some v2 ∧ w.cell? ⟨b, 3, none⟩ = some v3 ∧ ∀ j, w.frozen? ⟨b, j, none⟩ = false :=
 ⟨h.cells 0 _ rfl, h.cells 1 _ rfl, h.cells 2 _ rfl, h.cells 3 _ rfl, h.fz⟩
abbrev set3 (w : World) (b : Nat) (u0 u1 u2 : Value) : World := ((w.setCell ⟨b, 0, none⟩ u0).setCell ⟨b, 1, none⟩ u1).setCell ⟨b, 2, none⟩ u2
abbrev set4 (w : World) (b : Nat) (u0 u1 u2 u3 : Value) : World := (set3 w b u0 u1 u2).setCell ⟨b, 3, none⟩ u3
theorem Turn.set3 {D M D' M' : Nat → Bool} {w w' : World} (h : Turn D M D' M' w w') {b : Nat} (hb : w.heap.size ≤ b ∨ M b = true) (u0 u1 u2 : Value) : Turn D M D' M' w (Go.Proofs.Ytchbbaehdcmcfaa.set3 w' b u0 u1 u2) :=
 ((h.set ⟨b, 0, none⟩ u0 hb).set ⟨b, 1, none⟩ u1 hb).set ⟨b, 2, none⟩ u2 hb
theorem Turn.set4 {D M D' M' : Nat → Bool} {w w' : World} (h : Turn D M D' M' w w') {b : Nat} (hb : w.heap.size ≤ b ∨ M b = true) (u0 u1 u2 u3 : Value) : Turn D M D' M' w (Go.Proofs.Ytchbbaehdcmcfaa.set4 w' b u0 u1 u2 u3) :=
 (h.set3 hb u0 u1 u2).set ⟨b, 3, none⟩ u3 hb
theorem far_cell {w : World} {b j c k : Nat} {u : Value} (hne : b ≠ c) : (w.setCell ⟨c, k, none⟩ u).cell? ⟨b, j, none⟩ = w.cell? ⟨b, j, none⟩ := by
 rw [World.cell?_setCell_other]
 intro e; injection e with e _ _; exact hne e.symm
theorem Below.set3 {B : Nat} {w w' : World} (h : Below B w w') {b : Nat} (hb : B ≤ b) (u0 u1 u2 : Value) : Below B w (Go.Proofs.Ytchbbaehdcmcfaa.set3 w' b u0 u1 u2) :=
 ((h.setCell (p := ⟨b, 0, none⟩) hb _).setCell (p := ⟨b, 1, none⟩) hb _).setCell (p := ⟨b, 2, none⟩) hb _
theorem Below.set4 {B : Nat} {w w' : World} (h : Below B w w') {b : Nat} (hb : B ≤ b) (u0 u1 u2 u3 : Value) : Below B w (Go.Proofs.Ytchbbaehdcmcfaa.set4 w' b u0 u1 u2 u3) :=
 (Below.set3 h hb u0 u1 u2).setCell (p := ⟨b, 3, none⟩) hb _
def withB (D : Nat → Bool) (v : Value) : Nat → Bool := fun k => D k || v.ownBlock == some k
theorem withB_of {D : Nat → Bool} {v : Value} {k : Nat} (h : D k = true) : withB D v k = true := by simp [withB, h]
theorem withB_own {D : Nat → Bool} {v : Value} {k : Nat} (h : v.ownBlock = some k) : withB D v k = true := by simp [withB, h]
theorem withB_no {D : Nat → Bool} {v : Value} {k : Nat} (h : v.ownBlock ≠ some k) : withB D v k = D k := by simp [withB, h]
theorem Box.block {w w' : World} {b : Nat} {vs : List Value} (h : Box w b vs) (hb : w'.heap[b]? = w.heap[b]?) (hlt : b < w'.heap.size) : Box w' b vs :=
 ⟨fun j u hu => by rw [World.cell?_of_block hb]; exact h.cells j u hu, fun j => by rw [World.frozen?_of_block hb]; exact h.fz j, hlt⟩
def Okd (D M : Nat → Bool) (w : World) : Prop := (∀ k, M k = true → D k = true) ∧ Old D w
def Fin (D M' : Nat → Bool) (n : Nat) : Nat → Bool := fun k => if k < n then D k else M' k
theorem fin_old {D M' : Nat → Bool} {n k : Nat} (h : k < n) : Fin D M' n k = D k := if_pos h
theorem fin_new {D M' : Nat → Bool} {n k : Nat} (h : n ≤ k) : Fin D M' n k = M' k := if_neg (by omega)
theorem fin_less {D M D1 M' : Nat → Bool} {w w' : World} (ht : Turn D M D1 M' w w') (ho : Okd D1 M' w') {k : Nat} (h : D1 k = false) : Fin D M' w.heap.size k = false := by
 by_cases hk : k < w.heap.size
 ·rw [fin_old hk, ← ht.dd k hk]; exact h
 ·rw [fin_new (by omega)]
  cases hm : M' k with
  | false => rfl
  | true => rw [ho.1 k hm] at h; cases h
theorem TmV.fin {D M D1 M' : Nat → Bool} {w w' : World} {t : Tm} {v : Value} (h : TmV (hide D1 w') t v) (ht : Turn D M D1 M' w w') (ho : Okd D1 M' w') : TmV (hide (Fin D M' w.heap.size) w') t v :=
 TmV.stay (Stays.less fun k hk => fin_less ht ho hk) t v h
theorem grown_stays {D : Nat → Bool} {W w' : World} {v v' : Value} (hg : W.grownBy w' v.ownBlock) (hD : ∀ g, v.ownBlock = some g → D g = true) (hv : v'.ownBlock = v.ownBlock ∨ v'.ownBlock = some W.heap.size) : Stays (hide D W) (hide (withB D v') w') :=
 Stays.hide hg.size fun k hk hd => ⟨by
  rw [withB_no]
  ·exact hd
  ·intro e
   rcases hv with hv | hv
   ·rw [hD k (hv.symm.trans e)] at hd; cases hd
   ·rw [hv] at e; injection e with e; omega, hg.block k hk (fun e => by rw [hD k e.symm] at hd; cases hd)⟩
theorem Turn.grown {D M D1 M1 : Nat → Bool} {w W w' : World} {v v' : Value} (ht : Turn D M D1 M1 w W) (hg : W.grownBy w' v.ownBlock) (hb : ∀ g, v.ownBlock = some g → w.heap.size ≤ g) (hv : v'.ownBlock = v.ownBlock ∨ v'.ownBlock = some W.heap.size) : Turn D M (withB D1 v') M1 w w' :=
 ⟨Nat.le_trans ht.size hg.size, fun k hk => by
  rw [withB_no]
  ·exact ht.dd k hk
  ·intro e
   rcases hv with hv | hv
   ·have := hb k (hv.symm.trans e); omega
   ·rw [hv] at e; injection e with e; have := ht.size; omega, ht.mm, fun k hk hm => (hg.block k (Nat.lt_of_lt_of_le hk ht.size) (fun e => by have := hb k e.symm; omega)).trans (ht.kept k hk hm), ht.ot.grown hg (Nat.zero_le _) (fun _ _ => Nat.zero_le _)⟩
theorem four_of {w : World} {t : Tm} {v : Value} (h : TmV w t v) : ∃ k n s a m c, v = .agg #[.int .i64 k, .int .i64 n, .string s, .slice a m c] ∧ t.k = k ∧ t.n = n ∧ t.s = s ∧ v = pVal (t, .slice a m c) := by
 cases t with
 | mk k n s ts =>
  obtain ⟨u, rfl, _, _, _, hu⟩ := tmV_iff.1 h
  obtain ⟨a, c, rfl, _⟩ := hu.len
  exact ⟨k, n, s, a, _, c, rfl, rfl, rfl, rfl, rfl⟩
theorem TmV.put4 {D : Nat → Bool} {w : World} {t : Tm} {v : Value} (h : TmV (hide D w) t v) {b : Nat} (hd : D b = true) (u0 u1 u2 u3 : Value) : TmV (hide D (set4 w b u0 u1 u2 u3)) t v :=
 TmV.stay ((((Stays.set ⟨b, 0, none⟩ u0 hd).trans (Stays.set ⟨b, 1, none⟩ u1 hd)).trans (Stays.set ⟨b, 2, none⟩ u2 hd)).trans (Stays.set ⟨b, 3, none⟩ u3 hd)) t v h
theorem Okd.later {D M : Nat → Bool} {w w' : World} (h : Okd D M w) (hb : w.heap.size ≤ w'.heap.size) : Okd D M w' := ⟨h.1, h.2.mono hb⟩
theorem Okd.put4 {D M : Nat → Bool} {w : World} (h : Okd D M w) (b : Nat) (u0 u1 u2 u3 : Value) : Okd D M (set4 w b u0 u1 u2 u3) := h.later (by simp [World.setCell])
theorem Okd.box {D M : Nat → Bool} {w w' : World} (h : Okd D M w) (hb : w.heap.size ≤ w'.heap.size) {b : Nat} (hlt : b < w'.heap.size) : Okd (plusB D b) M w' :=
 ⟨fun k hk => plusB_of (h.1 k hk), fun k hk => (plusB_ne (by omega)).trans (h.2 k (Nat.le_trans hb hk))⟩
theorem TmV.box {D : Nat → Bool} {w w' : World} {t : Tm} {v : Value} (h : TmV (hide D w) t v) (hb : Below w.heap.size w w') {b : Nat} (hn : w.heap.size ≤ b) : TmV (hide (plusB D b) w') t v :=
 TmV.stay (Stays.below hb fun k hk hd => (plusB_ne (by omega)).trans hd) t v h
def RowY (D M : Nat → Bool) (w : World) (base : Nat) (v : Value) (ps : List TmP) : Prop :=
 RowP w base 54 v ps ∧ (∀ g, v.ownBlock = some g → D g = true ∧ M g = false) ∧ ∀ p ∈ ps, TmV (hide D w) p.1 (pVal p)
theorem RowY.none (D M : Nat → Bool) (w : World) (base : Nat) : RowY D M w base (.slice none 0 0) [] := ⟨World.ownsRow_nil _ _ _ _, fun g hg => (by cases hg), fun p hp => (by cases hp)⟩
theorem RowY.turn {D M D' M' : Nat → Bool} {w w' : World} {base : Nat} {v : Value} {ps : List TmP} (h : RowY D M w base v ps) (ht : Turn D M D' M' w w') (md : ∀ k, M k = true → D k = true) : RowY D' M' w' base v ps := by
 obtain ⟨h1, h2, h3⟩ := h
 refine ⟨row_at h1 (fun g hg => ht.kept g (row_in h1 hg).2 (h2 g hg).2), fun g hg => ?_, fun p hp => TmV.stay (ht.stays md) _ _ (h3 p hp)⟩
 have hlt := (row_in h1 hg).2
 rw [ht.dd g hlt, ht.mm g hlt]
 exact h2 g hg
theorem RowY.more {D M : Nat → Bool} {W w' : World} {base : Nat} {v v' : Value} {ps : List TmP} {p : TmP} (h : RowY D M W base v ps) (hp : TmV (hide D W) p.1 (pVal p)) (ho : Okd D M W) (hg : W.grownBy w' v.ownBlock) (hv : v'.ownBlock = v.ownBlock ∨ v'.ownBlock = some W.heap.size)
  (hr : w'.ownsRow base 54 4 v' (ps.length + 1) (ps.flatMap pCells ++ pCells p)) : RowY (withB D v') M w' base v' (ps ++ [p]) := by
 obtain ⟨h1, h2, h3⟩ := h
 have hs := grown_stays hg (fun g e => (h2 g e).1) hv
 refine ⟨?_, fun g hg' => ⟨withB_own hg', ?_⟩, fun q hq => ?_⟩
 ·unfold RowP
  rw [List.length_append, List.flatMap_append, List.length_singleton]
  simpa using hr
 ·rcases hv with hv | hv
  ·exact (h2 g (hv.symm.trans hg')).2
  ·rw [hv] at hg'
   injection hg' with e
   subst e
   cases hm : M W.heap.size with
   | false => rfl
   | true => have := ho.1 _ hm; rw [ho.2 _ (Nat.le_refl _)] at this; cases this
 ·rcases List.mem_append.1 hq with hq | hq
  ·exact TmV.stay hs _ _ (h3 q hq)
  ·simp at hq
   subst hq
   exact TmV.stay hs _ _ hp
theorem RowY.fin {D M D1 M' : Nat → Bool} {w w' : World} {v : Value} {ps : List TmP} {base : Nat} (hbase : w.heap.size ≤ base) (h : RowY D1 M' w' base v ps) (ht : Turn D M D1 M' w w') (ho : Okd D1 M' w') (hl : ps.length * 56 ≤ BIG) : Tms (hide (Fin D M' w.heap.size) w') v (ps.map (·.1)) := by
 obtain ⟨h1, h2, h3⟩ := h
 have hh : RowP (hide (Fin D M' w.heap.size) w') base 54 v ps := by
  refine row_at h1 (fun g hg => hide_get _ _ _ ?_)
  rw [fin_new (Nat.le_trans hbase (row_in h1 hg).1)]
  exact (h2 g hg).2
 exact hh.terms (fun p hp => TmV.fin (h3 p hp) ht ho) hl
theorem infoTermR : (Try.prog.info? 54).map (fun i => (i.zero, i.size, i.bytes)) = some (some (.agg #[.int .i64 0, .int .i64 0, .string ⟨#[]⟩, .slice none 0 0]), 4, 56) := by kernel_rfl
abbrev noM : Nat → Bool := fun _ => false
theorem fin_no {D : Nat → Bool} {w : World} (h : Old D w) : Fin D noM w.heap.size = D := by
 funext k
 by_cases hk : k < w.heap.size
 ·exact fin_old hk
 ·rw [fin_new (by omega)]
  exact (h k (by omega)).symm
theorem okd_no {D : Nat → Bool} {w : World} (h : Old D w) : Okd D noM w := And.intro (fun k hk => absurd hk (by simp)) h
theorem take_next {α : Type} {l : List α} {k : Nat} {x : α} (h : l[k]? = some x) : l.take (k + 1) = l.take k ++ [x] := by rw [List.take_add_one, h]; rfl
theorem RowY.put {D M : Nat → Bool} {w : World} {base : Nat} {v : Value} {ps : List TmP} (h : RowY D M w base v ps) (a : Addr) (u : Value) (hd : D a.block = true) (hne : ∀ g, v.ownBlock = some g → g ≠ a.block) : RowY D M (w.setCell a u) base v ps :=
 ⟨row_at h.1 (fun g hg => Below.heap_setCell w a u g (hne g hg)), h.2.1, fun p hp => TmV.stay (Stays.set a u hd) _ _ (h.2.2 p hp)⟩
theorem far_one {w : World} {b j c k : Nat} {v u : Value} (h : w.cell? ⟨b, j, none⟩ = some v) (hne : b ≠ c) : (w.setCell ⟨c, k, none⟩ u).cell? ⟨b, j, none⟩ = some v := by rw [far_cell hne]; exact h
end Go.Proofs.Ytchbbaehdcmcfaa
/- append of whatever slice to a row of the call's own: also of nothing. Nothing here speaks of one program. -/
namespace Go.Proofs.Ytchbbaehdcmcfaa
open Go.RowKit
theorem row_form {w : World} {b e sz n : Nat} {v : Value} {xs : List Value} (h : w.ownsRow b e sz v n xs) : ∃ a c, v = .slice a n c ∧ n ≤ c := by
 rcases h.2 with ⟨rfl, h0⟩ | ⟨g, cap, cur, rfl, _, _, h1, _⟩
 ·exact ⟨none, 0, by rw [h0], by omega⟩
 ·exact ⟨_, cap, rfl, h1⟩
section
variable {P : Program}
theorem run_append_any (w : World) (base : Nat) (t ty e : TypeId) (i : TypeInfo) (z : Value) (bytes : Nat) (ht : P.underlying t = some (.slice e)) (hi : P.info? e = some i) (hz : i.zero = some z) (hsize : i.size = 1) (hby : i.bytes = bytes) (hzs : z.cells.size = 1)
  (v : Value) (n : Nat) (xs : List Value) (hown : w.ownsRow base e 1 v n xs) (ao : Option Addr) (m c : Nat) (news : List Value) (hl : news.length = m)
  (hsrc : m = 0 ∨ ∃ ad, ao = some ad ∧ ∀ j u, news[j]? = some u → w.cell? (ad.add j) = some u) (h1 : ∀ u ∈ news, u.oneCell' = true)
  (h63 : n + m ≤ maxLen) (hbytes : (n + m) * bytes ≤ 140737488355328) (hbase : base ≤ w.heap.size) :
  ∃ v' w', (Builtin.append_ #[t, t] ty #[v, .slice ao m c]).run P w = .ok v' w' ∧ w'.ownsRow base e 1 v' (n + m) (xs ++ news) ∧ w.grownBy w' v.ownBlock ∧ (v'.ownBlock = v.ownBlock ∨ v'.ownBlock = some w.heap.size) := by
 by_cases hm : m = 0
 ·subst hm
  obtain rfl : news = [] := List.length_eq_zero_iff.1 hl
  obtain ⟨a, cc, rfl, hle⟩ := row_form hown
  have hs : Src P i.size t (.slice ao 0 c) 0 [] w := by
   refine ⟨Or.inl ⟨e, ht⟩, fun w' => rfl, ?_, ?_, by simp, by simp⟩
   ·cases ao with
    | none => rfl
    | some ad => exact run_firstCells_some w i.size 0 ad 0 c [] (by simp) (by simp)
   ·cases ao with
    | none => rfl
    | some ad => exact run_firstCells_some w.drew i.size 0 ad 0 c [] (by simp) (by simp)
  exact ⟨_, w, run_append_nothing w t t ty e i ht hi a n cc hle _ hs, by simpa using hown, ⟨rfl, rfl, rfl, Nat.le_refl _, fun _ _ _ => rfl⟩, Or.inl rfl⟩
 ·rcases hsrc with h0 | ⟨ad, rfl, hc⟩
  ·exact absurd h0 hm
  obtain ⟨v', w', r1, r2, r3, _, r5⟩ := run_append_own_at (P := P) w base t ty e i z 1 bytes ht hi hz hsize hby hzs (by omega) v n xs hown ad m c news (by omega) hc h1 h63 hbytes hbase
  exact ⟨v', w', r1, r2, r3, r5⟩
theorem wp_append_any {w : World} {o : Oper} {a : Act} {K : Act → World → Prop} {Q : Exit → Act → World → Prop} (s x : Operand) (t : TypeId)
  (ho : o.op = .call { callee := .builtin .append, args := #[s, x], argTypes := #[t, t] })
  (base : Nat) (e : TypeId) (i : TypeInfo) (z : Value) (bytes : Nat) (ht : P.underlying t = some (.slice e)) (hi : P.info? e = some i) (hz : i.zero = some z) (hsize : i.size = 1) (hby : i.bytes = bytes) (hzs : z.cells.size = 1)
  (v : Value) (n : Nat) (xs : List Value) (hs : a.eval s = v) (hown : w.ownsRow base e 1 v n xs) (ao : Option Addr) (m c : Nat) (news : List Value) (hx : a.eval x = .slice ao m c) (hl : news.length = m)
  (hsrc : m = 0 ∨ ∃ ad, ao = some ad ∧ ∀ j u, news[j]? = some u → w.cell? (ad.add j) = some u) (h1 : ∀ u ∈ news, u.oneCell' = true)
  (h63 : n + m ≤ maxLen) (hbytes : (n + m) * bytes ≤ 140737488355328) (hbase : base ≤ w.heap.size) (N : Nat) (L : List Value) (hN : N = n + m) (hL : L = xs ++ news)
  (h : ∀ (a' : Option Addr) (c' : Nat) (w' : World), w'.ownsRow base e 1 (.slice a' N c') N L → w.grownBy w' v.ownBlock → ((Value.slice a' N c').ownBlock = v.ownBlock ∨ (Value.slice a' N c').ownBlock = some w.heap.size) → K (a.put o.dst (.slice a' N c')) w') : o.wp P a w K Q := by
 subst hN hL
 obtain ⟨v', w', hr, h2, h3, h4⟩ := run_append_any (P := P) w base t o.type e i z bytes ht hi hz hsize hby hzs v n xs hown ao m c news hl hsrc h1 h63 hbytes hbase
 obtain ⟨a', c', rfl, _⟩ := row_form h2
 unfold Oper.wp execOp
 simp only [ho, resolve, invoke, builtin, Sem.run_bind, Sem.run_pure, Result.andThen_ok, List.map_toArray, List.map_cons, List.map_nil, hs, hx, hr]
 exact h a' c' w' h2 h3 h4
theorem wpList_append_any {w : World} {ops : Array Oper} {rest : List Oper} {o : Oper} {a : Act} {Q : Exit → Act → World → Prop} (hgd : o.guard = none) (s x : Operand) (t : TypeId)
  (ho : o.op = .call { callee := .builtin .append, args := #[s, x], argTypes := #[t, t] })
  (base : Nat) (e : TypeId) (i : TypeInfo) (z : Value) (bytes : Nat) (ht : P.underlying t = some (.slice e)) (hi : P.info? e = some i) (hz : i.zero = some z) (hsize : i.size = 1) (hby : i.bytes = bytes) (hzs : z.cells.size = 1)
  (v : Value) (n : Nat) (xs : List Value) (hs : a.eval s = v) (hown : w.ownsRow base e 1 v n xs) (ao : Option Addr) (m c : Nat) (news : List Value) (hx : a.eval x = .slice ao m c) (hl : news.length = m)
  (hsrc : m = 0 ∨ ∃ ad, ao = some ad ∧ ∀ j u, news[j]? = some u → w.cell? (ad.add j) = some u) (h1 : ∀ u ∈ news, u.oneCell' = true)
  (h63 : n + m ≤ maxLen) (hbytes : (n + m) * bytes ≤ 140737488355328) (hbase : base ≤ w.heap.size) (N : Nat) (L : List Value) (hN : N = n + m) (hL : L = xs ++ news)
  (h : ∀ (a' : Option Addr) (c' : Nat) (w' : World), w'.ownsRow base e 1 (.slice a' N c') N L → w.grownBy w' v.ownBlock → ((Value.slice a' N c').ownBlock = v.ownBlock ∨ (Value.slice a' N c').ownBlock = some w.heap.size) → wpList P ops Q rest (a.put o.dst (.slice a' N c')) w') :
  wpList P ops Q (o :: rest) a w := by
 refine wpList_plain hgd fun K hK => ?_
 exact wp_append_any s x t ho base e i z bytes ht hi hz hsize hby hzs v n xs hs hown ao m c news hx hl hsrc h1 h63 hbytes hbase N L hN hL (fun a' c' w' h2 h3 h4 => hK _ _ (h a' c' w' h2 h3 h4))
end
end Go.Proofs.Ytchbbaehdcmcfaa
/- A stack in memory: its block, its row. -/
namespace Go.Proofs.Ytchbbaehdcmcfaa
open Go.RowKit
structure Touch (F : List Nat) (w w' : World) : Prop where
 os : w'.os = w.os
 tape : w'.tape = w.tape
 output : w'.output = w.output
 size : w.heap.size ≤ w'.heap.size
 block : ∀ k, k < w.heap.size → k ∉ F → w'.heap[k]? = w.heap[k]?
theorem Touch.refl' (F : List Nat) (w : World) : Touch F w w := ⟨rfl, rfl, rfl, Nat.le_refl _, fun _ _ _ => rfl⟩
theorem Touch.of_below {w w' : World} (h : Below w.heap.size w w') (F : List Nat) : Touch F w w' := ⟨h.os, h.tape, h.output, h.size, fun k hk _ => h.block k hk⟩
theorem Touch.below {F : List Nat} {w w' : World} (h : Touch F w w') {B : Nat} (hB : B ≤ w.heap.size) (hF : ∀ k ∈ F, B ≤ k) : Below B w w' :=
 ⟨h.os, h.tape, h.output, h.size, fun k hk => h.block k (by omega) (fun hm => by have := hF k hm; omega)⟩
theorem Touch.trans {F F' : List Nat} {a b c : World} (h : Touch F a b) (h' : Touch F' b c) (hF : ∀ k ∈ F', k ∈ F ∨ a.heap.size ≤ k) : Touch F a c :=
 ⟨h'.os.trans h.os, h'.tape.trans h.tape, h'.output.trans h.output, Nat.le_trans h.size h'.size, fun k hk hn =>
  (h'.block k (Nat.lt_of_lt_of_le hk h.size) (fun hm => by rcases hF k hm with h1 | h1; exact hn h1; omega)).trans (h.block k hk hn)⟩
theorem Touch.sub {F F' : List Nat} {a b : World} (h : Touch F a b) (hs : ∀ k ∈ F, k ∈ F') : Touch F' a b := ⟨h.os, h.tape, h.output, h.size, fun k hk hn => h.block k hk (fun hm => hn (hs k hm))⟩
theorem belN {B : Nat} {a w : World} (h : Below B a w) (n : Nat) : Below B a (w.drewN n) := ⟨h.os, h.tape, h.output, h.size, h.block⟩
theorem blk_cell {w : World} {b t : Nat} {cs : Array Value} {fz : Nat × Nat} (h : w.heap[b]? = some (.cells cs t fz)) (i : Nat) : w.cell? ⟨b, i, none⟩ = cs[i]? := by simp [World.cell?, h]
theorem blk_froz {w : World} {b t : Nat} {cs : Array Value} (h : w.heap[b]? = some (.cells cs t (0, 0))) (i : Nat) : w.frozen? ⟨b, i, none⟩ = false := by simp [World.frozen?, h]
theorem blk_set {w : World} {b t : Nat} {x y : Value} (h : w.heap[b]? = some (.cells #[x, y] t (0, 0))) (u : Value) : (w.setCell ⟨b, 1, none⟩ u).heap[b]? = some (.cells #[x, u] t (0, 0)) := by
 simp [World.setCell, Array.getElem?_modify, h]
theorem heap_set_other (w : World) (a : Addr) (u : Value) (k : Nat) (h : k ≠ a.block) : (w.setCell a u).heap[k]? = w.heap[k]? := Below.heap_setCell w a u k h
theorem touch_set {w : World} {bt : Nat} {F : List Nat} {u : Value} : Touch (bt :: F) w (w.setCell ⟨bt, 1, none⟩ u) :=
 ⟨rfl, rfl, rfl, by simp [World.setCell], fun k _ hn => heap_set_other _ _ _ _ (fun e => hn (by simp [e]))⟩
theorem owns_row_block {w w' : World} {base e size n : Nat} {v : Value} {xs : List Value} (h : w.ownsRow base e size v n xs) (hb : ∀ k, v.ownBlock = some k → w'.heap[k]? = w.heap[k]?) : w'.ownsRow base e size v n xs := by
 refine ⟨h.1, ?_⟩
 rcases h.2 with h2 | ⟨g, cap, cur, rfl, h3, h4, h5⟩
 ·exact Or.inl h2
 ·exact Or.inr ⟨g, cap, cur, rfl, h3, (hb g rfl).trans h4, h5⟩
theorem row_cells {w : World} {e : TypeId} {v : Value} {xs : List Value} (hr : w.ownsRow 0 e 1 v xs.length xs) :
  (v = .slice none 0 0 ∧ xs = []) ∨ ∃ g c cur, v = .slice (some ⟨g, 0, none⟩) xs.length c ∧ w.heap[g]? = some (.cells cur e (0, 0)) ∧ xs.length ≤ c ∧ c ≤ maxLen ∧ cur.size = c ∧ cur.toList.take xs.length = xs := by
 rcases hr.2 with ⟨rfl, h0⟩ | ⟨g, cap, cur, rfl, hg, hh, hc1, hc2, hc3, hc4⟩
 ·exact Or.inl ⟨rfl, List.length_eq_zero_iff.1 h0⟩
 ·exact Or.inr ⟨g, cap, cur, rfl, hh, hc1, hc2, by simpa using hc3, by simpa using hc4⟩
theorem cells_row {w : World} {e : TypeId} {g c : Nat} {cur : Array Value} {xs : List Value} (hh : w.heap[g]? = some (.cells cur e (0, 0))) (h1 : xs.length ≤ c) (h2 : c ≤ maxLen) (h3 : cur.size = c) (h4 : cur.toList.take xs.length = xs) :
  w.ownsRow 0 e 1 (.slice (some ⟨g, 0, none⟩) xs.length c) xs.length xs := ⟨by simp, Or.inr ⟨g, c, cur, rfl, Nat.zero_le _, hh, h1, h2, by simpa using h3, by simpa using h4⟩⟩
theorem cur_at {cur : Array Value} {xs : List Value} (h4 : cur.toList.take xs.length = xs) {i : Nat} {x : Value} (hx : xs[i]? = some x) : cur[i]? = some x := by
 have hi := (List.getElem?_eq_some_iff.1 hx).1
 have h5 : (cur.toList.take xs.length)[i]? = some x := by rw [h4]; exact hx
 rw [List.getElem?_take, if_pos hi] at h5
 simpa using h5
def IsStk (e tb : TypeId) (F : List Nat) (w : World) (p : Value) (R : Nat) (xs : List Value) : Prop :=
 ∃ bt v, p = .pointer (some ⟨bt, 0, none⟩) ∧ v.ownBlock ≠ some bt ∧ F = bt :: v.ownBlock.toList ∧ w.heap[bt]? = some (.cells #[.int .i64 (R : Int), v] tb (0, 0)) ∧ w.ownsRow 0 e 1 v xs.length xs ∧
  (∀ x ∈ xs, x.oneCell' = true) ∧ 1 ≤ R ∧ R ≤ 65536 ∧ xs.length ≤ R
section
variable {e tb : TypeId} {F : List Nat} {w : World} {p : Value} {R : Nat} {xs : List Value}
theorem IsStk.lt (h : IsStk e tb F w p R xs) : ∀ k ∈ F, k < w.heap.size := by
 obtain ⟨bt, v, rfl, h1, rfl, hb, hr, _⟩ := h
 intro k hk
 simp only [List.mem_cons, Option.mem_toList] at hk
 rcases hk with rfl | hk
 ·exact (Array.getElem?_eq_some_iff.1 hb).1
 ·exact (hr.lt k hk).2
theorem IsStk.keep {w' : World} (h : IsStk e tb F w p R xs) (hb : ∀ k ∈ F, w'.heap[k]? = w.heap[k]?) : IsStk e tb F w' p R xs := by
 obtain ⟨bt, v, rfl, h1, rfl, hbt, hr, hN⟩ := h
 exact ⟨bt, v, rfl, h1, rfl, (hb bt (by simp)).trans hbt, owns_row_block hr (fun k hk => hb k (by simp [hk])), hN⟩
theorem IsStk.ext {w' : World} (h : IsStk e tb F w p R xs) (hb : Below w.heap.size w w') : IsStk e tb F w' p R xs := h.keep (fun k hk => hb.block k (h.lt k hk))
theorem IsStk.room (h : IsStk e tb F w p R xs) : 1 ≤ R ∧ R ≤ 65536 ∧ xs.length ≤ R := by obtain ⟨bt, v, rfl, h1, rfl, hbt, hr, hN, h3⟩ := h; exact h3
end
section
variable {e tb : TypeId} {W w : World} {p : Value} {R : Nat} {xs : List Value} {G : List Nat}
end
theorem run_clear_row {P : Program} (w : World) (t e ty : TypeId) (z : Value) (ht : P.underlying t = some (.slice e)) (hv : ∀ w, (zeroValue e).run P w = .ok z w) (hz : z.cells = #[z]) (h1 : z.oneCell' = true) (g o n c : Nat) (cur : Array Value) (tt : TypeId)
  (hg : w.heap[g]? = some (.cells cur tt (0, 0))) (hn : 0 < n) (hfit : o + n ≤ cur.size) :
  (Builtin.clear_ #[t] ty #[.slice (some ⟨g, o, none⟩) n c]).run P w = .ok (.tuple #[]) (w.setRow g (cur.toList.take o ++ List.replicate n z ++ cur.toList.drop (o + n)).toArray) := by
 have hzc : (Builtin.zeroCells z.cells n).toList = List.replicate n z := by
  rw [hz]
  simp [Builtin.zeroCells]
  apply List.ext_getElem
  ·simp
  ·intro i h1 h2
   simp [Nat.mod_one]
 have hst := run_storeCells_at P g o tt (List.replicate n z) 0 cur w hg (by simpa using hfit) (by intro v hv'; rw [List.eq_of_mem_replicate hv']; exact h1)
 simp only [Nat.add_zero, List.length_replicate] at hst
 obtain ⟨m, rfl⟩ : ∃ m, n = m + 1 := ⟨n - 1, by omega⟩
 simp [Builtin.clear_, run_underlying ht, hv, hzc, hst]
theorem run_clear_none {P : Program} (w : World) (t e ty : TypeId) (ht : P.underlying t = some (.slice e)) (a : Option Addr) (c : Nat) :
  (Builtin.clear_ #[t] ty #[.slice a 0 c]).run P w = .ok (.tuple #[]) w := by
 cases a <;> simp [Builtin.clear_, run_underlying ht]
end Go.Proofs.Ytchbbaehdcmcfaa
/- Stacks of int64: New, Mark, At, Top, cut, Pop. -/
namespace Go.Proofs.Ytchbbaehdcmcfaa
open Go.RowKit
abbrev StkL (F : List Nat) (w : World) (p : Value) (R : Nat) (xs : List Value) : Prop := IsStk 2 150 F w p R xs
theorem infoL : (Try.prog.info? 2).map (fun i => (i.zero, i.size, i.bytes)) = some (some (.int .i64 0), 1, 8) := by kernel_rfl
theorem new_doneL (w : World) {R : Nat} {x : Int} (hx : x = R) (hR : 1 ≤ R ∧ R ≤ 65536) :
  StkL [w.heap.size] (w.alloc (.cells #[.int .i64 x, .slice none 0 0] 150)) (.pointer (some ⟨w.heap.size, 0, none⟩)) R [] ∧
   Below w.heap.size w (w.alloc (.cells #[.int .i64 x, .slice none 0 0] 150)) ∧ ∀ k ∈ [w.heap.size], w.heap.size ≤ k := by
 subst hx
 exact ⟨⟨w.heap.size, .slice none 0 0, rfl, by simp [Value.ownBlock], rfl, heap_alloc_new w _, World.ownsRow_nil _ _ _ _, by simp, hR.1, hR.2, by simp⟩, (Below.refl _ _).alloc (Nat.le_refl _) _, by simp⟩
theorem newL (m : Int) (R : Nat) (hR : (R : Int) = max 1 (min m 65536)) (w : World) :
  Calls Try.prog 58 #[.int .i64 m] w fun e w' => ∃ p, e = .returned p ∧ ∃ F, StkL F w' p R [] ∧ Below w.heap.size w w' ∧ ∀ k ∈ F, w.heap.size ≤ k := by
 go_enter Try.func58, Try.ntmps58
 go_wp2
 all_goals go_ret
 all_goals exact ⟨_, rfl, _, new_doneL (R := R) w (by omega) (by omega)⟩
section
variable {F : List Nat} {w : World} {p : Value} {R : Nat} {xs : List Value}
theorem markL (h : StkL F w p R xs) : Calls Try.prog 65 #[p] w fun e w' => e = .returned (.int .i64 xs.length) ∧ w = w' := by
 obtain ⟨bt, v, rfl, h1, rfl, hbt, hr, hN, hR⟩ := h
 have c1 : w.cell? ⟨bt, 1, none⟩ = some v := by simp [blk_cell hbt]
 obtain ⟨a, c, rfl, _⟩ := row_form hr
 clear hbt hN hr h1
 go_enter Try.func65, Try.ntmps65
 go_wp2
 go_ret
 exact ⟨rfl, rfl⟩
theorem storedL {bt g c n : Nat} {v : Value} {ys : List Value} (hb : w.heap[bt]? = some (.cells #[.int .i64 (R : Int), v] 150 (0, 0))) (hn : ys.length = n)
  (hr : w.ownsRow 0 2 1 (.slice (some ⟨g, 0, none⟩) ys.length c) ys.length ys) (hgb : g ≠ bt) (h1 : ∀ x ∈ ys, x.oneCell' = true) (hR : 1 ≤ R ∧ R ≤ 65536 ∧ ys.length ≤ R) :
  StkL [bt, g] (w.setCell ⟨bt, 1, none⟩ (.slice (some ⟨g, 0, none⟩) n c)) (.pointer (some ⟨bt, 0, none⟩)) R ys := by
 subst hn
 exact ⟨bt, _, rfl, by simpa [Value.ownBlock] using hgb, rfl, blk_set hb _, owns_row_block hr (fun k hk => heap_set_other _ _ _ _ (fun e => by simp [Value.ownBlock] at hk; simp at e; omega)), h1, hR⟩
set_option maxHeartbeats 400000 in
theorem cutL (h : StkL F w p R xs) (n : Nat) (hn : n ≤ xs.length) :
  Calls Try.prog 121 #[p, .int .i64 n] w fun e w' => e = .returned (.tuple #[]) ∧ StkL F w' p R (xs.take n) ∧ Touch F w w' := by
 have hroom := h.room
 obtain ⟨bt, v, rfl, h1, rfl, hbt, hr, hN, hR⟩ := h
 have c1 : w.cell? ⟨bt, 1, none⟩ = some v := by simp [blk_cell hbt]
 have f1 : w.frozen? ⟨bt, 1, none⟩ = false := blk_froz hbt 1
 have hl : (xs.take n).length = n := by simp; omega
 have hcl0 := fun w ty => run_clear_none (P := Try.prog) w 57 2 ty Try.underlying57
 rcases row_cells hr with ⟨rfl, rfl⟩ | ⟨g, c, cur, rfl, hg, hc1, hc2, hc3, hc4⟩
 ·obtain rfl : n = 0 := by simpa using hn
  have HB := Lib.hid hbt
  clear hbt hN hr h1
  go_enter Try.func121, Try.ntmps121
  go_wp2
  all_goals go_end0
  all_goals exact ⟨rfl, ⟨bt, _, rfl, by simp [Value.ownBlock], rfl, blk_set HB.out _, World.ownsRow_nil _ _ _ _, by simp, hR.1, hR.2.1, by simp⟩, touch_set⟩
 have hgb : g ≠ bt := fun e => h1 (by rw [e]; rfl)
 have HB := Lib.hid hbt
 have HG := Lib.hid hg
 have H4 := Lib.hid hc4
 have HN := Lib.hid hN
 clear hbt hN hr h1 hg hc4
 unfold maxLen at hc2
 by_cases hlt : n < xs.length
 ·have hcl : ∀ ty c', (Builtin.clear_ #[57] ty #[.slice (some ⟨g, n, none⟩) (xs.length - n) c']).run Try.prog w = .ok (.tuple #[]) (w.setRow g (cur.toList.take n ++ List.replicate (xs.length - n) (.int .i64 0 : Value) ++ cur.toList.drop (n + (xs.length - n))).toArray) :=
   fun ty c' => run_clear_row w _ _ ty _ Try.underlying57 (fun w => by kernel_rfl) rfl rfl g n (xs.length - n) c' cur 2 HG.out (by omega) (by omega)
  generalize hcur : (cur.toList.take n ++ List.replicate (xs.length - n) (.int .i64 0 : Value) ++ cur.toList.drop (n + (xs.length - n))).toArray = cur' at hcl
  have hb2 : (w.setRow g cur').heap[bt]? = some (.cells #[.int .i64 (R : Int), .slice (some ⟨g, 0, none⟩) xs.length c] 150 (0, 0)) := (setRow_other w g bt cur' (fun e => hgb e.symm)).trans HB.out
  have hg2 : (w.setRow g cur').heap[g]? = some (.cells cur' 2 (0, 0)) := setRow_heap w g _ _ _ _ HG.out
  have hT : Touch [bt, g] w (w.setRow g cur') := ⟨rfl, rfl, rfl, by simp [World.setRow], fun k _ hn => setRow_other w g k cur' (by simp at hn; exact hn.2)⟩
  have hsz : cur'.size = c := by rw [← hcur, List.size_toArray]; simp; omega
  have htk : cur'.toList.take n = xs.take n := by
   rw [← hcur, List.append_assoc, List.take_append_of_le_length (by simp; omega), List.take_take, Nat.min_self]
   have := congrArg (List.take n) H4.out
   rw [List.take_take, Nat.min_eq_left (by omega)] at this
   exact this
  have c1' : (w.setRow g cur').cell? ⟨bt, 1, none⟩ = some (.slice (some ⟨g, 0, none⟩) xs.length c) := by simp [blk_cell hb2]
  have f1' : (w.setRow g cur').frozen? ⟨bt, 1, none⟩ = false := blk_froz hb2 1
  have HD := Lib.hid (And.intro (storedL (n := n) hb2 hl (cells_row (xs := xs.take n) hg2 (by omega) (by unfold maxLen; omega) hsz (by rw [hl]; exact htk)) hgb (fun x hx => HN.out x (List.mem_of_mem_take hx)) ⟨hR.1, hR.2.1, by omega⟩) hT)
  clear hb2 hg2 hT hsz htk hcl0
  have hlt' : ¬ (xs.length < n) := by omega
  go_enter Try.func121, Try.ntmps121
  go_wp2
  all_goals go_end0
  all_goals exact ⟨rfl, HD.out.1, HD.out.2.trans (F' := [bt]) touch_set (fun k hk => Or.inl (by simp at hk; simp [hk]))⟩
 ·obtain rfl : n = xs.length := by omega
  have HD := Lib.hid (storedL (n := xs.length) HB.out (by simp) (cells_row (xs := xs) HG.out hc1 (by unfold maxLen; omega) hc3 H4.out) hgb HN.out ⟨hR.1, hR.2.1, by omega⟩)
  rw [List.take_length]
  by_cases hcap : c = xs.length
  ·subst hcap
   go_enter Try.func121, Try.ntmps121
   go_wp2
   all_goals go_end0
   all_goals exact ⟨rfl, HD.out, touch_set⟩
  have hcap' : xs.length < c := by omega
  go_enter Try.func121, Try.ntmps121
  go_wp2
  all_goals go_end0
  all_goals exact ⟨rfl, HD.out, touch_set⟩
end
end Go.Proofs.Ytchbbaehdcmcfaa
