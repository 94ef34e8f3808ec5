import Derived.Test.YtllpdciehoenaaaGreatDoorGas
import Derived.Test.YtllpdciehoenaaaGreatDoorGat
import Derived.Deep.CutBlock
set_option linter.unusedVariables false
set_option linter.unusedSimpArgs false
/- The document's own writing without operators: plain. -/
namespace Go.Proofs.YtllpdciehoenaaaGreatDoor
open Go.Shelf Go.RowKit
set_option linter.unusedVariables false

abbrev baS (l : List UInt8) : ByteArray := ⟨l.toArray⟩
def QC (q : ByteArray → List UInt8) (s : ByteArray) : Prop := ∀ w, Calls Tryz.prog 62 #[.string s] w fun e w' => e = .returned (.string (baS (q s))) ∧ Below w.heap.size w w'
def NC (nm : Int → List UInt8) (n : Int) : Prop := ∀ w, Calls Tryz.prog 61 #[.int .i64 n] w fun e w' => e = .returned (.string (baS (nm n))) ∧ Below w.heap.size w w'
section
variable (q : ByteArray → List UInt8) (nm : Int → List UInt8) (vs : List Int)
def varW (n : Int) : List UInt8 := match vs.findIdx? (fun v => v == n) with
  | some i => 95 :: nm (i : Nat)
  | none => [95]
mutual
def plainW : Tm → List UInt8
  | .mk k n s ts => if k = 0 then varW nm vs n else if k = 1 then nm n else if ts.isEmpty then q s else q s ++ argsW true ts ++ [41]
def argsW : Bool → List Tm → List UInt8
  | _, [] => []
  | first, x :: r => (if first then 40 else 44) :: plainW x ++ argsW false r
end
mutual
/-- All its names and numbers are such as can be written. -/
def mayW (P : ByteArray → Prop) (Q : Int → Prop) : Tm → Prop
  | .mk k n s ts => (k = 1 → Q n) ∧ (k ≠ 0 → k ≠ 1 → P s) ∧ maysW P Q ts
def maysW (P : ByteArray → Prop) (Q : Int → Prop) : List Tm → Prop
  | [] => True
  | x :: r => mayW P Q x ∧ maysW P Q r
end
end
theorem mays_mem {P : ByteArray → Prop} {Q : Int → Prop} : ∀ {l : List Tm} {x : Tm}, maysW P Q l → x ∈ l → mayW P Q x
  | y :: r, x, h, hx => by
    rw [maysW] at h
    rcases List.mem_cons.1 hx with rfl | hx
    · exact h.1
    · exact mays_mem h.2 hx
theorem args_drop (q : ByteArray → List UInt8) (nm : Int → List UInt8) (vs : List Int) : ∀ (ts : List Tm) (j : Nat) (x : Tm) (first : Bool), ts[j]? = some x → argsW q nm vs (first && decide (j = 0)) (ts.drop j) = (if (first && decide (j = 0)) = true then 40 else 44) :: plainW q nm vs x ++ argsW q nm vs false (ts.drop (j + 1))
  | ts, j, x, first, h => by
    have hj := (List.getElem?_eq_some_iff.1 h).1
    have e : ts.drop j = x :: ts.drop (j + 1) := by
      rw [← List.getElem_cons_drop hj]
      have := (List.getElem?_eq_some_iff.1 h).2
      rw [this]
    rw [e, argsW]
theorem bl_baS (l : List UInt8) : bl (baS l) = l := by simp [bl]
theorem bl_cat (a b : ByteArray) : bl (a ++ b) = bl a ++ bl b := by simp [bl]
theorem bl_eq {a b : ByteArray} (h : bl a = bl b) : a = b := bytes_eq h
theorem size_bl (a : ByteArray) : a.size = (bl a).length := (bl_len a).symm
/-- What a writer needs. -/
structure WrAt (w : World) (wb : Nat) (vv : Value) (vs : List Int) : Prop where
  c : w.cell? ⟨wb, 1, none⟩ = some vv
  n : Nums w vv vs
theorem WrAt.ext {w w' : World} {wb : Nat} {vv : Value} {vs : List Int} (h : WrAt w wb vv vs) (hb : Below w.heap.size w w') : WrAt w' wb vv vs := ⟨cell_later hb h.c, h.n.ext hb⟩
set_option maxHeartbeats 4000000 in
theorem plain_var {q : ByteArray → List UInt8} {nm : Int → List UInt8} {vs : List Int} {w : World} {wb : Nat} {vv : Value} (hw : WrAt w wb vv vs) (hN : ∀ i : Nat, i < vs.length → NC nm i) (n : Int) (s : ByteArray) (a : Option Addr) (m c : Nat) (hl : ∀ i : Nat, i < vs.length → (nm i).length ≤ 1000) :
    Calls Tryz.prog 38 #[.pointer (some ⟨wb, 0, none⟩), .agg #[.int .i64 0, .int .i64 n, .string s, .slice a m c]] w fun e w' => e = .returned (.string (baS (varW nm vs n))) ∧ Below w.heap.size w w' := by
  obtain ⟨ao, cv, rfl, hl1, hl2⟩ := hw.n.len
  unfold maxLen at hl2
  obtain ⟨w1, hw1, hb1, hz1, hx1⟩ := box_new w #[.int .i64 0, .int .i64 n, .string s, .slice a m c] 60
  have hw' := hw.ext hb1
  have HW := Lib.hid hw'
  have HB1 := Lib.hid hb1
  obtain ⟨b0, b1, b2, b3, bf⟩ := hx1.four
  have c1 := hw'.c
  obtain ⟨L, hL⟩ : ∃ L, vs.length = L := ⟨_, rfl⟩
  have HL := Lib.hid hL
  have HNC := Lib.hid hN
  have HLL := Lib.hid hl
  rw [hL] at c1 hl1
  clear hw hw' hb1 hx1 hN hL hl hz1
  go_enter Tryz.func38, Tryz.ntmps38
  go_wp2_with fail
  (try rw [hw1])
  clear hw1
  go_wp2_with fail
  go_loopw [5] (fun v wr => ∃ j : Nat, j ≤ L ∧ v = .int .i64 j ∧ Hid (∀ i x, i < j → vs[i]? = some x → ¬ x = n) ∧ Hid (Below w1.heap.size w1 wr)) (fun v _ => L - (intOf v).toNat)
  case atStart => exact ⟨0, Nat.zero_le _, rfl, Lib.hid (fun i x h => by omega), Lib.hid (Below.refl _ _)⟩
  case round =>
    obtain ⟨j, hj, rfl, HNO, HB⟩ := hrel
    have c1 := cell_later HB.out c1
    have b1 := cell_later HB.out b1
    by_cases hlt : j < L
    · obtain ⟨x, hx⟩ : ∃ x, vs[j]? = some x := ⟨_, List.getElem?_eq_getElem (by rw [HL.out]; exact hlt)⟩
      have hnum := HW.out.n.ext HB.out
      obtain ⟨b, off, rfl, hbb, d0⟩ := hnum.get hx
      have HX := Lib.hid hx
      have hjj : (j : Int) < L := by omega
      clear hnum hx
      by_cases hxn : x = n
      · subst hxn
        have hxe : (x == x) = true := beq_self_eq_true x
        have HNJ := Lib.hid (HNC.out j (by rw [HL.out]; exact hlt))
        obtain ⟨Z, hZ⟩ : ∃ Z, baS (nm j) = Z := ⟨_, rfl⟩
        have hZs : Z.size ≤ 1000 := by rw [← hZ, size_bl, bl_baS]; exact HLL.out j (by rw [HL.out]; exact hlt)
        have hNJ : ∀ w, Calls Tryz.prog 61 #[.int .i64 j] w fun e w' => e = .returned (.string Z) ∧ Below w.heap.size w w' := by rw [← hZ]; exact HNJ.out
        have HNK := Lib.hid hNJ
        have HZ := Lib.hid hZ
        clear hNJ hZ HNJ
        go_wp2_with fail
        go_quiet (fail)
        go_wp2_with fail
        (go_wp2_with fail; go_fit (HNK.out _); rintro e w4 ⟨rfl, hb4⟩)
        have HB4 := Lib.hid (Ext.trans' (Ext.trans' HB1.out (bel_drewN HB.out _)) hb4)
        clear hb4
        go_wp2
        go_ret
        refine ⟨?_, HB4.out⟩
        have hf : vs.findIdx? (fun v => v == x) = some j := by
          rw [List.findIdx?_eq_some_iff_getElem]
          have hjl := (List.getElem?_eq_some_iff.1 HX.out)
          refine ⟨hjl.1, by rw [hjl.2]; exact beq_self_eq_true x, fun i hi => ?_⟩
          have hil : i < vs.length := Nat.lt_trans hi hjl.1
          have := HNO.out i (vs[i]'hil) hi (List.getElem?_eq_getElem hil)
          simpa using this
        have hb : (⟨#[95]⟩ : ByteArray) ++ Z = baS (varW nm vs x) := bl_eq (by
          show bl _ = bl _
          rw [bl_cat, bl_baS, ← HZ.out, bl_baS]
          unfold varW
          rw [hf]
          rfl)
        exact congrArg Ending.returned (congrArg Value.string hb)
      · have hxe : (x == n) = false := beq_false_of_ne hxn
        go_wp2_with fail
        go_quiet (fail)
        go_wp2
        go_roundw
        case rel => exact ⟨j + 1, hlt, by go_num, Lib.hid (fun i y hi hy => by
          by_cases e : i = j
          · subst e; rw [HX.out] at hy; cases hy; exact hxn
          · exact HNO.out i y (by omega) hy), Lib.hid (bel_drewN HB.out _)⟩
        case measure => simp [intOf]; omega
    · have hjl : j = L := by omega
      subst hjl
      have HF := Lib.hid (show varW nm vs n = [95] by
        have hf : vs.findIdx? (fun v => v == n) = none := by
          rw [List.findIdx?_eq_none_iff]
          intro x hx
          obtain ⟨i, hi⟩ := List.getElem?_of_mem hx
          have := HNO.out i x (by rw [← HL.out]; exact (List.getElem?_eq_some_iff.1 hi).1) hi
          simpa using this
        unfold varW
        rw [hf])
      go_wp2
      go_ret
      refine ⟨?_, Ext.trans' HB1.out HB.out⟩
      rw [HF.out]
      rfl
theorem plain_int {q : ByteArray → List UInt8} {nm : Int → List UInt8} {vs : List Int} {w : World} {wb : Nat} (n : Int) (hN : NC nm n) (s : ByteArray) (a : Option Addr) (m c : Nat) :
    Calls Tryz.prog 38 #[.pointer (some ⟨wb, 0, none⟩), .agg #[.int .i64 1, .int .i64 n, .string s, .slice a m c]] w fun e w' => e = .returned (.string (baS (nm n))) ∧ Below w.heap.size w w' := by
  obtain ⟨w1, hw1, hb1, hz1, hx1⟩ := box_new w #[.int .i64 1, .int .i64 n, .string s, .slice a m c] 60
  have HB1 := Lib.hid hb1
  have HNC := Lib.hid hN
  obtain ⟨b0, b1, b2, b3, bf⟩ := hx1.four
  clear hb1 hx1 hN hz1
  go_enter Tryz.func38, Tryz.ntmps38
  go_wp2_with fail
  (try rw [hw1])
  clear hw1
  (go_wp2_with fail; go_fit (HNC.out _); rintro e w4 ⟨rfl, hb4⟩)
  go_wp2
  go_ret
  exact ⟨rfl, Ext.trans' HB1.out hb4⟩
set_option maxHeartbeats 4000000 in
theorem plain_name {q : ByteArray → List UInt8} {nm : Int → List UInt8} {vs : List Int} (k : Int) (hk0 : (k == 0) = false) (hk1 : (k == 1) = false) (n : Int) (s : ByteArray) (ts : List Tm) (hQ : QC q s)
    (hlen : (q s).length + (argsW q nm vs true ts).length ≤ 1000000) {w : World} {wb : Nat} {vv : Value} (hw : WrAt w wb vv vs) (a : Option Addr) (c : Nat) (hT : Tms w (.slice a ts.length c) ts)
    (hC : ∀ x ∈ ts, ∀ (wq : World) (v : Value), TmV wq x v → WrAt wq wb vv vs → Calls Tryz.prog 38 #[.pointer (some ⟨wb, 0, none⟩), v] wq fun e w' => e = .returned (.string (baS (plainW q nm vs x))) ∧ Below wq.heap.size wq w') :
    Calls Tryz.prog 38 #[.pointer (some ⟨wb, 0, none⟩), .agg #[.int .i64 k, .int .i64 n, .string s, .slice a ts.length c]] w fun e w' => e = .returned (.string (baS (if ts.isEmpty then q s else q s ++ argsW q nm vs true ts ++ [41]))) ∧ Below w.heap.size w w' := by
  obtain ⟨m, hm⟩ : ∃ m, ts.length = m := ⟨_, rfl⟩
  have HE := Lib.hid (show ts.isEmpty = decide (m = 0) by rw [← hm]; cases ts <;> simp)
  obtain ⟨l1, l2⟩ : ts.length ≤ c ∧ c ≤ maxLen := by
    obtain ⟨a', c', e', l1, l2, l3⟩ := hT.len
    cases e'
    exact ⟨l1, l2⟩
  rw [hm] at hT l1 ⊢
  unfold maxLen at l2
  obtain ⟨w1, hw1, hb1, hz1, hx1⟩ := box_new w #[.int .i64 k, .int .i64 n, .string s, .slice a m c] 60
  have HB1 := Lib.hid hb1
  have HT := Lib.hid hT
  have HW := Lib.hid hw
  have HM := Lib.hid hm
  have HC := Lib.hid hC
  have HQ := Lib.hid hQ
  have HLN := Lib.hid hlen
  obtain ⟨b0, b1, b2, b3, bf⟩ := hx1.four
  obtain ⟨Q, hq⟩ : ∃ Q, baS (q s) = Q := ⟨_, rfl⟩
  have hQ2 : ∀ w, Calls Tryz.prog 62 #[.string s] w fun e w' => e = .returned (.string Q) ∧ Below w.heap.size w w' := by rw [← hq]; exact hQ
  have HQ2 := Lib.hid hQ2
  have HQE := Lib.hid (show bl Q = q s by rw [← hq, bl_baS])
  obtain ⟨R, hR⟩ : ∃ R, (baS (if ts.isEmpty then q s else q s ++ argsW q nm vs true ts ++ [41])) = R := ⟨_, rfl⟩
  have HR := Lib.hid (show bl R = (if ts.isEmpty then q s else q s ++ argsW q nm vs true ts ++ [41]) by rw [← hR, bl_baS])
  rw [hR]
  clear hb1 hx1 hz1 hT hw hm hC hQ hlen hq hQ2 hR
  go_enter Tryz.func38, Tryz.ntmps38
  go_wp2_with fail
  (try rw [hw1])
  clear hw1
  (go_wp2_with fail; go_fit (HQ2.out _); rintro e w2 ⟨rfl, hb2⟩)
  have HB2 := Lib.hid (Ext.trans' HB1.out hb2)
  have b3 := cell_later hb2 b3
  clear hb2
  go_wp2_with fail
  go_loopw [6, 7] (fun p v wr => ∃ (j : Nat) (acc : ByteArray), j ≤ m ∧ v = .int .i64 j ∧ p = .string acc ∧ Hid (bl acc ++ argsW q nm vs (decide (j = 0)) (ts.drop j) = q s ++ argsW q nm vs true ts) ∧ Hid (Below w2.heap.size w2 wr)) (fun _ v _ => m - (intOf v).toNat)
  case atStart => exact ⟨0, Q, Nat.zero_le _, rfl, rfl, Lib.hid (by rw [HQE.out]; rfl), Lib.hid (Below.refl _ _)⟩
  case round =>
    obtain ⟨j, acc, hj, rfl, rfl, HA, HB⟩ := hrel
    have b3 := cell_later HB.out b3
    have hacc : acc.size ≤ 1000000 := by
      have h1 := congrArg List.length HA.out
      have h2 := HLN.out
      rw [List.length_append, List.length_append] at h1
      rw [size_bl]
      omega
    by_cases hlt : j < m
    · obtain ⟨x, hx⟩ : ∃ x, ts[j]? = some x := ⟨_, List.getElem?_eq_getElem (by rw [HM.out]; exact hlt)⟩
      have HBW := Lib.hid (Ext.trans' HB2.out HB.out)
      obtain ⟨b, off, xk, xn, xs', xu, rfl, hbb, ek, en, es, c0, c1, c2, c3, _, htx⟩ := (HT.out.ext HBW.out).get hx
      have hdr := args_drop q nm vs ts j x true hx
      simp only [Bool.true_and] at hdr
      have HCX := Lib.hid (HC.out x (List.mem_of_getElem? hx) wr _ htx (HW.out.ext HBW.out))
      obtain ⟨Z, hZ⟩ : ∃ Z, baS (plainW q nm vs x) = Z := ⟨_, rfl⟩
      have hZb : bl Z = plainW q nm vs x := by rw [← hZ, bl_baS]
      have hA := HA.out
      rw [hdr, ← hZb] at hA
      have hZs : acc.size + Z.size ≤ 1000000 := by
        have h1 := congrArg List.length hA
        have h2 := HLN.out
        simp only [List.length_append, List.length_cons] at h1
        rw [size_bl, size_bl]
        omega
      have HAZ := Lib.hid hA
      rw [hZ] at HCX
      clear hx ek en es htx hdr hZ hZb hA HA
      have hjj : (j : Int) < m := by omega
      by_cases hj0 : j = 0
      · subst hj0
        simp only [Nat.zero_mul, Nat.add_zero] at c0 c1 c2 c3
        (go_wp2_with fail; go_fit (HCX.out); rintro e w4 ⟨rfl, hb4⟩)
        have HB4 := Lib.hid (Ext.trans' HB.out hb4)
        have HAF := Lib.hid (show bl (acc ++ ⟨#[40]⟩ ++ Z) ++ argsW q nm vs (decide (0 + 1 = 0)) (ts.drop (0 + 1)) = q s ++ argsW q nm vs true ts by
          rw [← HAZ.out, bl_cat, bl_cat]
          simp [bl])
        clear hb4
        go_wp2
        go_roundw
        case rel => exact ⟨0 + 1, acc ++ ⟨#[40]⟩ ++ Z, hlt, by go_num, rfl, HAF, HB4⟩
        case measure => simp [intOf]; omega
      · have hjf : ((j : Int) == 0) = false := beq_false_of_ne (by omega)
        (go_wp2_with fail; go_fit (HCX.out); rintro e w4 ⟨rfl, hb4⟩)
        have HB4 := Lib.hid (Ext.trans' HB.out hb4)
        have HAF := Lib.hid (show bl (acc ++ ⟨#[44]⟩ ++ Z) ++ argsW q nm vs (decide (j + 1 = 0)) (ts.drop (j + 1)) = q s ++ argsW q nm vs true ts by
          rw [← HAZ.out, bl_cat, bl_cat]
          simp [bl, hj0])
        clear hb4
        go_wp2
        go_roundw
        case rel => exact ⟨j + 1, acc ++ ⟨#[44]⟩ ++ Z, hlt, by go_num, rfl, HAF, HB4⟩
        case measure => simp [intOf]; omega
    · have hjm : j = m := by omega
      subst hjm
      have HAE := Lib.hid (show bl acc = q s ++ argsW q nm vs true ts by
        rw [← HA.out, List.drop_of_length_le (by rw [HM.out]; exact Nat.le_refl _)]
        simp [argsW])
      by_cases hj0 : j = 0
      · subst hj0
        have HRE := Lib.hid (show acc = R by
          apply bl_eq
          rw [HAE.out, HR.out, HE.out]
          have : ts = [] := List.length_eq_zero_iff.1 HM.out
          simp [this, argsW])
        go_wp2
        go_ret
        exact ⟨congrArg Ending.returned (congrArg Value.string HRE.out), Ext.trans' HB2.out HB.out⟩
      · have hjp : (0 : Int) < j := by omega
        have HRE := Lib.hid (show acc ++ ⟨#[41]⟩ = R by
          apply bl_eq
          show bl _ = bl _
          rw [bl_cat, HAE.out, HR.out, HE.out]
          simp [hj0, bl])
        go_wp2
        go_ret
        exact ⟨congrArg Ending.returned (congrArg Value.string HRE.out), Ext.trans' HB2.out HB.out⟩
end Go.Proofs.YtllpdciehoenaaaGreatDoor
/- The document's own writing without operators; what the law's text answers. -/
namespace Go.Proofs.YtllpdciehoenaaaGreatDoor
open Go.Shelf Go.RowKit
set_option linter.unusedVariables false

theorem args_len (q : ByteArray → List UInt8) (nm : Int → List UInt8) (vs : List Int) : ∀ (ts : List Tm) (first : Bool) (x : Tm), x ∈ ts → (plainW q nm vs x).length ≤ (argsW q nm vs first ts).length
  | y :: r, first, x, h => by
    rw [argsW]
    simp only [List.length_append, List.length_cons]
    rcases List.mem_cons.1 h with rfl | h
    · omega
    · have := args_len q nm vs r false x h
      omega
theorem plainT_at {q : ByteArray → List UInt8} {nm : Int → List UInt8} {vs : List Int} (hN : ∀ i : Nat, i < vs.length → NC nm i) (hl : ∀ i : Nat, i < vs.length → (nm i).length ≤ 1000) (wb : Nat) (vv : Value) :
    ∀ (N : Nat) (t : Tm), sizeN t < N → mayW (QC q) (NC nm) t → (plainW q nm vs t).length ≤ 1000000 → ∀ (w : World) (v : Value), TmV w t v → WrAt w wb vv vs →
      Calls Tryz.prog 38 #[.pointer (some ⟨wb, 0, none⟩), v] w fun e w' => e = .returned (.string (baS (plainW q nm vs t))) ∧ Below w.heap.size w w'
  | 0, t, ht, _, _, w, v, _, _ => by omega
  | N + 1, .mk k n s ts, ht, hm, hlen, w, v, hv, hw => by
    obtain ⟨u, rfl, hs, hk64, hn64, hu⟩ := tmV_iff.1 hv
    obtain ⟨a, c, rfl, _⟩ := hu.len
    rw [mayW] at hm
    rw [plainW] at hlen ⊢
    by_cases h0 : k = 0
    · subst h0
      rw [if_pos rfl]
      exact plain_var (q := q) hw hN n s a ts.length c hl
    · rw [if_neg h0] at hlen ⊢
      by_cases h1 : k = 1
      · subst h1
        rw [if_pos rfl]
        exact plain_int (q := q) (vs := vs) n (hm.1 rfl) s a ts.length c
      · rw [if_neg h1] at hlen ⊢
        have hq : (q s).length + (argsW q nm vs true ts).length ≤ 1000000 := by
          cases ts with
          | nil => simp [argsW] at hlen ⊢; omega
          | cons x r => simp at hlen ⊢; omega
        refine plain_name k (beq_false_of_ne h0) (beq_false_of_ne h1) n s ts (hm.2.1 h0 h1) hq hw a c hu (fun x hx wq vx hvx hwx => ?_)
        have := sizes_mem hx
        rw [sizeN] at ht
        have := args_len q nm vs ts true x hx
        exact plainT_at hN hl wb vv N x (by omega) (mays_mem hm.2.2 hx) (by omega) wq vx hvx hwx
theorem short_at (s : ByteArray) (hs : s.size ≤ 4096) (w : World) : Calls Tryz.prog 36 #[.string s] w fun e w' => e = .returned (.tuple #[.string s, .int .i64 0]) ∧ w = w' := by
  have hd : decide ((4096 : Int) < (s.size : Int)) = false := decide_eq_false (by omega)
  go_enter Tryz.func36, Tryz.ntmps36
  go_wp2
  go_ret2
  exact ⟨rfl, rfl⟩
set_option maxHeartbeats 4000000 in
theorem plain8_at {q : ByteArray → List UInt8} {nm : Int → List UInt8} {t : Tm} (hg : goodT t = true) (hm : mayW (QC q) (NC nm) t) (hN : ∀ i : Nat, i < (varsT t []).length → NC nm i) (hl : ∀ i : Nat, i < (varsT t []).length → (nm i).length ≤ 1000)
    (hlen : (plainW q nm (varsT t []) t).length ≤ 4096) {w : World} {v : Value} (hv : TmV w t v) :
    Calls Tryz.prog 19 #[v] w fun e w' => e = .returned (.tuple #[.string (baS (plainW q nm (varsT t []) t)), .int .i64 0]) ∧ Below w.heap.size w w' := by
  obtain ⟨k, n, s, a, m, c, rfl⟩ := hv.full
  obtain ⟨w1, hw1, hb1, hz1, hx1⟩ := box_new w #[.int .i64 k, .int .i64 n, .string s, .slice a m c] 60
  have HV := Lib.hid hv
  have HB1 := Lib.hid hb1
  have HG := rgood_at t w1 _ (TmV.ext hb1 _ _ hv)
  rw [hg] at HG
  have HG := Lib.hid HG
  obtain ⟨Z, hZ⟩ : ∃ Z, baS (plainW q nm (varsT t []) t) = Z := ⟨_, rfl⟩
  have hZs : Z.size ≤ 4096 := by rw [← hZ, size_bl, bl_baS]; exact hlen
  have HP := Lib.hid (fun (wb : Nat) (vv : Value) (wq : World) (hq : Below w.heap.size w wq) (hw : WrAt wq wb vv (varsT t [])) => plainT_at hN hl wb vv _ t (Nat.lt_succ_self _) hm (by omega) wq _ (TmV.ext hq _ _ hv) hw)
  rw [hZ] at HP
  have HVA := Lib.hid (fun (wq : World) (hq : Below w.heap.size w wq) => rVars_at t wq _ (TmV.ext hq _ _ hv))
  rw [hg] at HVA
  simp only [if_true] at HVA
  have HS := Lib.hid (fun wq => short_at Z hZs wq)
  rw [hZ]
  obtain ⟨b0, b1, b2, b3, bf⟩ := hx1.four
  have HX1 := Lib.hid hx1
  clear hv hb1 hx1 hz1 hg hZ hZs hm hN hl hlen
  go_enter Tryz.func19, Tryz.ntmps19
  go_wp2_with fail
  (try rw [hw1])
  clear hw1
  (go_wp2_with fail; go_fit (HG.out); rintro e w2 ⟨rfl, hb2⟩)
  have HB2 := Lib.hid (Ext.trans' HB1.out hb2)
  obtain ⟨b0, b1, b2, b3, bf⟩ := (HX1.out.ext hb2).four
  clear hb2
  go_wp2_with fail
  refine wp_region_held_drew (S := fun w' => (w'.cell? ⟨w.heap.size, 0, none⟩ = some (.int .i64 k) ∧ w'.cell? ⟨w.heap.size, 1, none⟩ = some (.int .i64 n) ∧ w'.cell? ⟨w.heap.size, 2, none⟩ = some (.string s) ∧ w'.cell? ⟨w.heap.size, 3, none⟩ = some (.slice a m c)) ∧ Below w2.heap.size w2 w') (by kernel_rfl) ⟨⟨b0, b1, b2, b3⟩, (Below.refl _ _).drew⟩ (fun hHeld => ?_)
  first | (refine held_take (i := 0) (by simp only [List.getElem?_toArray, List.getElem?_cons_zero, List.getElem?_cons_succ]; rfl) (by kernel_rfl) (by kernel_rfl) (by kernel_rfl) (by rfl) hHeld ?_; apply Exists.intro; refine ⟨fun wq hq => ?_, fun _ _ _ h => h, ?_⟩; (focus ((try dsimp only at hq); go_simp; (first | done | with_reducible rfl | fail))); try simp only [Act.put, List.setIfInBounds_toArray, List.set_cons_zero, List.set_cons_succ]) | (refine held_skip (i := 0) (by simp only [List.getElem?_toArray, List.getElem?_cons_zero, List.getElem?_cons_succ]; rfl) (by kernel_rfl) (by kernel_rfl) (by kernel_rfl) (by rfl) hHeld (by exact fun _ _ _ h => h) ?_; try simp only [Act.put, List.setIfInBounds_toArray, List.set_cons_zero, List.set_cons_succ]) | fail
  first | (refine held_take (i := 4) (by simp only [List.getElem?_toArray, List.getElem?_cons_zero, List.getElem?_cons_succ]; rfl) (by kernel_rfl) (by kernel_rfl) (by kernel_rfl) (by rfl) hHeld ?_; apply Exists.intro; refine ⟨fun wq hq => ?_, fun _ _ _ h => h, ?_⟩; (focus ((try dsimp only at hq); go_simp; (first | done | with_reducible rfl | fail))); try simp only [Act.put, List.setIfInBounds_toArray, List.set_cons_zero, List.set_cons_succ]) | (refine held_skip (i := 4) (by simp only [List.getElem?_toArray, List.getElem?_cons_zero, List.getElem?_cons_succ]; rfl) (by kernel_rfl) (by kernel_rfl) (by kernel_rfl) (by rfl) hHeld (by exact fun _ _ _ h => h) ?_; try simp only [Act.put, List.setIfInBounds_toArray, List.set_cons_zero, List.set_cons_succ]) | fail
  refine wpAnyH_ready (rs := [1]) (by kernel_rfl) (by simp) ?_
  refine AllReadyH.cons (by simp only [List.getElem?_toArray, List.getElem?_cons_zero, List.getElem?_cons_succ]; rfl) (fun K hK => ?_) AllReadyH.nil
  go_simp
  (go_at_call 37; refine (HVA.out _ (Ext.trans' HB2.out hHeld.2)).mono ?_; rintro e w3 ⟨vv, rfl, hnv, hb3⟩; obtain ⟨va, vc, rfl, _⟩ := hnv.len; have HNV := Lib.hid hnv; clear hnv)
  refine hK.out _ _ (⟨⟨cell_later hb3 hHeld.1.1, cell_later hb3 hHeld.1.2.1, cell_later hb3 hHeld.1.2.2.1, cell_later hb3 hHeld.1.2.2.2⟩, Ext.trans' hHeld.2 hb3⟩) (fun hHeld => ?_)
  clear hK K
  try simp only [Act.put, List.setIfInBounds_toArray, List.set_cons_zero, List.set_cons_succ]
  first | (refine held_take (i := 2) (by simp only [List.getElem?_toArray, List.getElem?_cons_zero, List.getElem?_cons_succ]; rfl) (by kernel_rfl) (by kernel_rfl) (by kernel_rfl) (by rfl) hHeld ?_; apply Exists.intro; refine ⟨fun wq hq => ?_, fun _ _ _ h => h, ?_⟩; (focus ((try dsimp only at hq); go_simp; (first | done | with_reducible rfl | fail))); try simp only [Act.put, List.setIfInBounds_toArray, List.set_cons_zero, List.set_cons_succ]) | (refine held_skip (i := 2) (by simp only [List.getElem?_toArray, List.getElem?_cons_zero, List.getElem?_cons_succ]; rfl) (by kernel_rfl) (by kernel_rfl) (by kernel_rfl) (by rfl) hHeld (by exact fun _ _ _ h => h) ?_; try simp only [Act.put, List.setIfInBounds_toArray, List.set_cons_zero, List.set_cons_succ]) | fail
  refine wpAnyH_ready (rs := [3]) (by kernel_rfl) (by simp) ?_
  refine AllReadyH.cons (by simp only [List.getElem?_toArray, List.getElem?_cons_zero, List.getElem?_cons_succ]; rfl) (fun K hK => ?_) AllReadyH.nil
  go_simp
  skip
  refine hK.out _ _ (⟨⟨cell_later (bel1' _ _) hHeld.1.1, cell_later (bel1' _ _) hHeld.1.2.1, cell_later (bel1' _ _) hHeld.1.2.2.1, cell_later (bel1' _ _) hHeld.1.2.2.2⟩, Ext.trans' hHeld.2 (bel1' _ _)⟩) (fun hHeld => ?_)
  clear hK K
  try simp only [Act.put, List.setIfInBounds_toArray, List.set_cons_zero, List.set_cons_succ]
  refine wpAnyH_ready (rs := [5]) (by kernel_rfl) (by simp) ?_
  refine AllReadyH.cons (by simp only [List.getElem?_toArray, List.getElem?_cons_zero, List.getElem?_cons_succ]; rfl) (fun K hK => ?_) AllReadyH.nil
  go_simp
  (go_at_call 38; refine (HP.out _ _ _ (Ext.trans' HB2.out hHeld.2) ⟨by simp, HNV.out.ext (bel1' _ _)⟩).mono ?_; rintro e w4 ⟨rfl, hb4⟩)
  refine hK.out _ _ (⟨⟨cell_later hb4 hHeld.1.1, cell_later hb4 hHeld.1.2.1, cell_later hb4 hHeld.1.2.2.1, cell_later hb4 hHeld.1.2.2.2⟩, Ext.trans' hHeld.2 hb4⟩) (fun hHeld => ?_)
  clear hK K
  try simp only [Act.put, List.setIfInBounds_toArray, List.set_cons_zero, List.set_cons_succ]
  refine wpAnyH_ready (rs := [6]) (by kernel_rfl) (by simp) ?_
  refine AllReadyH.cons (by simp only [List.getElem?_toArray, List.getElem?_cons_zero, List.getElem?_cons_succ]; rfl) (fun K hK => ?_) AllReadyH.nil
  go_simp
  (go_at_call 36; refine (HS.out _).mono ?_; rintro e w5 ⟨rfl, rfl⟩)
  refine hK.out _ _ (hHeld) (fun hHeld => ?_)
  clear hK K
  try simp only [Act.put, List.setIfInBounds_toArray, List.set_cons_zero, List.set_cons_succ]
  first | (refine held_take (i := 7) (by simp only [List.getElem?_toArray, List.getElem?_cons_zero, List.getElem?_cons_succ]; rfl) (by kernel_rfl) (by kernel_rfl) (by kernel_rfl) (by rfl) hHeld ?_; apply Exists.intro; refine ⟨fun wq hq => ?_, fun _ _ _ h => h, ?_⟩; (focus ((try dsimp only at hq); go_simp; (first | done | with_reducible rfl | fail))); try simp only [Act.put, List.setIfInBounds_toArray, List.set_cons_zero, List.set_cons_succ]) | (refine held_skip (i := 7) (by simp only [List.getElem?_toArray, List.getElem?_cons_zero, List.getElem?_cons_succ]; rfl) (by kernel_rfl) (by kernel_rfl) (by kernel_rfl) (by rfl) hHeld (by exact fun _ _ _ h => h) ?_; try simp only [Act.put, List.setIfInBounds_toArray, List.set_cons_zero, List.set_cons_succ]) | fail
  first | (refine held_take (i := 8) (by simp only [List.getElem?_toArray, List.getElem?_cons_zero, List.getElem?_cons_succ]; rfl) (by kernel_rfl) (by kernel_rfl) (by kernel_rfl) (by rfl) hHeld ?_; apply Exists.intro; refine ⟨fun wq hq => ?_, fun _ _ _ h => h, ?_⟩; (focus ((try dsimp only at hq); go_simp; (first | done | with_reducible rfl | fail))); try simp only [Act.put, List.setIfInBounds_toArray, List.set_cons_zero, List.set_cons_succ]) | (refine held_skip (i := 8) (by simp only [List.getElem?_toArray, List.getElem?_cons_zero, List.getElem?_cons_succ]; rfl) (by kernel_rfl) (by kernel_rfl) (by kernel_rfl) (by rfl) hHeld (by exact fun _ _ _ h => h) ?_; try simp only [Act.put, List.setIfInBounds_toArray, List.set_cons_zero, List.set_cons_succ]) | fail
  first | (refine held_take (i := 9) (by simp only [List.getElem?_toArray, List.getElem?_cons_zero, List.getElem?_cons_succ]; rfl) (by kernel_rfl) (by kernel_rfl) (by kernel_rfl) (by rfl) hHeld ?_; apply Exists.intro; refine ⟨fun wq hq => ?_, fun _ _ _ h => h, ?_⟩; (focus ((try dsimp only at hq); go_simp; (first | done | with_reducible rfl | fail))); try simp only [Act.put, List.setIfInBounds_toArray, List.set_cons_zero, List.set_cons_succ]) | (refine held_skip (i := 9) (by simp only [List.getElem?_toArray, List.getElem?_cons_zero, List.getElem?_cons_succ]; rfl) (by kernel_rfl) (by kernel_rfl) (by kernel_rfl) (by rfl) hHeld (by exact fun _ _ _ h => h) ?_; try simp only [Act.put, List.setIfInBounds_toArray, List.set_cons_zero, List.set_cons_succ]) | fail
  first | (refine held_take (i := 10) (by simp only [List.getElem?_toArray, List.getElem?_cons_zero, List.getElem?_cons_succ]; rfl) (by kernel_rfl) (by kernel_rfl) (by kernel_rfl) (by rfl) hHeld ?_; apply Exists.intro; refine ⟨fun wq hq => ?_, fun _ _ _ h => h, ?_⟩; (focus ((try dsimp only at hq); go_simp; (first | done | with_reducible rfl | fail))); try simp only [Act.put, List.setIfInBounds_toArray, List.set_cons_zero, List.set_cons_succ]) | (refine held_skip (i := 10) (by simp only [List.getElem?_toArray, List.getElem?_cons_zero, List.getElem?_cons_succ]; rfl) (by kernel_rfl) (by kernel_rfl) (by kernel_rfl) (by rfl) hHeld (by exact fun _ _ _ h => h) ?_; try simp only [Act.put, List.setIfInBounds_toArray, List.set_cons_zero, List.set_cons_succ]) | fail
  refine wpAnyH_done (by kernel_rfl) ?_ _
  have HF := Lib.hid (Ext.trans' HB2.out hHeld.2)
  go_wp2
  go_ret2
  exact ⟨rfl, HF.out⟩
/-- A read term is good. -/
theorem one_good {xs : List O} {s : List UInt8} {t : Tm} {ns : List NmP} (h : readB oneR xs s = .ok (t, ns)) : goodT t = true := by
  unfold readB oneR at h
  split at h
  · split at h
    · split at h
      · cases h
      · split at h
        · split at h
          · rename_i hg
            cases h
            exact hg
          · cases h
        · cases h
    · cases h
  · cases h
def errW : ByteArray := ⟨#[101, 114, 114, 111, 114]⟩
theorem oldNo' (w : World) : Old (fun _ => false) w := fun _ _ => rfl
set_option maxHeartbeats 2000000 in
theorem text_bad {s : ByteArray} {k : Int} (h : readB oneR opsB (bl s) = .bad k) (hk : (k != 0) = true) (hs : s.size ≤ 4096) {w : World} (he : Err w) :
    Calls Tryz.prog 8 #[.string s] w fun e w' => e = .returned (.string errW) ∧ Below w.heap.size w w' := by
  have HT := Lib.hid (fun (wq : World) (hq : Below w.heap.size w wq) (v : Value) (ho : Ops wq v opsB) => term8_at ho s (he.ext hq) (by omega))
  rw [h] at HT
  have HPl := Lib.hid (plain_walk w)
  clear h he hs
  go_enter Tryz.func8, Tryz.ntmps8
  (go_wp2_with fail; go_fit (HPl.out); rintro e w1 ⟨v, rfl, ho, hb1⟩)
  have HC := Lib.hid ((HT.out w1 hb1 v ho).mono fun e w' (hp : TermX w1 (.bad k) e w') => (show e = .returned (.tuple #[.agg #[.int .i64 0, .int .i64 0, .string ⟨#[]⟩, .slice none 0 0], .slice none 0 0, .int .i64 k]) ∧ Below w1.heap.size w1 w' from hp))
  have HB1 := Lib.hid hb1
  clear ho hb1 HT
  (go_wp2_with fail; go_fit (HC.out); rintro e w2 ⟨rfl, hb2⟩)
  have HB2 := Lib.hid (Ext.trans' HB1.out hb2)
  clear hb2
  go_wp2
  go_ret
  exact ⟨rfl, by first | exact Ext.trans' HB2.out (bel1' _ _) | assumption⟩
set_option maxHeartbeats 2000000 in
theorem text_ok {q : ByteArray → List UInt8} {nm : Int → List UInt8} {s : ByteArray} {t : Tm} {ns : List NmP} (h : readB oneR opsB (bl s) = .ok (t, ns)) (hm : mayW (QC q) (NC nm) t) (hN : ∀ i : Nat, i < (varsT t []).length → NC nm i) (hl : ∀ i : Nat, i < (varsT t []).length → (nm i).length ≤ 1000)
    (hlen : (plainW q nm (varsT t []) t).length ≤ 4096) (hs : s.size ≤ 4096) {w : World} (he : Err w) :
    Calls Tryz.prog 8 #[.string s] w fun e w' => e = .returned (.string (baS (plainW q nm (varsT t []) t))) ∧ Below w.heap.size w w' := by
  have hg := one_good h
  have HT := Lib.hid (fun (wq : World) (hq : Below w.heap.size w wq) (v : Value) (ho : Ops wq v opsB) => term8_at ho s (he.ext hq) (by omega))
  rw [h] at HT
  have HPl := Lib.hid (plain_walk w)
  have HP8 := Lib.hid (fun (wq : World) (v : Value) (hv : TmV wq t v) => plain8_at hg hm hN hl hlen hv)
  obtain ⟨Z, hZ⟩ : ∃ Z, baS (plainW q nm (varsT t []) t) = Z := ⟨_, rfl⟩
  rw [hZ] at HP8
  rw [hZ]
  clear h he hs hg hm hN hl hlen hZ
  go_enter Tryz.func8, Tryz.ntmps8
  (go_wp2_with fail; go_fit (HPl.out); rintro e w1 ⟨v, rfl, ho, hb1⟩)
  have HC := Lib.hid ((HT.out w1 hb1 v ho).mono fun e w' (hp : TermX w1 (.ok (t, ns)) e w') => (show (∃ v vn, e = .returned (.tuple #[v, vn, .int .i64 0]) ∧ TmV w' t v ∧ Nms w' vn ns) ∧ Below w1.heap.size w1 w' from hp))
  have HB1 := Lib.hid hb1
  clear ho hb1 HT
  (go_wp2_with fail; go_fit (HC.out); rintro e w2 ⟨⟨v2, vn, rfl, hv2, hn2⟩, hb2⟩)
  obtain ⟨k2, n2, s2, a2, m2, c2, rfl⟩ := hv2.full
  obtain ⟨w3, hw3, hb3, hz3, hx3⟩ := box_new w2 #[.int .i64 k2, .int .i64 n2, .string s2, .slice a2 m2 c2] 27
  have HO := Lib.hid (own_at t (fun _ => false) w3 _ (oldNo' w3) (TmV.ext hb3 _ _ hv2))
  have HB3 := Lib.hid (Ext.trans' (Ext.trans' HB1.out hb2) hb3)
  obtain ⟨b0, b1, b2, b3, bf⟩ := hx3.four
  clear hv2 hn2 hb2 hb3 hx3 hz3 HC
  go_wp2_with fail
  (try rw [hw3])
  clear hw3
  (go_wp2_with fail; go_fit (HO.out); rintro e w4 ⟨v4, rfl, hv4, hb4⟩)
  have HC4 := Lib.hid (HP8.out w4 v4 hv4.bare)
  have HB4 := Lib.hid (Ext.trans' HB3.out hb4)
  clear hv4 hb4
  (go_wp2_with fail; go_fit (HC4.out); rintro e w5 ⟨rfl, hb5⟩)
  have HB5 := Lib.hid (Ext.trans' HB4.out hb5)
  clear hb5
  go_wp2
  go_ret
  exact ⟨rfl, HB5.out⟩
end Go.Proofs.YtllpdciehoenaaaGreatDoor
/- The document's own Quote at names of one letter. -/
namespace Go.Proofs.YtllpdciehoenaaaGreatDoor
open Go.Shelf Go.RowKit
set_option linter.unusedVariables false
set_option maxRecDepth 100000

theorem blank_97 (w : World) : Calls Tryz.prog 73 #[.int .u8 97] w fun e w' => e = .returned (.bool false) ∧ w = w' := by
  go_enter Tryz.func73, Tryz.ntmps73
  go_wp2
  go_ret
  exact ⟨rfl, rfl⟩
theorem small_97 (w : World) : Calls Tryz.prog 101 #[.int .u8 97] w fun e w' => e = .returned (.bool true) ∧ w = w' := by
  go_enter Tryz.func101, Tryz.ntmps101
  go_wp2
  go_ret
  exact ⟨rfl, rfl⟩
theorem great_97 (w : World) : Calls Tryz.prog 102 #[.int .u8 97] w fun e w' => e = .returned (.bool false) ∧ w = w' := by
  go_enter Tryz.func102, Tryz.ntmps102
  go_wp2
  go_ret
  exact ⟨rfl, rfl⟩
theorem word_97 (w : World) : Calls Tryz.prog 103 #[.int .u8 97] w fun e w' => e = .returned (.bool true) ∧ w = w' := by
  go_enter Tryz.func103, Tryz.ntmps103
  go_wp2_with (first | (go_at_call 101; refine (small_97 _).mono ?_; rintro e w' ⟨rfl, rfl⟩) | (go_at_call 102; refine (great_97 _).mono ?_; rintro e w' ⟨rfl, rfl⟩))
  go_ret
  exact ⟨rfl, rfl⟩
theorem blank_61 (w : World) : Calls Tryz.prog 73 #[.int .u8 61] w fun e w' => e = .returned (.bool false) ∧ w = w' := by
  go_enter Tryz.func73, Tryz.ntmps73
  go_wp2
  go_ret
  exact ⟨rfl, rfl⟩
theorem small_61 (w : World) : Calls Tryz.prog 101 #[.int .u8 61] w fun e w' => e = .returned (.bool false) ∧ w = w' := by
  go_enter Tryz.func101, Tryz.ntmps101
  go_wp2
  go_ret
  exact ⟨rfl, rfl⟩
theorem great_61 (w : World) : Calls Tryz.prog 102 #[.int .u8 61] w fun e w' => e = .returned (.bool false) ∧ w = w' := by
  go_enter Tryz.func102, Tryz.ntmps102
  go_wp2
  go_ret
  exact ⟨rfl, rfl⟩
theorem digit_61 (w : World) : Calls Tryz.prog 104 #[.int .u8 61] w fun e w' => e = .returned (.bool false) ∧ w = w' := by
  go_enter Tryz.func104, Tryz.ntmps104
  go_wp2
  go_ret
  exact ⟨rfl, rfl⟩
theorem symbol_61 (w : World) : Calls Tryz.prog 108 #[.int .u8 61] w fun e w' => e = .returned (.bool true) ∧ w = w' := by
  go_enter Tryz.func108, Tryz.ntmps108
  go_wp2_with fail
  refine wp_loop_rounds 9 ?_
  rw [rounds_succ]
  go_wp2_with fail
  rw [rounds_succ]
  go_wp2_with fail
  rw [rounds_succ]
  go_wp2_with fail
  rw [rounds_succ]
  go_wp2_with fail
  rw [rounds_succ]
  go_wp2_with fail
  rw [rounds_succ]
  go_wp2_with fail
  rw [rounds_succ]
  go_wp2_with fail
  rw [rounds_succ]
  go_wp2_with fail
  rw [rounds_succ]
  go_wp2
  go_ret
  exact ⟨rfl, rfl⟩
theorem blank_43 (w : World) : Calls Tryz.prog 73 #[.int .u8 43] w fun e w' => e = .returned (.bool false) ∧ w = w' := by
  go_enter Tryz.func73, Tryz.ntmps73
  go_wp2
  go_ret
  exact ⟨rfl, rfl⟩
theorem small_43 (w : World) : Calls Tryz.prog 101 #[.int .u8 43] w fun e w' => e = .returned (.bool false) ∧ w = w' := by
  go_enter Tryz.func101, Tryz.ntmps101
  go_wp2
  go_ret
  exact ⟨rfl, rfl⟩
theorem great_43 (w : World) : Calls Tryz.prog 102 #[.int .u8 43] w fun e w' => e = .returned (.bool false) ∧ w = w' := by
  go_enter Tryz.func102, Tryz.ntmps102
  go_wp2
  go_ret
  exact ⟨rfl, rfl⟩
theorem digit_43 (w : World) : Calls Tryz.prog 104 #[.int .u8 43] w fun e w' => e = .returned (.bool false) ∧ w = w' := by
  go_enter Tryz.func104, Tryz.ntmps104
  go_wp2
  go_ret
  exact ⟨rfl, rfl⟩
theorem symbol_43 (w : World) : Calls Tryz.prog 108 #[.int .u8 43] w fun e w' => e = .returned (.bool true) ∧ w = w' := by
  go_enter Tryz.func108, Tryz.ntmps108
  go_wp2_with fail
  refine wp_loop_rounds 1 ?_
  rw [rounds_succ]
  go_wp2
  go_ret
  exact ⟨rfl, rfl⟩
end Go.Proofs.YtllpdciehoenaaaGreatDoor
/- The document's own Quote at names of one letter: Cut, Plain, Quote. -/
namespace Go.Proofs.YtllpdciehoenaaaGreatDoor
open Go.Shelf Go.RowKit
set_option linter.unusedVariables false
set_option maxRecDepth 100000

theorem infoTokR : (Tryz.prog.info? 110).map (fun i => (i.zero, i.size, i.bytes)) = some (some (.agg #[.int .i64 0, .string ⟨#[]⟩, .int .i64 0, .bool false, .int .i64 0]), 5, 48) := by kernel_rfl
theorem bel5' {n : Nat} {w w1 : World} (h : Below n w w1) {b : Nat} (hb : n ≤ b) (u0 u1 u2 u3 u4 : Value) : Below n w (((((w1.setCell ⟨b, 0, none⟩ u0).setCell ⟨b, 1, none⟩ u1).setCell ⟨b, 2, none⟩ u2).setCell ⟨b, 3, none⟩ u3).setCell ⟨b, 4, none⟩ u4) :=
  (((((h).setCell (p := ⟨b, 0, none⟩) hb _).setCell (p := ⟨b, 1, none⟩) hb _).setCell (p := ⟨b, 2, none⟩) hb _).setCell (p := ⟨b, 3, none⟩) hb _).setCell (p := ⟨b, 4, none⟩) hb _
theorem size_two {w3 : World} {a b : Addr} {u v : Value} : ((w3.setCell a u).setCell b v).heap.size = w3.heap.size := by simp [World.setCell]
theorem le_two {w3 : World} {a b : Addr} {u v : Value} {o : Obj} {n : Nat} (h : n ≤ w3.heap.size) : n ≤ (((w3.setCell a u).setCell b v).alloc o).heap.size := by
  have := (bel1' ((w3.setCell a u).setCell b v) o).size
  rw [size_two] at this
  omega
theorem cell_new2 {w3 : World} {a b : Addr} {u v : Value} (cs : Array Value) (ty : TypeId) (j : Nat) (x : Value) (h : cs.toList[j]? = some x) : (((w3.setCell a u).setCell b v).alloc (.cells cs ty)).cell? ((⟨w3.heap.size, 0, none⟩ : Addr).add j) = some x := by
  have := cell_new ((w3.setCell a u).setCell b v) cs ty j x h
  rwa [size_two] at this
set_option maxHeartbeats 600000 in
theorem one_97 (w : World) : Calls Tryz.prog 74 #[.string ⟨#[97]⟩, .int .i64 0] w fun e w' => e = .returned (.tuple #[.agg #[.int .i64 1, .string ⟨#[97]⟩, .int .i64 0, .bool false, .int .i64 0], .int .i64 1, .int .i64 0]) ∧ Below w.heap.size w w' := by
  obtain ⟨w1, hw1, hb1, hz1, hx1⟩ := box_new w #[.int .i64 0, .string ⟨#[]⟩, .int .i64 0, .bool false, .int .i64 0] 110
  obtain ⟨r0, r1, r2, r3, r4, rf⟩ := hx1.five
  have hidx : (((⟨#[97]⟩ : ByteArray)[0]'(by decide)).toNat : Int) = 97 := rfl
  go_enter Tryz.func74, Tryz.ntmps74
  go_wp2_with fail
  (try rw [hw1])
  clear hw1 hz1 hx1
  go_wp2_with (first | (go_at_call 101; refine (small_97 _).mono ?_; rintro e w' ⟨rfl, rfl⟩) | (go_at_call 102; refine (great_97 _).mono ?_; rintro e w' ⟨rfl, rfl⟩) | (go_at_call 103; refine (word_97 _).mono ?_; rintro e w' ⟨rfl, rfl⟩) | fail)
  refine wp_loop_rounds 2 ?_
  rw [rounds_succ]
  go_wp2_with (first | (go_at_call 101; refine (small_97 _).mono ?_; rintro e w' ⟨rfl, rfl⟩) | (go_at_call 102; refine (great_97 _).mono ?_; rintro e w' ⟨rfl, rfl⟩) | (go_at_call 103; refine (word_97 _).mono ?_; rintro e w' ⟨rfl, rfl⟩) | fail)
  rw [rounds_succ]
  go_wp2_with (first | (go_at_call 101; refine (small_97 _).mono ?_; rintro e w' ⟨rfl, rfl⟩) | (go_at_call 102; refine (great_97 _).mono ?_; rintro e w' ⟨rfl, rfl⟩) | (go_at_call 103; refine (word_97 _).mono ?_; rintro e w' ⟨rfl, rfl⟩) | fail)
  refine bodyPost_ret (v := .tuple #[.agg #[.int .i64 1, .string ⟨#[97]⟩, .int .i64 0, .bool false, .int .i64 0], .int .i64 1, .int .i64 0]) (by rw [results_cell3 rfl]; go_simp; (try rfl)) rfl ?_
  refine And.intro rfl ?_
  repeat' (first | with_reducible exact hb1 | with_reducible refine Below.setCell ?_ ?_ _ | exact Nat.le_refl _)
set_option maxHeartbeats 1000000 in
theorem cut_97 (w : World) : Calls Tryz.prog 46 #[.string ⟨#[97]⟩] w fun e w' => ∃ ao cv, e = .returned (.tuple #[.slice ao 1 cv, .int .i64 1, .int .i64 0]) ∧ Toks w' (.slice ao 1 cv) [(⟨1, [97], 0, 1, false⟩, 0)] ∧ Below w.heap.size w w' := by
  obtain ⟨i0, hi0, hz0, hs0, hb0⟩ := info_parts infoTokR
  have HO := Lib.hid (one_97 w)
  have hidx : (((⟨#[97]⟩ : ByteArray)[0]'(by decide)).toNat : Int) = 97 := rfl
  go_enter Tryz.func46, Tryz.ntmps46
  go_wp2_with fail
  refine wp_loop_rounds 2 ?_
  rw [rounds_succ]
  go_wp2_with (first | (go_at_call 73; refine (blank_97 _).mono ?_; rintro e w' ⟨rfl, rfl⟩) | fail)
  (go_wp2_with fail; go_fit (HO.out); rintro e w2 ⟨rfl, hb2⟩)
  obtain ⟨w3, hw3, hb3, hz3, hx3⟩ := box_new w2 #[.int .i64 1, .string ⟨#[97]⟩, .int .i64 0, .bool false, .int .i64 0] 110
  have HB3 := Lib.hid (Ext.trans' hb2 hb3)
  have hsz3 := HB3.out.size
  obtain ⟨r0, r1, r2, r3, r4, rf⟩ := hx3.five
  have HX3 := Lib.hid hx3
  have hwz : w.heap.size ≤ w2.heap.size := hb2.size
  have HW3 := Lib.hid hw3
  clear hb2 hb3 hz3 hx3 hw3
  go_upto_region 18 with fail
  rw [HW3.out]
  go_wp2_with (at_builtin; refine wpList_append_k rfl _ _ 102 rfl w.heap.size 110 i0 (.agg #[.int .i64 0, .string ⟨#[]⟩, .int .i64 0, .bool false, .int .i64 0]) 5 48 Tryz.underlying102 hi0 hz0 hs0 (by decide) hb0 rfl (.slice none 0 0) 0 [] rfl (World.ownsRow_nil _ _ _ _) (some ⟨w3.heap.size, 0, none⟩) 1 1 [.int .i64 1, .string ⟨#[97]⟩, .int .i64 0, .bool false, .int .i64 0] rfl rfl (Or.inr ⟨_, rfl, fun j u hu => cell_new w3 #[.int .i64 1, .string ⟨#[97]⟩, .int .i64 0, .bool false, .int .i64 0] _ j u hu⟩) (by simp [Value.oneCell']) (by unfold maxLen; omega) (by omega) (by simp; omega) 1 [.int .i64 1, .string ⟨#[97]⟩, .int .i64 0, .bool false, .int .i64 0] rfl rfl ?_; intro a7 c7 w7 hown7 hgrow7 hat7)
  have hr : w7.ownsRow w.heap.size 110 5 (.slice a7 1 c7) ([(⟨1, [97], 0, 1, false⟩, 0)] : List (TokB × Nat)).length (([(⟨1, [97], 0, 1, false⟩, 0)] : List (TokB × Nat)).flatMap tCells) := hown7
  have HTk := Lib.hid (Elems.owned tCells_len hr)
  have HB7 := Lib.hid ((Ext.trans' HB3.out (bel1' w3 _)).grown hgrow7 (by simp; omega) (fun _ h => by cases h))
  clear hown7 hgrow7 hat7 hr
  rw [rounds_succ]
  go_wp2
  go_ret3
  exact ⟨_, _, rfl, HTk.out, HB7.out⟩
set_option maxHeartbeats 1000000 in
theorem plain_97 (w : World) : Calls Tryz.prog 92 #[.string ⟨#[97]⟩] w fun e w' => e = .returned (.bool true) ∧ Below w.heap.size w w' := by
  have HC := Lib.hid (cut_97 w)
  go_enter Tryz.func92, Tryz.ntmps92
  (go_wp2_with fail; go_fit (HC.out); rintro e w1 ⟨ao, cv, rfl, htk, b1⟩)
  obtain ⟨b, off, rfl, hb, d0, d1, d2, d3, d4⟩ := htk.cells (k := 0) (x := (⟨1, [97], 0, 1, false⟩, 0)) rfl
  replace d0 : w1.cell? ⟨b, off, none⟩ = some (.int .i64 1) := d0
  replace d1 : w1.cell? ⟨b, off + 1, none⟩ = some (.string ⟨#[97]⟩) := d1
  have B1 := Lib.hid b1
  clear htk b1 d2 d3 d4
  go_wp2
  go_ret
  exact ⟨rfl, B1.out⟩
theorem quote_97 (w : World) : Calls Tryz.prog 62 #[.string ⟨#[97]⟩] w fun e w' => e = .returned (.string ⟨#[97]⟩) ∧ Below w.heap.size w w' := by
  have HC := Lib.hid (plain_97 w)
  go_enter Tryz.func62, Tryz.ntmps62
  (go_wp2_with fail; go_fit (HC.out); rintro e w1 ⟨rfl, b1⟩)
  go_wp2
  go_ret
  exact ⟨rfl, b1⟩
theorem ends_61 (w : World) : Calls Tryz.prog 107 #[.string ⟨#[61]⟩, .int .i64 0] w fun e w' => e = .returned (.bool false) ∧ w = w' := by
  go_enter Tryz.func107, Tryz.ntmps107
  go_wp2
  go_ret
  exact ⟨rfl, rfl⟩
set_option maxHeartbeats 600000 in
theorem one_61 (w : World) : Calls Tryz.prog 74 #[.string ⟨#[61]⟩, .int .i64 0] w fun e w' => e = .returned (.tuple #[.agg #[.int .i64 1, .string ⟨#[61]⟩, .int .i64 0, .bool false, .int .i64 0], .int .i64 1, .int .i64 0]) ∧ Below w.heap.size w w' := by
  obtain ⟨w1, hw1, hb1, hz1, hx1⟩ := box_new w #[.int .i64 0, .string ⟨#[]⟩, .int .i64 0, .bool false, .int .i64 0] 110
  obtain ⟨r0, r1, r2, r3, r4, rf⟩ := hx1.five
  have hidx : (((⟨#[61]⟩ : ByteArray)[0]'(by decide)).toNat : Int) = 61 := rfl
  go_enter Tryz.func74, Tryz.ntmps74
  go_wp2_with fail
  (try rw [hw1])
  clear hw1 hz1 hx1
  go_wp2_with (first | (go_at_call 101; refine (small_61 _).mono ?_; rintro e w' ⟨rfl, rfl⟩) | (go_at_call 102; refine (great_61 _).mono ?_; rintro e w' ⟨rfl, rfl⟩) | (go_at_call 104; refine (digit_61 _).mono ?_; rintro e w' ⟨rfl, rfl⟩) | (go_at_call 108; refine (symbol_61 _).mono ?_; rintro e w' ⟨rfl, rfl⟩) | (go_at_call 107; refine (ends_61 _).mono ?_; rintro e w' ⟨rfl, rfl⟩) | fail)
  refine wp_loop_rounds 2 ?_
  rw [rounds_succ]
  go_wp2_with (first | (go_at_call 101; refine (small_61 _).mono ?_; rintro e w' ⟨rfl, rfl⟩) | (go_at_call 102; refine (great_61 _).mono ?_; rintro e w' ⟨rfl, rfl⟩) | (go_at_call 104; refine (digit_61 _).mono ?_; rintro e w' ⟨rfl, rfl⟩) | (go_at_call 108; refine (symbol_61 _).mono ?_; rintro e w' ⟨rfl, rfl⟩) | (go_at_call 107; refine (ends_61 _).mono ?_; rintro e w' ⟨rfl, rfl⟩) | fail)
  rw [rounds_succ]
  go_wp2_with (first | (go_at_call 101; refine (small_61 _).mono ?_; rintro e w' ⟨rfl, rfl⟩) | (go_at_call 102; refine (great_61 _).mono ?_; rintro e w' ⟨rfl, rfl⟩) | (go_at_call 104; refine (digit_61 _).mono ?_; rintro e w' ⟨rfl, rfl⟩) | (go_at_call 108; refine (symbol_61 _).mono ?_; rintro e w' ⟨rfl, rfl⟩) | (go_at_call 107; refine (ends_61 _).mono ?_; rintro e w' ⟨rfl, rfl⟩) | fail)
  refine bodyPost_ret (v := .tuple #[.agg #[.int .i64 1, .string ⟨#[61]⟩, .int .i64 0, .bool false, .int .i64 0], .int .i64 1, .int .i64 0]) (by rw [results_cell3 rfl]; go_simp; (try rfl)) rfl ?_
  refine And.intro rfl ?_
  repeat' (first | with_reducible exact hb1 | with_reducible refine Below.setCell ?_ ?_ _ | exact Nat.le_refl _)
set_option maxHeartbeats 1000000 in
theorem cut_61 (w : World) : Calls Tryz.prog 46 #[.string ⟨#[61]⟩] w fun e w' => ∃ ao cv, e = .returned (.tuple #[.slice ao 1 cv, .int .i64 1, .int .i64 0]) ∧ Toks w' (.slice ao 1 cv) [(⟨1, [61], 0, 1, false⟩, 0)] ∧ Below w.heap.size w w' := by
  obtain ⟨i0, hi0, hz0, hs0, hb0⟩ := info_parts infoTokR
  have HO := Lib.hid (one_61 w)
  have hidx : (((⟨#[61]⟩ : ByteArray)[0]'(by decide)).toNat : Int) = 61 := rfl
  go_enter Tryz.func46, Tryz.ntmps46
  go_wp2_with fail
  refine wp_loop_rounds 2 ?_
  rw [rounds_succ]
  go_wp2_with (first | (go_at_call 73; refine (blank_61 _).mono ?_; rintro e w' ⟨rfl, rfl⟩) | fail)
  (go_wp2_with fail; go_fit (HO.out); rintro e w2 ⟨rfl, hb2⟩)
  obtain ⟨w3, hw3, hb3, hz3, hx3⟩ := box_new w2 #[.int .i64 1, .string ⟨#[61]⟩, .int .i64 0, .bool false, .int .i64 0] 110
  have HB3 := Lib.hid (Ext.trans' hb2 hb3)
  have hsz3 := HB3.out.size
  obtain ⟨r0, r1, r2, r3, r4, rf⟩ := hx3.five
  have HX3 := Lib.hid hx3
  have hwz : w.heap.size ≤ w2.heap.size := hb2.size
  have HW3 := Lib.hid hw3
  clear hb2 hb3 hz3 hx3 hw3
  go_upto_region 18 with fail
  rw [HW3.out]
  go_wp2_with (at_builtin; refine wpList_append_k rfl _ _ 102 rfl w.heap.size 110 i0 (.agg #[.int .i64 0, .string ⟨#[]⟩, .int .i64 0, .bool false, .int .i64 0]) 5 48 Tryz.underlying102 hi0 hz0 hs0 (by decide) hb0 rfl (.slice none 0 0) 0 [] rfl (World.ownsRow_nil _ _ _ _) (some ⟨w3.heap.size, 0, none⟩) 1 1 [.int .i64 1, .string ⟨#[61]⟩, .int .i64 0, .bool false, .int .i64 0] rfl rfl (Or.inr ⟨_, rfl, fun j u hu => cell_new w3 #[.int .i64 1, .string ⟨#[61]⟩, .int .i64 0, .bool false, .int .i64 0] _ j u hu⟩) (by simp [Value.oneCell']) (by unfold maxLen; omega) (by omega) (by simp; omega) 1 [.int .i64 1, .string ⟨#[61]⟩, .int .i64 0, .bool false, .int .i64 0] rfl rfl ?_; intro a7 c7 w7 hown7 hgrow7 hat7)
  have hr : w7.ownsRow w.heap.size 110 5 (.slice a7 1 c7) ([(⟨1, [61], 0, 1, false⟩, 0)] : List (TokB × Nat)).length (([(⟨1, [61], 0, 1, false⟩, 0)] : List (TokB × Nat)).flatMap tCells) := hown7
  have HTk := Lib.hid (Elems.owned tCells_len hr)
  have HB7 := Lib.hid ((Ext.trans' HB3.out (bel1' w3 _)).grown hgrow7 (by simp; omega) (fun _ h => by cases h))
  clear hown7 hgrow7 hat7 hr
  rw [rounds_succ]
  go_wp2
  go_ret3
  exact ⟨_, _, rfl, HTk.out, HB7.out⟩
set_option maxHeartbeats 1000000 in
theorem plain_61 (w : World) : Calls Tryz.prog 92 #[.string ⟨#[61]⟩] w fun e w' => e = .returned (.bool true) ∧ Below w.heap.size w w' := by
  have HC := Lib.hid (cut_61 w)
  go_enter Tryz.func92, Tryz.ntmps92
  (go_wp2_with fail; go_fit (HC.out); rintro e w1 ⟨ao, cv, rfl, htk, b1⟩)
  obtain ⟨b, off, rfl, hb, d0, d1, d2, d3, d4⟩ := htk.cells (k := 0) (x := (⟨1, [61], 0, 1, false⟩, 0)) rfl
  replace d0 : w1.cell? ⟨b, off, none⟩ = some (.int .i64 1) := d0
  replace d1 : w1.cell? ⟨b, off + 1, none⟩ = some (.string ⟨#[61]⟩) := d1
  have B1 := Lib.hid b1
  clear htk b1 d2 d3 d4
  go_wp2
  go_ret
  exact ⟨rfl, B1.out⟩
theorem quote_61 (w : World) : Calls Tryz.prog 62 #[.string ⟨#[61]⟩] w fun e w' => e = .returned (.string ⟨#[61]⟩) ∧ Below w.heap.size w w' := by
  have HC := Lib.hid (plain_61 w)
  go_enter Tryz.func62, Tryz.ntmps62
  (go_wp2_with fail; go_fit (HC.out); rintro e w1 ⟨rfl, b1⟩)
  go_wp2
  go_ret
  exact ⟨rfl, b1⟩
theorem ends_43 (w : World) : Calls Tryz.prog 107 #[.string ⟨#[43]⟩, .int .i64 0] w fun e w' => e = .returned (.bool false) ∧ w = w' := by
  go_enter Tryz.func107, Tryz.ntmps107
  go_wp2
  go_ret
  exact ⟨rfl, rfl⟩
set_option maxHeartbeats 600000 in
theorem one_43 (w : World) : Calls Tryz.prog 74 #[.string ⟨#[43]⟩, .int .i64 0] w fun e w' => e = .returned (.tuple #[.agg #[.int .i64 1, .string ⟨#[43]⟩, .int .i64 0, .bool false, .int .i64 0], .int .i64 1, .int .i64 0]) ∧ Below w.heap.size w w' := by
  obtain ⟨w1, hw1, hb1, hz1, hx1⟩ := box_new w #[.int .i64 0, .string ⟨#[]⟩, .int .i64 0, .bool false, .int .i64 0] 110
  obtain ⟨r0, r1, r2, r3, r4, rf⟩ := hx1.five
  have hidx : (((⟨#[43]⟩ : ByteArray)[0]'(by decide)).toNat : Int) = 43 := rfl
  go_enter Tryz.func74, Tryz.ntmps74
  go_wp2_with fail
  (try rw [hw1])
  clear hw1 hz1 hx1
  go_wp2_with (first | (go_at_call 101; refine (small_43 _).mono ?_; rintro e w' ⟨rfl, rfl⟩) | (go_at_call 102; refine (great_43 _).mono ?_; rintro e w' ⟨rfl, rfl⟩) | (go_at_call 104; refine (digit_43 _).mono ?_; rintro e w' ⟨rfl, rfl⟩) | (go_at_call 108; refine (symbol_43 _).mono ?_; rintro e w' ⟨rfl, rfl⟩) | (go_at_call 107; refine (ends_43 _).mono ?_; rintro e w' ⟨rfl, rfl⟩) | fail)
  refine wp_loop_rounds 2 ?_
  rw [rounds_succ]
  go_wp2_with (first | (go_at_call 101; refine (small_43 _).mono ?_; rintro e w' ⟨rfl, rfl⟩) | (go_at_call 102; refine (great_43 _).mono ?_; rintro e w' ⟨rfl, rfl⟩) | (go_at_call 104; refine (digit_43 _).mono ?_; rintro e w' ⟨rfl, rfl⟩) | (go_at_call 108; refine (symbol_43 _).mono ?_; rintro e w' ⟨rfl, rfl⟩) | (go_at_call 107; refine (ends_43 _).mono ?_; rintro e w' ⟨rfl, rfl⟩) | fail)
  rw [rounds_succ]
  go_wp2_with (first | (go_at_call 101; refine (small_43 _).mono ?_; rintro e w' ⟨rfl, rfl⟩) | (go_at_call 102; refine (great_43 _).mono ?_; rintro e w' ⟨rfl, rfl⟩) | (go_at_call 104; refine (digit_43 _).mono ?_; rintro e w' ⟨rfl, rfl⟩) | (go_at_call 108; refine (symbol_43 _).mono ?_; rintro e w' ⟨rfl, rfl⟩) | (go_at_call 107; refine (ends_43 _).mono ?_; rintro e w' ⟨rfl, rfl⟩) | fail)
  refine bodyPost_ret (v := .tuple #[.agg #[.int .i64 1, .string ⟨#[43]⟩, .int .i64 0, .bool false, .int .i64 0], .int .i64 1, .int .i64 0]) (by rw [results_cell3 rfl]; go_simp; (try rfl)) rfl ?_
  refine And.intro rfl ?_
  repeat' (first | with_reducible exact hb1 | with_reducible refine Below.setCell ?_ ?_ _ | exact Nat.le_refl _)
set_option maxHeartbeats 1000000 in
theorem cut_43 (w : World) : Calls Tryz.prog 46 #[.string ⟨#[43]⟩] w fun e w' => ∃ ao cv, e = .returned (.tuple #[.slice ao 1 cv, .int .i64 1, .int .i64 0]) ∧ Toks w' (.slice ao 1 cv) [(⟨1, [43], 0, 1, false⟩, 0)] ∧ Below w.heap.size w w' := by
  obtain ⟨i0, hi0, hz0, hs0, hb0⟩ := info_parts infoTokR
  have HO := Lib.hid (one_43 w)
  have hidx : (((⟨#[43]⟩ : ByteArray)[0]'(by decide)).toNat : Int) = 43 := rfl
  go_enter Tryz.func46, Tryz.ntmps46
  go_wp2_with fail
  refine wp_loop_rounds 2 ?_
  rw [rounds_succ]
  go_wp2_with (first | (go_at_call 73; refine (blank_43 _).mono ?_; rintro e w' ⟨rfl, rfl⟩) | fail)
  (go_wp2_with fail; go_fit (HO.out); rintro e w2 ⟨rfl, hb2⟩)
  obtain ⟨w3, hw3, hb3, hz3, hx3⟩ := box_new w2 #[.int .i64 1, .string ⟨#[43]⟩, .int .i64 0, .bool false, .int .i64 0] 110
  have HB3 := Lib.hid (Ext.trans' hb2 hb3)
  have hsz3 := HB3.out.size
  obtain ⟨r0, r1, r2, r3, r4, rf⟩ := hx3.five
  have HX3 := Lib.hid hx3
  have hwz : w.heap.size ≤ w2.heap.size := hb2.size
  have HW3 := Lib.hid hw3
  clear hb2 hb3 hz3 hx3 hw3
  go_upto_region 18 with fail
  rw [HW3.out]
  go_wp2_with (at_builtin; refine wpList_append_k rfl _ _ 102 rfl w.heap.size 110 i0 (.agg #[.int .i64 0, .string ⟨#[]⟩, .int .i64 0, .bool false, .int .i64 0]) 5 48 Tryz.underlying102 hi0 hz0 hs0 (by decide) hb0 rfl (.slice none 0 0) 0 [] rfl (World.ownsRow_nil _ _ _ _) (some ⟨w3.heap.size, 0, none⟩) 1 1 [.int .i64 1, .string ⟨#[43]⟩, .int .i64 0, .bool false, .int .i64 0] rfl rfl (Or.inr ⟨_, rfl, fun j u hu => cell_new w3 #[.int .i64 1, .string ⟨#[43]⟩, .int .i64 0, .bool false, .int .i64 0] _ j u hu⟩) (by simp [Value.oneCell']) (by unfold maxLen; omega) (by omega) (by simp; omega) 1 [.int .i64 1, .string ⟨#[43]⟩, .int .i64 0, .bool false, .int .i64 0] rfl rfl ?_; intro a7 c7 w7 hown7 hgrow7 hat7)
  have hr : w7.ownsRow w.heap.size 110 5 (.slice a7 1 c7) ([(⟨1, [43], 0, 1, false⟩, 0)] : List (TokB × Nat)).length (([(⟨1, [43], 0, 1, false⟩, 0)] : List (TokB × Nat)).flatMap tCells) := hown7
  have HTk := Lib.hid (Elems.owned tCells_len hr)
  have HB7 := Lib.hid ((Ext.trans' HB3.out (bel1' w3 _)).grown hgrow7 (by simp; omega) (fun _ h => by cases h))
  clear hown7 hgrow7 hat7 hr
  rw [rounds_succ]
  go_wp2
  go_ret3
  exact ⟨_, _, rfl, HTk.out, HB7.out⟩
set_option maxHeartbeats 1000000 in
theorem plain_43 (w : World) : Calls Tryz.prog 92 #[.string ⟨#[43]⟩] w fun e w' => e = .returned (.bool true) ∧ Below w.heap.size w w' := by
  have HC := Lib.hid (cut_43 w)
  go_enter Tryz.func92, Tryz.ntmps92
  (go_wp2_with fail; go_fit (HC.out); rintro e w1 ⟨ao, cv, rfl, htk, b1⟩)
  obtain ⟨b, off, rfl, hb, d0, d1, d2, d3, d4⟩ := htk.cells (k := 0) (x := (⟨1, [43], 0, 1, false⟩, 0)) rfl
  replace d0 : w1.cell? ⟨b, off, none⟩ = some (.int .i64 1) := d0
  replace d1 : w1.cell? ⟨b, off + 1, none⟩ = some (.string ⟨#[43]⟩) := d1
  have B1 := Lib.hid b1
  clear htk b1 d2 d3 d4
  go_wp2
  go_ret
  exact ⟨rfl, B1.out⟩
theorem quote_43 (w : World) : Calls Tryz.prog 62 #[.string ⟨#[43]⟩] w fun e w' => e = .returned (.string ⟨#[43]⟩) ∧ Below w.heap.size w w' := by
  have HC := Lib.hid (plain_43 w)
  go_enter Tryz.func62, Tryz.ntmps62
  (go_wp2_with fail; go_fit (HC.out); rintro e w1 ⟨rfl, b1⟩)
  go_wp2
  go_ret
  exact ⟨rfl, b1⟩
end Go.Proofs.YtllpdciehoenaaaGreatDoor
