/- The document's LabelText. -/
import Derived.Test.YtpmjpnapokhkaaaRefB
namespace Go.Proofs.Ytpmjpnapokhkaaa
open Go.RowKit
set_option linter.unusedVariables false
set_option maxRecDepth 100000
theorem sel_snoc : ∀ (a : List (List UInt8)) (x : List UInt8) (l i : Nat), sel (a ++ [x]) l i = sel a l i ++ (if l.testBit (i + a.length) then [x] else [])
  | [], x, l, i => by simp [sel]
  | b :: a, x, l, i => by
    have ih := sel_snoc a x l (i + 1)
    simp only [List.cons_append, sel, List.length_cons]
    rw [ih, show i + 1 + a.length = i + (a.length + 1) by omega]
    cases l.testBit i <;> simp
theorem take_snoc {n : List (List UInt8)} {k : Nat} {x : List UInt8} (h : n[k]? = some x) : n.take (k + 1) = n.take k ++ [x] := by
  rw [List.take_add_one, h]; rfl
theorem join_snoc : ∀ (xs : List (List UInt8)) (x : List UInt8), Lib.join (xs ++ [x]) [44] = if xs = [] then x else Lib.join xs [44] ++ ([44] ++ x)
  | [], x => by simp [Lib.join_one]
  | a :: r, x => by
    rw [List.cons_append, Lib.join_cons, Lib.join_cons, if_neg (by simp)]
    simp [Lib.joinTail]
theorem join_empty {xs : List (List UInt8)} (h : ∀ x ∈ xs, x ≠ []) : Lib.join xs [44] = [] ↔ xs = [] := by
  cases xs with
  | nil => simp [Lib.join_nil]
  | cons a r => rw [Lib.join_cons]; simp [h a (by simp)]
/-- What the loop has: the names so far that the label has, joined. -/
def SoFar (n : List (List UInt8)) (l k : Nat) (q : ByteArray) : Prop := bl q = Lib.join (sel (n.take k) l 0) [44]
theorem soFar_skip {n : List (List UInt8)} {l k : Nat} {q : ByteArray} {x : List UInt8} (hx : n[k]? = some x) (h : SoFar n l k q) (hb : l.testBit k = false) : SoFar n l (k + 1) q := by
  have hk : (n.take k).length = k := by rw [List.length_take]; have := (List.getElem?_eq_some_iff.1 hx).1; omega
  unfold SoFar
  rw [take_snoc hx, sel_snoc, hk, Nat.zero_add, hb, if_neg (by simp), List.append_nil]; exact h
theorem soFar_first {n : List (List UInt8)} {l k : Nat} {q x : ByteArray} (hn : ∀ y ∈ n, y ≠ []) (hx : n[k]? = some (bl x)) (h : SoFar n l k q) (hb : l.testBit k = true) (hq : bl q = []) : SoFar n l (k + 1) (q ++ x) := by
  have hk : (n.take k).length = k := by rw [List.length_take]; have := (List.getElem?_eq_some_iff.1 hx).1; omega
  unfold SoFar at *
  have he : sel (n.take k) l 0 = [] := (join_empty (fun y hy => hn y (List.mem_of_mem_take (sel_sub hy)))).1 (by rw [← h, hq])
  rw [take_snoc hx, sel_snoc, hk, Nat.zero_add, hb, if_pos rfl, he, List.nil_append, Lib.join_one]
  show (q ++ x).data.toList = _
  rw [show (q ++ x).data.toList = bl q ++ bl x by simp [bl], hq]; rfl
theorem soFar_more {n : List (List UInt8)} {l k : Nat} {q x : ByteArray} (hn : ∀ y ∈ n, y ≠ []) (hx : n[k]? = some (bl x)) (h : SoFar n l k q) (hb : l.testBit k = true) (hq : bl q ≠ []) : SoFar n l (k + 1) (q ++ ⟨#[44]⟩ ++ x) := by
  have hk : (n.take k).length = k := by rw [List.length_take]; have := (List.getElem?_eq_some_iff.1 hx).1; omega
  unfold SoFar at *
  have he : sel (n.take k) l 0 ≠ [] := fun e => hq (by rw [h, e]; rfl)
  rw [take_snoc hx, sel_snoc, hk, Nat.zero_add, hb, if_pos rfl, join_snoc, if_neg he, ← h]
  show (q ++ ⟨#[44]⟩ ++ x).data.toList = _
  simp [bl]
theorem size_cat (a b : ByteArray) : (a ++ b).size = a.size + b.size := by simp
set_option maxHeartbeats 1000000 in
theorem rtext_any {v : Value} {ss : List ByteArray} {w : World} (l : Nat) (hl : l < 18446744073709551616) (h : Strs w v ss) :
    Calls Try.prog 12 #[v, .int .u64 l] w fun e w' => e = .returned (.string ⟨(text (ss.map bl) l).toArray⟩) ∧ Below w.heap.size w w' := by
  have F := @rfits_any v ss w l hl h
  cases hf : fits (ss.map bl) l
  · rw [hf] at F
    have ht : (⟨(text (ss.map bl) l).toArray⟩ : ByteArray) = ⟨#[]⟩ := by rw [text_no hf]
    rw [ht]
    clear hf ht
    go_enter Try.func12, Try.ntmps12
    (go_wp2_with fail; go_fit (F); rintro e w1 ⟨rfl, b1⟩)
    go_wp2
    go_ret
    exact ⟨rfl, b1⟩
  · rw [hf] at F
    have hg : goodNames (ss.map bl) = true := by simp [fits] at hf; exact hf.1
    have hn64 := (goodNames_len hg).2
    have hgood : Hid (∀ y ∈ ss.map bl, y ≠ [] ∧ y.length ≤ 16) := Lib.hid (fun y hy => ⟨(good_words (goodNames_name hg hy)).2, (goodName_len (goodNames_name hg hy)).2⟩)
    generalize hT : text (ss.map bl) l = T
    have HT : Hid (T = 123 :: (Lib.join (sel (ss.map bl) l 0) [44] ++ [125])) := Lib.hid (by rw [← hT]; exact text_yes hf)
    have H6 := Lib.hid h
    obtain ⟨a, cap, rfl, hlc, h3, h4, h5, h6⟩ := h
    rcases h6 with rfl | ⟨b, off, rfl, hbl, hc⟩
    · exact absurd hg (by decide)
    have HC := Lib.hid hc
    have HL := Lib.hid (show ss.length = (ss.map bl).length by simp)
    rw [List.length_map] at hn64
    generalize hn : ss.length = n at *
    have HN := Lib.hid hn
    clear hc hn hf hg hT h5
    go_enter Try.func12, Try.ntmps12
    (go_wp2_with fail; go_fit (F); rintro e w1 ⟨rfl, b1⟩)
    go_wp2
    go_loop [5, 6] (fun s i => ∃ (k : Nat) (q : ByteArray), k ≤ n ∧ i = .int .i64 k ∧ s = .string q ∧ q.size ≤ 17 * k ∧ Hid (SoFar (ss.map bl) l k q)) (fun _ i => n - (intOf i).toNat)
    case atStart => exact ⟨0, ⟨#[]⟩, by omega, rfl, rfl, by decide, Lib.hid rfl⟩
    case round =>
      obtain ⟨k, q, hk, rfl, rfl, hqs, H⟩ := hrel
      by_cases hlt : k < n
      · obtain ⟨x, hx⟩ : ∃ x, ss[k]? = some x := ⟨_, List.getElem?_eq_getElem (by rw [HN.out]; exact hlt)⟩
        have hx' : (ss.map bl)[k]? = some (bl x) := by simp [hx]
        have hcx := cell_later b1 (HC.out k x hx)
        have hxg := hgood.out (bl x) (List.mem_of_getElem? hx')
        have hxs : x.size ≤ 16 := hxg.2
        have D := fun w => rhas l k w hl (by omega)
        cases hb : l.testBit k
        · rw [hb] at D
          have HNx := Lib.hid (soFar_skip hx' H.out hb)
          clear hb hx hx' hxg
          (go_wp2_with fail; go_fit (D _); rintro e w' ⟨rfl, rfl⟩)
          go_wp2
          go_round
          case rel => exact ⟨k + 1, q, by omega, by go_num, rfl, by omega, HNx⟩
          case measure => simp [intOf]; omega
        · rw [hb] at D
          by_cases hq0 : q.size = 0
          · have HNx := Lib.hid (soFar_first (fun y hy => (hgood.out y hy).1) hx' H.out hb (bl_nil hq0))
            obtain rfl : q = ⟨#[]⟩ := bl_inj (bl_nil hq0)
            have hsz : ((⟨#[]⟩ : ByteArray) ++ x).size ≤ 17 * (k + 1) := by rw [size_cat]; have : (⟨#[]⟩ : ByteArray).size = 0 := rfl; omega
            clear hb hx hx' hxg hq0 H
            generalize hy : (⟨#[]⟩ : ByteArray) ++ x = y at HNx hsz
            (go_wp2_with fail; go_fit (D _); rintro e w' ⟨rfl, rfl⟩)
            go_wp2
            go_round
            case rel => exact ⟨k + 1, y, by omega, by go_num, by first | (rw [← hy]; done) | (rw [← hy]; rfl) | (rw [← hy]; simp), hsz, HNx⟩
            case measure => simp [intOf]; omega
          · have hqn : bl q ≠ [] := fun e => hq0 (by rw [← bl_len, e]; rfl)
            have HNx := Lib.hid (soFar_more (fun y hy => (hgood.out y hy).1) hx' H.out hb hqn)
            have hsz : (q ++ (⟨#[44]⟩ : ByteArray) ++ x).size ≤ 17 * (k + 1) := by rw [size_cat, size_cat]; have : (⟨#[44]⟩ : ByteArray).size = 1 := rfl; omega
            have e0 : q.toList.isEmpty = false := by rw [Lib.toList_data]; cases h : q.data.toList with
              | nil => exact absurd h hqn
              | cons a r => rfl
            have e1 : ¬ q.toList = [] := by rw [Lib.toList_data]; exact hqn
            clear hb hx hx' hxg hq0 H hqn
            (go_wp2_with fail; go_fit (D _); rintro e w' ⟨rfl, rfl⟩)
            go_wp2
            go_round
            case rel => exact ⟨k + 1, _, by omega, by go_num, rfl, hsz, HNx⟩
            case measure => simp [intOf]; omega
      · obtain rfl : k = n := by omega
        have hfin : (⟨#[123]⟩ : ByteArray) ++ q ++ ⟨#[125]⟩ = ⟨T.toArray⟩ := bl_inj (by
          have h1 := H.out
          unfold SoFar at h1
          rw [List.take_of_length_le (by rw [← HL.out]; exact Nat.le_refl _)] at h1
          show (_ ++ q ++ _ : ByteArray).data.toList = T.toArray.toList
          rw [HT.out, ← h1]
          simp [bl])
        have HF := Lib.hid hfin; clear hfin H
        go_wp2
        go_ret
        exact ⟨ret_str HF.out, b1⟩
end Go.Proofs.Ytpmjpnapokhkaaa
