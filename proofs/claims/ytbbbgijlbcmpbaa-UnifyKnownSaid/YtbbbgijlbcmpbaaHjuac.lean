import Derived.Test.YtbbbgijlbcmpbaaHjuab
import Derived.Test.YtbbbgijlbcmpbaaHjuaa
import Derived.Deep.RegionHeld3
import Derived.Deep.Quiet
import Derived.Lib.Strings
import Derived.Deep.QuietTactic
set_option linter.unusedVariables false
set_option linter.unusedSimpArgs false
/- Package bind in memory: its block, its slots, its trail; given, Len, Mark. -/
namespace Go.Proofs.Ytbbbgijlbcmpbaa
open Go.RowKit
set_option linter.unusedVariables false

/-- What a variable's slot holds. -/
abbrev SlP := Option TmP
def slCells : SlP → List Value
  | none => [.bool false, .int .i64 0, .int .i64 0, .string ⟨#[]⟩, .slice none 0 0]
  | some p => .bool true :: pCells p
theorem slCells_len (s : SlP) : (slCells s).length = 5 := by cases s <;> rfl
theorem infoSlot : (Try.prog.info? 89).map (fun i => (i.zero, i.size, i.bytes)) = some (some (.agg #[.bool false, .int .i64 0, .int .i64 0, .string ⟨#[]⟩, .slice none 0 0]), 5, 64) := by kernel_rfl
/-- V sees none of these blocks. -/
def Blind (V : World) (F : List Nat) : Prop := ∀ a : Addr, a.block ∈ F → V.cell? a = none
theorem Stays.later {V w w' : World} (h : Stays V w) (hb : Below w.heap.size w w') : Stays V w' :=
  ⟨Nat.le_trans h.1 hb.size, fun a v hv => by
    have hc := h.2 a v hv
    rw [World.cell?_of_block (hb.block _ (World.block_lt_of_cell? _ _ hc))]
    exact hc⟩
theorem Stays.touch {V w w' : World} {F : List Nat} (h : Stays V w) (hb : Blind V F) (ht : Touch F w w') : Stays V w' :=
  ⟨Nat.le_trans h.1 ht.size, fun a v hv => by
    have hc := h.2 a v hv
    rw [World.cell?_of_block (ht.block _ (World.block_lt_of_cell? _ _ hc) (fun hm => by rw [hb a hm] at hv; cases hv))]
    exact hc⟩
theorem Blind.new {V w : World} {F : List Nat} (h : Stays V w) (hF : ∀ k ∈ F, w.heap.size ≤ k) : Blind V F := fun a ha => by
  cases hc : V.cell? a with
  | none => rfl
  | some v =>
    have h1 := World.block_lt_of_cell? _ _ hc
    have h2 := hF _ ha
    have h3 := h.1
    omega
theorem Blind.some {V w : World} {F F' : List Nat} (h : Blind V F) (hs : Stays V w) (hF : ∀ k ∈ F', k ∈ F ∨ w.heap.size ≤ k) : Blind V F' := fun a ha => by
  rcases hF _ ha with h1 | h1
  · exact h a h1
  · exact Blind.new (F := [a.block]) hs (fun k hk => by simp at hk; subst hk; exact h1) a (by simp)
/-- The slots hold what the variables stand for. -/
structure SlOK (V : World) (R : List (Int × Tm)) (sl : List SlP) : Prop where
  free : ∀ i : Nat, i < sl.length → getB R i = none → sl[i]? = some none
  held : ∀ (i : Nat) (t : Tm), getB R i = some t → ∃ u, sl[i]? = some (some (t, u)) ∧ TmV V t (pVal (t, u))
def trailV (R : List (Int × Tm)) : List Value := R.reverse.map (fun p => Value.int .i64 p.1)
/-- p is a Binds: N variables, these set, the last first; F: its blocks; what they stand for reads at V. -/
def IsB (V : World) (F : List Nat) (w : World) (p : Value) (N : Nat) (R : List (Int × Tm)) : Prop :=
  ∃ bt v q G sl, p = .pointer (some ⟨bt, 0, none⟩) ∧ F = bt :: (v.ownBlock.toList ++ G) ∧ v.ownBlock ≠ some bt ∧ ¬ bt ∈ G ∧ (∀ k, v.ownBlock = some k → ¬ k ∈ G) ∧
    w.heap[bt]? = some (.cells #[v, q] 93 (0, 0)) ∧ sl.length = N ∧ w.ownsRow 0 89 5 v N (sl.flatMap slCells) ∧ StkL G w q 65536 (trailV R) ∧ SlOK V R sl ∧ Tri N R ∧ N ≤ 65536 ∧ Stays V w ∧ Blind V F
section
variable {V w : World} {F : List Nat} {p : Value} {N : Nat} {R : List (Int × Tm)}
theorem IsB.tri (h : IsB V F w p N R) : Tri N R ∧ N ≤ 65536 := by
  obtain ⟨bt, v, q, G, sl, rfl, rfl, h1, h2, h3, h4, h5, h6, h7, h8, h9, h10, h11, h12⟩ := h
  exact ⟨h9, h10⟩
theorem IsB.see (h : IsB V F w p N R) : Stays V w ∧ Blind V F := by
  obtain ⟨bt, v, q, G, sl, rfl, rfl, h1, h2, h3, h4, h5, h6, h7, h8, h9, h10, h11, h12⟩ := h
  exact ⟨h11, h12⟩
theorem IsB.lt (h : IsB V F w p N R) : ∀ k ∈ F, k < w.heap.size := by
  obtain ⟨bt, v, q, G, sl, rfl, rfl, h1, h2, h3, h4, h5, h6, h7, h8, h9, h10, h11, h12⟩ := h
  intro k hk
  simp only [List.mem_cons, List.mem_append, Option.mem_toList] at hk
  rcases hk with rfl | hk | hk
  · exact (Array.getElem?_eq_some_iff.1 h4).1
  · exact (h6.lt k hk).2
  · exact h7.lt k hk
theorem IsB.keep {w' : World} (h : IsB V F w p N R) (hb : ∀ k ∈ F, w'.heap[k]? = w.heap[k]?) (hs : Stays V w') : IsB V F w' p N R := by
  obtain ⟨bt, v, q, G, sl, rfl, rfl, h1, h2, h3, h4, h5, h6, h7, h8, h9, h10, h11, h12⟩ := h
  exact ⟨bt, v, q, G, sl, rfl, rfl, h1, h2, h3, (hb bt (by simp)).trans h4, h5, owns_row_block h6 (fun k hk => hb k (by simp [hk])), h7.keep (fun k hk => hb k (by simp [hk])), h8, h9, h10, hs, h12⟩
theorem IsB.ext {w' : World} (h : IsB V F w p N R) (hb : Below w.heap.size w w') : IsB V F w' p N R := h.keep (fun k hk => hb.block k (h.lt k hk)) (h.see.1.later hb)
/-- The same, seen from where more is seen. -/
theorem IsB.from {V' : World} (h : IsB V F w p N R) (hv : Stays V V') (hs : Stays V' w) (hb : Blind V' F) : IsB V' F w p N R := by
  obtain ⟨bt, v, q, G, sl, rfl, rfl, h1, h2, h3, h4, h5, h6, h7, h8, h9, h10, h11, h12⟩ := h
  exact ⟨bt, v, q, G, sl, rfl, rfl, h1, h2, h3, h4, h5, h6, h7, ⟨h8.free, fun i t hi => by
    obtain ⟨u, e1, e2⟩ := h8.held i t hi
    exact ⟨u, e1, TmV.stay hv _ _ e2⟩⟩, h9, h10, hs, hb⟩
/-- Its cells. -/
theorem IsB.open (h : IsB V F w p N R) : ∃ bt a c bs, p = .pointer (some ⟨bt, 0, none⟩) ∧ bt < w.heap.size ∧ w.cell? ⟨bt, 0, none⟩ = some (.slice a N c) ∧ w.cell? ⟨bt, 1, none⟩ = some (.pointer (some ⟨bs, 0, none⟩)) ∧ N ≤ c ∧ c ≤ maxLen ∧
    ∀ n : Nat, n < N → ∃ g, a = some ⟨g, 0, none⟩ ∧ ((getB R n = none ∧ w.cell? ⟨g, n * 5, none⟩ = some (.bool false)) ∨
      ∃ t k m s au l cu, getB R n = some t ∧ w.cell? ⟨g, n * 5, none⟩ = some (.bool true) ∧ w.cell? ⟨g, n * 5 + 1, none⟩ = some (.int .i64 k) ∧ w.cell? ⟨g, n * 5 + 2, none⟩ = some (.int .i64 m) ∧ w.cell? ⟨g, n * 5 + 3, none⟩ = some (.string s) ∧ w.cell? ⟨g, n * 5 + 4, none⟩ = some (.slice au l cu) ∧ TmV V t (.agg #[.int .i64 k, .int .i64 m, .string s, .slice au l cu])) := by
  obtain ⟨bt, v, q, G, sl, rfl, rfl, h1, h2, h3, h4, h5, h6, h7, h8, h9, h10, h11, h12⟩ := h
  obtain ⟨bs, hq⟩ : ∃ bs, q = .pointer (some ⟨bs, 0, none⟩) := by obtain ⟨bs, _, rfl, _⟩ := h7; exact ⟨bs, rfl⟩
  subst hq
  have hr := h6
  rw [← h5] at hr
  have hel := Elems.owned slCells_len hr
  obtain ⟨a, c, rfl, e1, e2, e3⟩ := hel
  rw [h5] at e1 h4
  refine ⟨bt, a, c, bs, rfl, (Array.getElem?_eq_some_iff.1 h4).1, by simp [blk_cell h4], by simp [blk_cell h4], e1, e2, fun n hn => ?_⟩
  rcases e3 with rfl | ⟨b, off, rfl, hb, hc⟩
  · simp at h5; omega
  · have ho : off = 0 := by
      rcases h6.2 with ⟨e, _⟩ | ⟨g, cap, cur, e, _⟩
      · cases e
      · cases e; rfl
    subst ho
    refine ⟨b, rfl, ?_⟩
    cases hg : getB R n with
    | none =>
      left
      have := hc n none (h8.free n (by omega) hg) 0 (.bool false) rfl
      rw [Nat.zero_add] at this
      exact ⟨rfl, this⟩
    | some t =>
      right
      obtain ⟨u, s1, s2⟩ := h8.held n t hg
      obtain ⟨k, m, s, au, l, cu, hv⟩ := s2.full
      have hv' := hv
      simp only [pVal, Value.agg.injEq] at hv'
      have h2' := congrArg Array.toList hv'
      simp only [List.cons.injEq, and_true] at h2'
      obtain ⟨q0, q1, q2, rfl⟩ := h2'
      rw [hv] at s2
      have g0 := hc n _ s1 0 (.bool true) rfl
      have g1 := hc n _ s1 1 _ rfl
      have g2 := hc n _ s1 2 _ rfl
      have g3 := hc n _ s1 3 _ rfl
      have g4 := hc n _ s1 4 _ rfl
      rw [q0] at g1
      rw [q1] at g2
      rw [q2] at g3
      simp only [Nat.zero_add, Nat.add_zero] at g0 g1 g2 g3 g4
      exact ⟨t, k, m, s, au, l, cu, rfl, g0, g1, g2, g3, g4, s2⟩
theorem given_at (h : IsB V F w p N R) (n : Int) (hn : I64 n) : Calls Try.prog 66 #[p, .int .i64 n] w fun e w' => e = .returned (.bool (decide (0 ≤ n) && decide (n < N))) ∧ w = w' := by
  have hN := h.tri.2
  obtain ⟨bt, a, c, bs, rfl, hlt, c0, c1, h1, h2, hs⟩ := h.open
  clear hs h
  unfold I64 at hn
  by_cases g : 0 ≤ n
  · by_cases g2 : n < N
    · have hr : (decide (0 ≤ n) && decide (n < N)) = true := by simp [g, g2]
      rw [hr]
      go_enter Try.func66, Try.ntmps66
      go_wp2
      go_ret
      exact ⟨rfl, rfl⟩
    · have hr : (decide (0 ≤ n) && decide (n < N)) = false := by simp [g2]
      rw [hr]
      have g3 : decide (n < N) = false := by simpa using g2
      go_enter Try.func66, Try.ntmps66
      go_wp2
      go_ret
      exact ⟨rfl, rfl⟩
  · have hr : (decide (0 ≤ n) && decide (n < N)) = false := by simp [g]
    rw [hr]
    go_enter Try.func66, Try.ntmps66
    go_wp2
    go_ret
    exact ⟨rfl, rfl⟩
theorem Len_at (h : IsB V F w p N R) : Calls Try.prog 26 #[p] w fun e w' => e = .returned (.int .i64 N) ∧ w = w' := by
  obtain ⟨bt, a, c, bs, rfl, hlt, c0, c1, h1, h2, hs⟩ := h.open
  clear hs h
  go_enter Try.func26, Try.ntmps26
  go_wp2
  go_ret
  exact ⟨rfl, rfl⟩
theorem Mark_at (h : IsB V F w p N R) : Calls Try.prog 43 #[p] w fun e w' => e = .returned (.int .i64 R.length) ∧ w = w' := by
  have hM : ∀ bt a c bs, p = .pointer (some ⟨bt, 0, none⟩) → w.cell? ⟨bt, 0, none⟩ = some (.slice a N c) → w.cell? ⟨bt, 1, none⟩ = some (.pointer (some ⟨bs, 0, none⟩)) → ∃ G, StkL G w (.pointer (some ⟨bs, 0, none⟩)) 65536 (trailV R) := by
    intro bt a c bs e e0 e1
    obtain ⟨bt, v, q, G, sl, rfl, rfl, h1, h2, h3, h4, h5, h6, h7, _⟩ := h
    cases e
    have : w.cell? ⟨bt, 1, none⟩ = some q := by simp [blk_cell h4]
    rw [e1] at this
    cases this
    exact ⟨G, h7⟩
  obtain ⟨bt, a, c, bs, rfl, hlt, c0, c1, h1, h2, hs⟩ := h.open
  obtain ⟨G, hG⟩ := hM _ _ _ _ rfl c0 c1
  have hl : (trailV R).length = R.length := by simp [trailV]
  have M := markL hG
  rw [hl] at M
  clear hs h hM hG hl
  go_enter Try.func43, Try.ntmps43
  (go_wp2_with fail; go_fit (M); rintro e w' ⟨rfl, rfl⟩)
  go_wp2
  go_ret
  exact ⟨rfl, rfl⟩
end
end Go.Proofs.Ytbbbgijlbcmpbaa
/- Package term: Size. -/
namespace Go.Proofs.Ytbbbgijlbcmpbaa
open Go.RowKit
set_option linter.unusedVariables false

theorem sizes_drop' : ∀ {ts : List Tm} {i : Nat} {y : Tm}, ts[i]? = some y → sizesN (ts.take (i + 1)) = sizesN (ts.take i) + sizeN y
  | x :: r, 0, y, h => by
    simp at h; subst h
    simp [sizesN]
  | x :: r, i + 1, y, h => by
    have := sizes_drop' (ts := r) (i := i) (y := y) (by simpa using h)
    simp only [List.take_succ_cons, sizesN, this]
    omega
  | [], i, y, h => by simp at h
theorem sizes_take' (ts : List Tm) (i : Nat) : sizesN (ts.take i) ≤ sizesN ts := by
  induction ts generalizing i with
  | nil => simp
  | cons x r ih =>
    cases i with
    | zero => simp [sizesN]
    | succ i =>
      simp only [List.take_succ_cons, sizesN]
      have := ih i
      omega
theorem TmV.four {w : World} {x : Tm} {v : Value} (h : TmV w x v) : ∃ k n s u, v = .agg #[.int .i64 k, .int .i64 n, .string s, u] := by
  obtain ⟨u, rfl⟩ := h.pair
  exact ⟨_, _, _, _, rfl⟩
set_option maxHeartbeats 2000000 in
set_option maxRecDepth 100000 in
theorem count_at : ∀ (N : Nat) (x : Tm), sizeN x ≤ N → ∀ (q : Nat), 1 ≤ q → q ≤ 1000000 → ∀ (w : World) (v : Value), TmV w x v →
    Calls Try.prog 93 #[v, .int .i64 q] w fun e w' => e = .returned (.int .i64 (min (sizeN x) q : Nat)) ∧ Below w.heap.size w w'
  | 0, x, h, q, hq1, hq, w, v, hv => by have := size_pos x; omega
  | N + 1, .mk k n s ts, h, q, hq1, hq, w, v, hv => by
    obtain ⟨u, rfl, hs, hk, hn, hu⟩ := tmV_iff.1 hv
    obtain ⟨a, c, rfl, h1, h2, h3⟩ := hu.len
    unfold BIG at h3
    obtain ⟨m, hm⟩ : ∃ m, ts.length = m := ⟨_, rfl⟩
    have IH := Lib.hid (fun (y : Tm) (hy : y ∈ ts) => count_at N y (mem_size h hy))
    have HU := Lib.hid hu
    have HM := Lib.hid hm
    rw [hm] at h1 h3 hu HU ⊢
    obtain ⟨r, hr⟩ : ∃ r, min (sizeN (.mk k n s ts)) q = r := ⟨_, rfl⟩
    rw [hr]
    have HR := Lib.hid (show min (sizesN ts + 1) q = r by rw [← hr, sizeN])
    clear hv hu hm hr h
    go_enter Try.func93, Try.ntmps93
    go_wp2_with fail
    go_loopw [5, 11] (fun z v wr => ∃ i t : Nat, i ≤ m ∧ v = .int .i64 i ∧ z = .int .i64 t ∧ Hid (t = min (sizesN (ts.take i) + 1) q) ∧ t ≤ q ∧ Hid (Below (w.alloc (.cells #[.int .i64 k, .int .i64 n, .string s, .slice a m c] 31)).heap.size (w.alloc (.cells #[.int .i64 k, .int .i64 n, .string s, .slice a m c] 31)) wr)) (fun _ v _ => m - (intOf v).toNat)
    case atStart => exact ⟨0, 1, Nat.zero_le _, rfl, rfl, Lib.hid (by simp [sizesN]; omega), by omega, Lib.hid (Below.refl _ _)⟩
    case round =>
      obtain ⟨i, t, hi, rfl, rfl, HT, ht, HB⟩ := hrel
      have HBW := Lib.hid (Ext.trans' (bel1' w _) HB.out)
      by_cases hil : i < m
      · obtain ⟨y, hy⟩ : ∃ y, ts[i]? = some y := ⟨_, List.getElem?_eq_getElem (by rw [HM.out]; exact hil)⟩
        have hst := sizes_take' ts (i + 1)
        have hds := sizes_drop' hy
        obtain ⟨b, off, k', n', s', u', rfl, hbb, _, _, _, c0, c1, c2, c3, htu, hty⟩ := (HU.out.ext HBW.out).get hy
        obtain ⟨au, cu, rfl, _⟩ := htu.len
        clear htu
        by_cases htq : t < q
        · obtain ⟨d, hd⟩ : ∃ d, q - t = d := ⟨_, rfl⟩
          have hqt : (q : Int) - t = d := by omega
          have htq' : ((t : Int) == q) = false := by apply beq_false_of_ne; omega
          have HNE := Lib.hid (show ¬ t = q by omega)
          have ih := IH.out y (List.mem_of_getElem? hy) d (by omega) (by omega) _ _ (TmV.ext (bel1' wr (box4 k' n' s' (.slice au y.args.length cu) 31)) _ _ hty)
          obtain ⟨z, hz⟩ : ∃ z, min (sizeN y) d = z := ⟨_, rfl⟩
          rw [hz] at ih
          have HN : Hid (t + z = min (sizesN (ts.take (i + 1)) + 1) q) := Lib.hid (by
            have := HT.out
            rw [hds]
            omega)
          have hzd : z ≤ d := by omega
          have hzq : t + z ≤ q := by omega
          clear hst hds hz hy hty hd HT
          (go_wp2_with fail; go_fit (ih); rintro e w2 ⟨rfl, b2⟩)
          have B2 := Lib.hid (Ext.trans' HB.out (Ext.trans' (bel1' _ _) b2))
          clear b2
          go_wp2
          go_roundw
          case rel => exact ⟨i + 1, t + z, by omega, by go_num, by go_num, HN, hzq, B2⟩
          case measure => simp [intOf]; omega
        · have hrt : q = r := by
            have a1 := HT.out
            have a2 := HR.out
            have a3 := sizes_take' ts i
            omega
          have htq2 : t = q := by omega
          subst hrt htq2
          clear hst hds hy hty
          go_wp2
          go_ret
          exact ⟨rfl, Ext.trans' HBW.out (bel1' _ _)⟩
      · have hrt : t = r := by
          have a1 := HT.out
          have a2 := HR.out
          rw [List.take_of_length_le (by rw [HM.out]; omega)] at a1
          omega
        subst hrt
        go_wp2
        go_ret
        exact ⟨rfl, HBW.out⟩
theorem size_at (x : Tm) (w : World) (v : Value) (hv : TmV w x v) : Calls Try.prog 64 #[v] w fun e w' => e = .returned (.int .i64 (min (sizeN x) 2001 : Nat)) ∧ Below w.heap.size w w' := by
  have C := fun w (h : TmV w x v) => count_at _ x (Nat.le_refl _) 2001 (by omega) (by omega) w v h
  obtain ⟨z, hz⟩ : ∃ z, min (sizeN x) 2001 = z := ⟨_, rfl⟩
  rw [hz] at C ⊢
  obtain ⟨k, n, s, u, rfl⟩ := hv.four
  have hv0 := TmV.ext (bel1' w (box4 k n s u 31)) _ _ hv
  clear hz hv
  go_enter Try.func64, Try.ntmps64
  (go_wp2_with fail; go_fit (C _ hv0); rintro e w1 ⟨rfl, b1⟩)
  have B1 := Lib.hid (Ext.trans' (bel1' w _) b1)
  clear b1
  go_wp2
  go_ret
  exact ⟨rfl, B1.out⟩
end Go.Proofs.Ytbbbgijlbcmpbaa
/- Package term: what fits. -/
namespace Go.Proofs.Ytbbbgijlbcmpbaa
open Go.RowKit
set_option linter.unusedVariables false

theorem isEmpty_size' (s : ByteArray) : s.data.toList.isEmpty = decide (s.size = 0) := by
  have h : s.data.toList.length = s.size := rfl
  cases hq : s.data.toList with
  | nil => rw [hq] at h; simp at h; simp [← h]
  | cons a r =>
    rw [hq, List.length_cons] at h
    rw [decide_eq_false (by omega)]
    rfl
theorem toList_empty' {s : ByteArray} (h : s.size = 0) : s.toList.isEmpty = true := by rw [Lib.toList_data, isEmpty_size']; simpa using h
theorem toList_some' {s : ByteArray} (h : ¬ s.size = 0) : s.toList.isEmpty = false := by rw [Lib.toList_data, isEmpty_size']; simpa using h
theorem letter_eq' : ∀ c : UInt8, letterB c = (((c.toNat : Int) == 9) || ((c.toNat : Int) == 10) || (!decide ((c.toNat : Int) < 32) && !decide (126 < (c.toNat : Int)))) := by
  intro c
  have h : ((List.range 256).all fun n => letterB (UInt8.ofNat n) == ((((UInt8.ofNat n).toNat : Int) == 9) || (((UInt8.ofNat n).toNat : Int) == 10) || (!decide (((UInt8.ofNat n).toNat : Int) < 32) && !decide (126 < ((UInt8.ofNat n).toNat : Int))))) = true := by decide +kernel
  have hc := List.all_eq_true.1 h c.toNat (List.mem_range.2 (UInt8.toNat_lt c))
  rw [UInt8.ofNat_toNat] at hc
  exact eq_of_beq hc
def fitB (s : ByteArray) : Bool := decide (s.size ≤ 64) && s.data.toList.all letterB
set_option maxHeartbeats 2000000 in
theorem fitsName_at (s : ByteArray) (hs : s.size ≤ 140737488351232) (w : World) : Calls Try.prog 111 #[.string s] w fun e w' => e = .returned (.bool (fitB s)) ∧ w = w' := by
  by_cases hbig : 64 < s.size
  · have hr : fitB s = false := by unfold fitB; rw [decide_eq_false (by omega)]; rfl
    rw [hr]
    clear hr
    go_enter Try.func111, Try.ntmps111
    go_wp2
    go_ret
    exact ⟨rfl, rfl⟩
  obtain ⟨r, hr⟩ : ∃ r, fitB s = r := ⟨_, rfl⟩
  rw [hr]
  have HR : Hid (s.data.toList.all letterB = r) := Lib.hid (by rw [← hr]; unfold fitB; rw [decide_eq_true (by omega)]; rfl)
  clear hr
  go_enter Try.func111, Try.ntmps111
  go_wp2_with fail
  go_loop [10] (fun z => ∃ i : Nat, i ≤ s.size ∧ z = .int .i64 i ∧ Hid (∀ j (hj : j < s.size), j < i → letterB s[j] = true)) (fun z => s.size - (intOf z).toNat)
  case atStart => exact ⟨0, Nat.zero_le _, rfl, Lib.hid (fun j _ h => by omega)⟩
  case round =>
    obtain ⟨i, hi, rfl, HL⟩ := hrel
    by_cases hil : i < s.size
    · cases hq : letterB s[i]
      · have hlq := letter_eq' s[i]
        rw [hq] at hlq
        have hall : s.data.toList.all letterB = false := by
          rw [List.all_eq_false]
          exact ⟨s.data.toList[i]'hil, List.getElem_mem _, by show ¬ letterB s[i] = true; rw [hq]; simp⟩
        have hrf : r = false := by rw [← HR.out, hall]
        subst hrf
        obtain ⟨z, hz⟩ : ∃ z : Int, (s[i].toNat : Int) = z := ⟨_, rfl⟩
        rw [hz] at hlq
        have e9 : (z == 9) = false := by
          cases h : (z == 9)
          · rfl
          · rw [h] at hlq; cases hlq
        have e10 : (z == 10) = false := by
          cases h : (z == 10)
          · rfl
          · rw [h, Bool.or_true] at hlq; cases hlq
        rw [e9, e10, Bool.false_or, Bool.false_or] at hlq
        have n9 : (z != 9) = true := by unfold bne; rw [e9]; rfl
        have n10 : (z != 10) = true := by unfold bne; rw [e10]; rfl
        clear e9 e10
        clear hall hq HR HL
        by_cases h32 : z < 32
        · clear hlq
          go_wp2
          go_ret
          exact ⟨rfl, rfl⟩
        · have h126 : 126 < z := by
            simp [h32] at hlq
            omega
          clear hlq
          go_wp2
          go_ret
          exact ⟨rfl, rfl⟩
      · have hlq := letter_eq' s[i]
        rw [hq] at hlq
        have HN : Hid (∀ j (hj : j < s.size), j < i + 1 → letterB s[j] = true) := Lib.hid (fun j hj h => by
          by_cases e : j = i
          · subst e; exact hq
          · exact HL.out j hj (by omega))
        obtain ⟨z, hz⟩ : ∃ z : Int, (s[i].toNat : Int) = z := ⟨_, rfl⟩
        rw [hz] at hlq
        clear hq HL
        by_cases e9 : z = 9
        · subst e9
          clear hlq
          go_wp2
          go_round
          case rel => exact ⟨i + 1, by omega, by go_num, HN⟩
          case measure => simp [intOf]; omega
        have e9' : (z == 9) = false := beq_false_of_ne e9
        by_cases e10 : z = 10
        · subst e10
          clear hlq
          go_wp2
          go_round
          case rel => exact ⟨i + 1, by omega, by go_num, HN⟩
          case measure => simp [intOf]; omega
        have e10' : (z == 10) = false := beq_false_of_ne e10
        rw [e9', e10'] at hlq
        have h32 : ¬ z < 32 := fun hh => by simp [hh] at hlq
        have h126 : ¬ 126 < z := fun hh => by simp [hh] at hlq
        have n9 : (z != 9) = true := by unfold bne; rw [e9']; rfl
        have n10 : (z != 10) = true := by unfold bne; rw [e10']; rfl
        clear hlq e9 e10 e9' e10'
        go_wp2
        go_round
        case rel => exact ⟨i + 1, by omega, by go_num, HN⟩
        case measure => simp [intOf]; omega
    · have hall : s.data.toList.all letterB = true := by
        rw [List.all_eq_true]
        intro x hx
        obtain ⟨j, hj, rfl⟩ := List.getElem_of_mem hx
        exact HL.out j hj (by have : j < s.size := hj; omega)
      have hrt : r = true := by rw [← HR.out, hall]
      subst hrt
      clear hall HR HL
      go_wp2
      go_ret
      exact ⟨rfl, rfl⟩
set_option maxHeartbeats 4000000 in
set_option maxRecDepth 100000 in
theorem fits_at {k n : Int} {s : ByteArray} {a : Option Addr} {m c : Nat} (hs : s.size ≤ 140737488351232) (hn : I64 n) (h1 : m ≤ c) (h2 : c ≤ maxLen) (h3 : m * 56 ≤ 140737488351232) (w : World) :
    Calls Try.prog 103 #[.agg #[.int .i64 k, .int .i64 n, .string s, .slice a m c]] w fun e w' => e = .returned (.bool (plainT k n s.data.toList m)) ∧ Below w.heap.size w w' := by
  have F := fun w => fitsName_at s hs w
  by_cases k0 : k = 0
  · subst k0
    have hp : plainT 0 n s.data.toList m = (decide (0 ≤ n) && decide (n < 2147483648) && decide (s.size = 0) && decide (m = 0)) := by
      unfold plainT; rw [if_pos rfl, isEmpty_size']
    by_cases g1 : 0 ≤ n
    · by_cases g2 : n < 2147483648
      · have g2' : n ≤ 2147483647 := by omega
        by_cases g3 : s.size = 0
        · have g3' := toList_empty' g3
          by_cases g4 : m = 0
          · have hr : plainT 0 n s.data.toList m = true := by rw [hp]; simp [g1, g2, g3, g4]
            rw [hr]
            subst g4
            clear hp g3 hr F
            go_enter Try.func103, Try.ntmps103
            go_wp2
            go_ret
            exact ⟨rfl, bel1' _ _⟩
          · have hr : plainT 0 n s.data.toList m = false := by rw [hp]; simp [g4]
            rw [hr]
            have g4' : ((m : Int) == 0) = false := by apply beq_false_of_ne; omega
            clear hp g3 hr F
            go_enter Try.func103, Try.ntmps103
            go_wp2
            go_ret
            exact ⟨rfl, bel1' _ _⟩
        · have hr : plainT 0 n s.data.toList m = false := by rw [hp]; simp [g3]
          rw [hr]
          have g3' := toList_some' g3
          clear hp hr F
          go_enter Try.func103, Try.ntmps103
          go_wp2
          go_ret
          exact ⟨rfl, bel1' _ _⟩
      · have hr : plainT 0 n s.data.toList m = false := by rw [hp]; simp [g2]
        rw [hr]
        have g2' : ¬ n ≤ 2147483647 := by omega
        clear hp hr F
        go_enter Try.func103, Try.ntmps103
        go_wp2
        go_ret
        exact ⟨rfl, bel1' _ _⟩
    · have hr : plainT 0 n s.data.toList m = false := by rw [hp]; simp [g1]
      rw [hr]
      clear hp hr F
      go_enter Try.func103, Try.ntmps103
      go_wp2
      go_ret
      exact ⟨rfl, bel1' _ _⟩
  by_cases k1 : k = 1
  · subst k1
    have hp : plainT 1 n s.data.toList m = (decide (s.size = 0) && decide (m = 0)) := by
      unfold plainT; rw [if_neg (by decide), if_pos rfl, isEmpty_size']
    by_cases g3 : s.size = 0
    · have g3' := toList_empty' g3
      by_cases g4 : m = 0
      · have hr : plainT 1 n s.data.toList m = true := by rw [hp]; simp [g3, g4]
        rw [hr]
        subst g4
        clear hp g3 hr F
        go_enter Try.func103, Try.ntmps103
        go_wp2
        go_ret
        exact ⟨rfl, bel1' _ _⟩
      · have hr : plainT 1 n s.data.toList m = false := by rw [hp]; simp [g4]
        rw [hr]
        have g4' : ((m : Int) == 0) = false := by apply beq_false_of_ne; omega
        clear hp g3 hr F
        go_enter Try.func103, Try.ntmps103
        go_wp2
        go_ret
        exact ⟨rfl, bel1' _ _⟩
    · have hr : plainT 1 n s.data.toList m = false := by rw [hp]; simp [g3]
      rw [hr]
      have g3' := toList_some' g3
      clear hp hr F
      go_enter Try.func103, Try.ntmps103
      go_wp2
      go_ret
      exact ⟨rfl, bel1' _ _⟩
  have k0' : (k == 0) = false := beq_false_of_ne k0
  have k1' : (k == 1) = false := beq_false_of_ne k1
  by_cases k2 : k = 2
  · subst k2
    have hp : plainT 2 n s.data.toList m = (decide (n = 0) && decide (m ≤ 8) && fitB s) := by
      unfold plainT fitB; rw [if_neg (by decide), if_neg (by decide), if_pos rfl]
      have e : s.data.toList.length = s.size := rfl
      rw [e]
      cases decide (n = 0) <;> cases decide (s.size ≤ 64) <;> cases decide (m ≤ 8) <;> simp
    by_cases g1 : n = 0
    · subst g1
      by_cases g3 : m ≤ 8
      · have hr : plainT 2 0 s.data.toList m = fitB s := by rw [hp, decide_eq_true g3]; simp
        rw [hr]
        have g3i : (m : Int) ≤ 8 := by omega
        clear hr hp k0 k1 k0' k1'
        generalize fitB s = r at F ⊢
        cases r
        · go_enter Try.func103, Try.ntmps103
          (go_wp2_with fail; go_fit (F _); rintro e w1 ⟨rfl, rfl⟩)
          go_wp2
          go_ret
          exact ⟨rfl, bel1' _ _⟩
        · go_enter Try.func103, Try.ntmps103
          (go_wp2_with fail; go_fit (F _); rintro e w1 ⟨rfl, rfl⟩)
          go_wp2
          go_ret
          exact ⟨rfl, bel1' _ _⟩
      · have hr : plainT 2 0 s.data.toList m = false := by rw [hp, decide_eq_false g3]; simp
        rw [hr]
        have g3i : (8 : Int) < m := by omega
        clear hr hp k0 k1 k0' k1'
        generalize fitB s = r at F
        cases r
        · go_enter Try.func103, Try.ntmps103
          (go_wp2_with fail; go_fit (F _); rintro e w1 ⟨rfl, rfl⟩)
          go_wp2
          go_ret
          exact ⟨rfl, bel1' _ _⟩
        · go_enter Try.func103, Try.ntmps103
          (go_wp2_with fail; go_fit (F _); rintro e w1 ⟨rfl, rfl⟩)
          go_wp2
          go_ret
          exact ⟨ret_bool (decide_eq_false (by omega)), bel1' _ _⟩
    · have hr : plainT 2 n s.data.toList m = false := by rw [hp]; simp [g1]
      rw [hr]
      have g1' : (n == 0) = false := beq_false_of_ne g1
      clear hp hr k0 k1 k0' k1' F
      go_enter Try.func103, Try.ntmps103
      go_wp2
      go_ret
      exact ⟨rfl, bel1' _ _⟩
  · have hr : plainT k n s.data.toList m = false := by unfold plainT; rw [if_neg k0, if_neg k1, if_neg k2]
    rw [hr]
    have k2' : (k == 2) = false := beq_false_of_ne k2
    clear hr k0 k1 k2 F
    go_enter Try.func103, Try.ntmps103
    go_wp2
    go_ret
    exact ⟨rfl, bel1' _ _⟩
end Go.Proofs.Ytbbbgijlbcmpbaa
/- Package bind: stands, Walk. -/
namespace Go.Proofs.Ytbbbgijlbcmpbaa
open Go.RowKit
set_option linter.unusedVariables false

section
variable {V w : World} {F : List Nat} {p : Value} {N : Nat} {R : List (Int × Tm)}
set_option maxHeartbeats 2000000 in
theorem stands_not {k n : Int} {s : ByteArray} {u : Value} (hk : ¬ k = 0) (p : Value) (w : World) : Calls Try.prog 73 #[p, .agg #[.int .i64 k, .int .i64 n, .string s, u]] w fun e w' => e = .returned (.bool false) ∧ Below w.heap.size w w' := by
  have hk' : (k == 0) = false := beq_false_of_ne hk
  go_enter Try.func73, Try.ntmps73
  go_wp2_with fail
  go_quiet (fail)
  go_wp2
  go_ret
  exact ⟨rfl, belN (bel1' w _) _⟩
set_option maxHeartbeats 2000000 in
theorem stands_var (h : IsB V F w p N R) (n : Nat) (hn : n < N) (a : Option Addr) (c : Nat) : Calls Try.prog 73 #[p, .agg #[.int .i64 0, .int .i64 n, .string ⟨#[]⟩, .slice a 0 c]] w fun e w' => e = .returned (.bool (getB R n).isSome) ∧ Below w.heap.size w w' := by
  have hN := h.tri.2
  have HG := Lib.hid (fun wq (hb : Below w.heap.size w wq) => given_at (h.ext hb) (n : Int) (by unfold I64; omega))
  have hr : (decide ((0 : Int) ≤ n) && decide ((n : Int) < N)) = true := by simp [hn]
  obtain ⟨bt, av, cv, bs, rfl, hlt, c0, c1, h1, h2, hs⟩ := h.open
  obtain ⟨g, rfl, hsl⟩ := hs n hn
  clear hs
  have d0 := fun o => Lib.cell?_alloc_some o c0
  rw [hr] at HG
  have he : ((⟨#[]⟩ : ByteArray).toList == []) = true := by rw [Lib.toList_data]; rfl
  rcases hsl with ⟨hg, e0⟩ | ⟨t, k, m, s, au, l, cu, hg, e0, _⟩
  · rw [hg]
    have e1 := fun o => Lib.cell?_alloc_some o e0
    clear h hr hg c0 c1 e0
    go_enter Try.func73, Try.ntmps73
    go_wp2_with fail
    (refine wp_region_class (fun w' => (w'.cell? ⟨bt, 0, none⟩ = some (.slice (some ⟨g, 0, none⟩) N cv) ∧ w'.cell? ⟨g, n * 5, none⟩ = some (.bool false) ∧ w'.cell? ⟨w.heap.size, 0, none⟩ = some (.int .i64 0) ∧ w'.cell? ⟨w.heap.size, 1, none⟩ = some (.int .i64 n) ∧ w'.cell? ⟨w.heap.size, 2, none⟩ = some (.string ⟨#[]⟩) ∧ w'.cell? ⟨w.heap.size, 3, none⟩ = some (.slice a 0 c)) ∧ Below w.heap.size w w') (by kernel_rfl) (by kernel_rfl) (⟨⟨d0 _, e1 _, by simp, by simp, by simp, by simp⟩, (bel1' w _).drew⟩) ?_; (repeat (first | go_big_quiet_skip | (go_big_quiet_want; refine quiet_of ?_; apply Exists.intro; refine ⟨fun wq hq => ?_, ?_⟩; (focus ((try dsimp only at hq); go_simp; (first | done | with_reducible rfl | ((go_at_call 66; refine (HG.out wq hq.2).mono ?_; rintro e w6 ⟨rfl, rfl⟩; exact ⟨rfl, hq⟩)) | fail))); try simp only [Act.put, List.setIfInBounds_toArray, List.set_cons_zero, List.set_cons_succ]; go_big_quiet_on) | fail)); refine wpQuiet_nil ?_; intro wz hz)
    go_wp2
    go_ret
    exact ⟨rfl, hz.2⟩
  · rw [hg]
    have e1 := fun o => Lib.cell?_alloc_some o e0
    clear h hr hg c0 c1 e0
    go_enter Try.func73, Try.ntmps73
    go_wp2_with fail
    (refine wp_region_class (fun w' => (w'.cell? ⟨bt, 0, none⟩ = some (.slice (some ⟨g, 0, none⟩) N cv) ∧ w'.cell? ⟨g, n * 5, none⟩ = some (.bool true) ∧ w'.cell? ⟨w.heap.size, 0, none⟩ = some (.int .i64 0) ∧ w'.cell? ⟨w.heap.size, 1, none⟩ = some (.int .i64 n) ∧ w'.cell? ⟨w.heap.size, 2, none⟩ = some (.string ⟨#[]⟩) ∧ w'.cell? ⟨w.heap.size, 3, none⟩ = some (.slice a 0 c)) ∧ Below w.heap.size w w') (by kernel_rfl) (by kernel_rfl) (⟨⟨d0 _, e1 _, by simp, by simp, by simp, by simp⟩, (bel1' w _).drew⟩) ?_; (repeat (first | go_big_quiet_skip | (go_big_quiet_want; refine quiet_of ?_; apply Exists.intro; refine ⟨fun wq hq => ?_, ?_⟩; (focus ((try dsimp only at hq); go_simp; (first | done | with_reducible rfl | ((go_at_call 66; refine (HG.out wq hq.2).mono ?_; rintro e w6 ⟨rfl, rfl⟩; exact ⟨rfl, hq⟩)) | fail))); try simp only [Act.put, List.setIfInBounds_toArray, List.set_cons_zero, List.set_cons_succ]; go_big_quiet_on) | fail)); refine wpQuiet_nil ?_; intro wz hz)
    go_wp2
    go_ret
    exact ⟨rfl, hz.2⟩
end
end Go.Proofs.Ytbbbgijlbcmpbaa
/- Package term: what is good. -/
namespace Go.Proofs.Ytbbbgijlbcmpbaa
open Go.RowKit
set_option linter.unusedVariables false

/-- Of that depth at most, and formed. -/
def okT (t : Tm) (q : Nat) : Bool := decide (depthN t ≤ q) && formedT t
def okL : List Tm → Nat → Bool
  | [], _ => true
  | x :: r, q => okT x q && okL r q
theorem okL_eq : ∀ (l : List Tm) (q : Nat), okL l q = (decide (depthsN l ≤ q) && formedL l)
  | [], q => by simp [okL, depthsN, formedL]
  | x :: r, q => by
    rw [okL, okL_eq r q, depthsN, formedL]
    unfold okT
    by_cases h1 : depthN x ≤ q
    · by_cases h2 : depthsN r ≤ q
      · rw [decide_eq_true h1, decide_eq_true h2, decide_eq_true (by omega)]
        cases formedT x <;> cases formedL r <;> rfl
      · rw [decide_eq_true h1, decide_eq_false h2, decide_eq_false (by omega)]
        cases formedT x <;> rfl
    · have e : decide (max (depthN x) (depthsN r) ≤ q) = false := decide_eq_false (by omega)
      rw [decide_eq_false h1, e]
      rfl
theorem okT_zero (t : Tm) : okT t 0 = false := by
  unfold okT
  have := depth_pos t
  rw [decide_eq_false (by omega)]
  rfl
theorem okT_succ (k n : Int) (s : ByteArray) (ts : List Tm) (q : Nat) : okT (.mk k n s ts) (q + 1) = (plainT k n s.data.toList ts.length && okL ts q) := by
  unfold okT
  rw [okL_eq, formedT, depthN]
  by_cases h : depthsN ts ≤ q
  · rw [decide_eq_true h, decide_eq_true (by omega)]
    cases plainT k n s.data.toList ts.length <;> rfl
  · rw [decide_eq_false h, decide_eq_false (by omega)]
    cases plainT k n s.data.toList ts.length <;> rfl
set_option maxHeartbeats 4000000 in
set_option maxRecDepth 100000 in
theorem good_at : ∀ (q : Nat) (x : Tm), q ≤ 1000000 → ∀ (w : World) (v : Value), TmV w x v →
    Calls Try.prog 79 #[v, .int .i64 q] w fun e w' => e = .returned (.bool (okT x q)) ∧ Below w.heap.size w w'
  | 0, x, hq, w, v, hv => by
    obtain ⟨k, n, s, u, rfl⟩ := hv.four
    rw [okT_zero]
    clear hv
    go_enter Try.func79, Try.ntmps79
    go_wp2
    go_ret
    exact ⟨rfl, bel1' _ _⟩
  | q + 1, .mk k n s ts, hq, w, v, hv => by
    obtain ⟨u, rfl, hs, hk, hn, hu⟩ := tmV_iff.1 hv
    obtain ⟨a, c, rfl, h1, h2, h3⟩ := hu.len
    unfold BIG at h3 hs
    rw [okT_succ]
    obtain ⟨m, hm⟩ : ∃ m, ts.length = m := ⟨_, rfl⟩
    have IH := Lib.hid (fun (y : Tm) => good_at q y (by omega))
    have HU := Lib.hid hu
    have HM := Lib.hid hm
    rw [hm] at h1 h3 hu HU ⊢
    have F := fun w => fits_at (k := k) (n := n) (s := s) (a := a) (m := m) (c := c) hs hn h1 h2 h3 w
    obtain ⟨p, hp⟩ : ∃ p, plainT k n s.data.toList m = p := ⟨_, rfl⟩
    rw [hp] at F ⊢
    obtain ⟨Q, hQ⟩ : ∃ Q : Int, ((q + 1 : Nat) : Int) = Q := ⟨_, rfl⟩
    rw [hQ]
    have hq1 : Q - 1 = q := by omega
    have hQ0 : (Q == 0) = false := by apply beq_false_of_ne; omega
    have hQb : Q ≤ 1000001 := by omega
    have hQ1 : 0 < Q := by omega
    clear hv hu hm hp hQ
    cases p
    · rw [Bool.false_and]
      go_enter Try.func79, Try.ntmps79
      (go_wp2_with fail; go_fit (F _); rintro e w1 ⟨rfl, b1⟩)
      have B1 := Lib.hid (Ext.trans' (bel1' w _) b1)
      clear b1
      go_wp2
      go_ret
      exact ⟨rfl, B1.out⟩
    · rw [Bool.true_and]
      obtain ⟨r, hr⟩ : ∃ r, okL ts q = r := ⟨_, rfl⟩
      rw [hr]
      have HR := Lib.hid hr
      clear hr
      go_enter Try.func79, Try.ntmps79
      (go_wp2_with fail; go_fit (F _); rintro e w1 ⟨rfl, b1⟩)
      obtain ⟨e0, e1, e2, e3⟩ := box_cells w 31 _ _ _ _ b1
      have B1 := Lib.hid (Ext.trans' (bel1' w _) b1)
      clear b1 F
      go_wp2_with fail
      go_loopw [17] (fun v wr => ∃ i : Nat, i ≤ m ∧ v = .int .i64 i ∧ Hid (okL (ts.drop i) q = r) ∧ Hid (Below w.heap.size w wr)) (fun v _ => m - (intOf v).toNat)
      case atStart => exact ⟨0, Nat.zero_le _, rfl, Lib.hid (by rw [List.drop_zero]; exact HR.out), B1⟩
      case round =>
        obtain ⟨i, hi, rfl, HD, HB⟩ := hrel
        by_cases hil : i < m
        · obtain ⟨y, hy⟩ : ∃ y, ts[i]? = some y := ⟨_, List.getElem?_eq_getElem (by rw [HM.out]; exact hil)⟩
          have hdr : ts.drop i = y :: ts.drop (i + 1) := by
            obtain ⟨hlt', rfl⟩ := List.getElem?_eq_some_iff.1 hy
            exact List.drop_eq_getElem_cons hlt'
          have hd := HD.out
          rw [hdr, okL] at hd
          obtain ⟨b, off, k', n', s', u', rfl, hbb, _, _, _, c0, c1, c2, c3, htu, ht⟩ := (HU.out.ext HB.out).get hy
          obtain ⟨au, cu, rfl, _⟩ := htu.len
          clear htu
          have ih := IH.out y _ _ (TmV.ext (bel1' wr (box4 k' n' s' (.slice au y.args.length cu) 31)) _ _ ht)
          clear hdr HD ht
          cases hq : okT y q
          · rw [hq, Bool.false_and] at hd
            rw [hq] at ih
            subst hd
            clear hq hy HR
            (go_wp2_with fail; go_fit (ih); rintro e w2 ⟨rfl, b2⟩)
            have B2 := Lib.hid (Ext.trans' HB.out (Ext.trans' (bel1' _ _) b2))
            clear b2
            go_wp2
            go_ret
            exact ⟨rfl, B2.out⟩
          · rw [hq, Bool.true_and] at hd
            rw [hq] at ih
            have HD := Lib.hid hd
            clear hq hd hy
            (go_wp2_with fail; go_fit (ih); rintro e w2 ⟨rfl, b2⟩)
            have B2 := Lib.hid (Ext.trans' HB.out (Ext.trans' (bel1' _ _) b2))
            clear b2
            go_wp2
            go_roundw
            case rel => exact ⟨i + 1, by omega, by go_num, HD, B2⟩
            case measure => simp [intOf]; omega
        · have hd := HD.out
          rw [List.drop_eq_nil_of_le (by rw [HM.out]; omega), okL] at hd
          subst hd
          clear HR HD
          go_wp2
          go_ret
          exact ⟨rfl, HB.out⟩
theorem Good_at (x : Tm) (w : World) (v : Value) (hv : TmV w x v) : Calls Try.prog 39 #[v] w fun e w' => e = .returned (.bool (goodT x)) ∧ Below w.heap.size w w' := by
  have S := fun w (h : TmV w x v) => size_at x w v h
  have G := fun w (h : TmV w x v) => good_at 64 x (by omega) w v h
  have hg : goodT x = (decide (sizeN x ≤ 2000) && okT x 64) := by
    unfold goodT okT
    rw [Bool.and_assoc]
  obtain ⟨k, n, s, u, rfl⟩ := hv.four
  have hv0 := TmV.ext (bel1' w (box4 k n s u 31)) _ _ hv
  obtain ⟨p, hp⟩ : ∃ p, min (sizeN x) 2001 = p := ⟨_, rfl⟩
  rw [hp] at S
  rw [hg]
  generalize okT x 64 = f at G ⊢
  clear hg hv
  by_cases h1 : p ≤ 2000
  · rw [decide_eq_true (by omega), Bool.true_and]
    clear hp
    go_enter Try.func39, Try.ntmps39
    (go_wp2_with fail; go_fit (S _ hv0); rintro e w1 ⟨rfl, b1⟩)
    obtain ⟨e0, e1, e2, e3⟩ := box_cells w 31 _ _ _ _ b1
    have hv1 := TmV.ext b1 _ _ hv0
    (go_wp2_with fail; go_fit (G _ hv1); rintro e w2 ⟨rfl, b2⟩)
    have B2 := Lib.hid (Ext.trans' (bel1' w _) (Ext.trans' b1 b2))
    clear b1 b2
    go_wp2
    go_ret
    exact ⟨rfl, B2.out⟩
  · rw [decide_eq_false (by omega), Bool.false_and]
    clear hp
    go_enter Try.func39, Try.ntmps39
    (go_wp2_with fail; go_fit (S _ hv0); rintro e w1 ⟨rfl, b1⟩)
    obtain ⟨e0, e1, e2, e3⟩ := box_cells w 31 _ _ _ _ b1
    have B1 := Lib.hid (Ext.trans' (bel1' w _) b1)
    clear b1
    go_wp2
    go_ret
    exact ⟨rfl, B1.out⟩
end Go.Proofs.Ytbbbgijlbcmpbaa
/- Package term: Same. -/
namespace Go.Proofs.Ytbbbgijlbcmpbaa
open Go.RowKit
set_option linter.unusedVariables false

theorem same_mk' (k n k' n' : Int) (s s' : ByteArray) (ts ts' : List Tm) : sameT (.mk k n s ts) (.mk k' n' s' ts') = (k == k' && n == n' && s.data.toList == s'.data.toList && sameL ts ts') := by rw [sameT]
theorem sames_len' : ∀ {a b : List Tm}, ¬ a.length = b.length → sameL a b = false
  | [], [], h => absurd rfl h
  | x :: r, y :: q, h => by
    rw [sameL, sames_len' (a := r) (b := q) (by simpa using h), Bool.and_false]
  | [], y :: q, _ => by simp [sameL]
  | x :: r, [], _ => by simp [sameL]
theorem sames_step' {a b : List Tm} {i : Nat} {x y : Tm} (hx : a[i]? = some x) (hy : b[i]? = some y) : sameL (a.drop i) (b.drop i) = (sameT x y && sameL (a.drop (i + 1)) (b.drop (i + 1))) := by
  obtain ⟨h1, rfl⟩ := List.getElem?_eq_some_iff.1 hx
  obtain ⟨h2, rfl⟩ := List.getElem?_eq_some_iff.1 hy
  rw [List.drop_eq_getElem_cons h1, List.drop_eq_getElem_cons h2, sameL]
set_option maxHeartbeats 4000000 in
set_option maxRecDepth 100000 in
theorem equal_at {w : World} {va vb : Value} {ts ts' : List Tm} (hu : Tms w va ts) (hu' : Tms w vb ts')
    (IH : Hid (∀ x ∈ ts, ∀ (y : Tm) (w : World) (va vb : Value), TmV w x va → TmV w y vb → Calls Try.prog 74 #[va, vb] w fun e w' => e = .returned (.bool (sameT x y)) ∧ Below w.heap.size w w')) :
    Calls Try.prog 99 #[va, vb, .func (.func 74) #[] #[]] w fun e w' => e = .returned (.bool (sameL ts ts')) ∧ Below w.heap.size w w' := by
  obtain ⟨a, c, rfl, h1, h2, h3⟩ := hu.len
  obtain ⟨a', c', rfl, h1', h2', h3'⟩ := hu'.len
  unfold BIG at h3 h3'
  obtain ⟨m, hm⟩ : ∃ m, ts.length = m := ⟨_, rfl⟩
  obtain ⟨m', hm'⟩ : ∃ m', ts'.length = m' := ⟨_, rfl⟩
  by_cases g : m = m'
  · subst g
    obtain ⟨r, hr⟩ : ∃ r, sameL ts ts' = r := ⟨_, rfl⟩
    rw [hr]
    have HR := Lib.hid hr
    have HU := Lib.hid hu
    have HU' := Lib.hid hu'
    have HM := Lib.hid hm
    have HM' := Lib.hid hm'
    rw [hm] at h1 h3 HU hu ⊢
    rw [hm'] at h1' h3' HU' hu' ⊢
    clear hr hm hm' hu hu'
    go_enter Try.func99, Try.ntmps99
    go_wp2_with fail
    go_loopw [17] (fun v wr => ∃ i : Nat, i ≤ m ∧ v = .int .i64 i ∧ Hid (sameL (ts.drop i) (ts'.drop i) = r) ∧ Hid (Below w.heap.size w wr)) (fun v _ => m - (intOf v).toNat)
    case atStart => exact ⟨0, Nat.zero_le _, rfl, Lib.hid (by rw [List.drop_zero, List.drop_zero]; exact HR.out), Lib.hid (Below.refl _ _)⟩
    case round =>
      obtain ⟨i, hi, rfl, HD, HB⟩ := hrel
      by_cases hil : i < m
      · obtain ⟨x, hx⟩ : ∃ x, ts[i]? = some x := ⟨_, List.getElem?_eq_getElem (by rw [HM.out]; exact hil)⟩
        obtain ⟨y, hy⟩ : ∃ y, ts'[i]? = some y := ⟨_, List.getElem?_eq_getElem (by rw [HM'.out]; exact hil)⟩
        have hd := HD.out
        rw [sames_step' hx hy] at hd
        obtain ⟨b, off, k1, n1, s1, u1, rfl, hbb, _, _, _, c0, c1, c2, c3, htu, ht⟩ := (HU.out.ext HB.out).get hx
        obtain ⟨b', off', k2, n2, s2, u2, rfl, hbb', _, _, _, d0, d1, d2, d3, htu', ht'⟩ := (HU'.out.ext HB.out).get hy
        obtain ⟨au, cu, rfl, _⟩ := htu.len
        obtain ⟨au', cu', rfl, _⟩ := htu'.len
        clear htu htu'
        have hw : Below wr.heap.size wr ((wr.alloc (box4 k1 n1 s1 (.slice au x.args.length cu) 31)).alloc (box4 k2 n2 s2 (.slice au' y.args.length cu') 31)) := (bel1' wr _).alloc (by simp) _
        have ih := IH.out x (List.mem_of_getElem? hx) y _ _ _ (TmV.ext hw _ _ ht) (TmV.ext hw _ _ ht')
        have HWW := Lib.hid hw
        clear HD ht ht' hx hy hw
        cases hq : sameT x y
        · rw [hq, Bool.false_and] at hd
          rw [hq] at ih
          subst hd
          clear hq HR
          (go_wp2_with fail; go_fit (ih); rintro e w2 ⟨rfl, b2⟩)
          have B2 := Lib.hid (Ext.trans' HB.out (Ext.trans' HWW.out b2))
          clear b2
          go_wp2
          go_ret
          exact ⟨rfl, B2.out⟩
        · rw [hq, Bool.true_and] at hd
          rw [hq] at ih
          have HD := Lib.hid hd
          clear hq hd
          (go_wp2_with fail; go_fit (ih); rintro e w2 ⟨rfl, b2⟩)
          have B2 := Lib.hid (Ext.trans' HB.out (Ext.trans' HWW.out b2))
          clear b2
          go_wp2
          go_roundw
          case rel => exact ⟨i + 1, by omega, by go_num, HD, B2⟩
          case measure => simp [intOf]; omega
      · have hd := HD.out
        rw [List.drop_eq_nil_of_le (by rw [HM.out]; omega), List.drop_eq_nil_of_le (by rw [HM'.out]; omega), sameL] at hd
        subst hd
        clear HR HD
        go_wp2
        go_ret
        exact ⟨rfl, HB.out⟩
  · rw [sames_len' (by rw [hm, hm']; exact g)]
    rw [hm] at h1 ⊢
    rw [hm'] at h1' ⊢
    have g' : ((m : Int) != m') = true := by simp; omega
    have gn : ¬ (m : Int) = m' := by omega
    clear hm hm' hu hu' IH h3 h3'
    go_enter Try.func99, Try.ntmps99
    go_wp2
    go_ret
    exact ⟨rfl, Below.refl _ _⟩
set_option maxHeartbeats 4000000 in
theorem same_at : ∀ (N : Nat) (x : Tm), sizeN x ≤ N → ∀ (y : Tm) (w : World) (va vb : Value), TmV w x va → TmV w y vb →
    Calls Try.prog 74 #[va, vb] w fun e w' => e = .returned (.bool (sameT x y)) ∧ Below w.heap.size w w'
  | 0, x, h, y, w, va, vb, hv, hv' => by have := size_pos x; omega
  | N + 1, .mk k n s ts, h, .mk k' n' s' ts', w, va, vb, hv, hv' => by
    obtain ⟨u, rfl, hs, hk, hn, hu⟩ := tmV_iff.1 hv
    obtain ⟨u', rfl, hs', hk', hn', hu'⟩ := tmV_iff.1 hv'
    obtain ⟨a, c, rfl, h1, h2, h3⟩ := hu.len
    obtain ⟨a', c', rfl, h1', h2', h3'⟩ := hu'.len
    unfold BIG at h3 h3' hs hs'
    have IH := Lib.hid (fun (x : Tm) (hx : x ∈ ts) => same_at N x (mem_size h hx))
    obtain ⟨m, hm⟩ : ∃ m, ts.length = m := ⟨_, rfl⟩
    obtain ⟨m', hm'⟩ : ∃ m', ts'.length = m' := ⟨_, rfl⟩
    have hmk := same_mk' k n k' n' s s' ts ts'
    have hw : Below w.heap.size w ((w.alloc (box4 k n s (.slice a ts.length c) 31)).alloc (box4 k' n' s' (.slice a' ts'.length c') 31)) := (bel1' w _).alloc (by simp) _
    have HW := Lib.hid hw
    by_cases g1 : k = k'
    · subst g1
      by_cases g2 : n = n'
      · subst g2
        by_cases g3 : s = s'
        · subst g3
          rw [hmk, beq_self_eq_true, beq_self_eq_true, beq_self_eq_true, Bool.true_and, Bool.true_and, Bool.true_and]
          have E := equal_at (hu.ext hw) (hu'.ext hw) IH
          generalize sameL ts ts' = r at E ⊢
          rw [hm] at HW E ⊢
          rw [hm'] at HW E ⊢
          clear hm hm' hv hv' hu hu' IH h hmk hw
          cases r
          · go_enter Try.func74, Try.ntmps74
            (go_wp2_with fail; go_fit (E); rintro e w2 ⟨rfl, b2⟩)
            have B2 := Lib.hid (Ext.trans' HW.out b2)
            clear b2
            go_wp2
            go_ret
            exact ⟨rfl, B2.out⟩
          · go_enter Try.func74, Try.ntmps74
            (go_wp2_with fail; go_fit (E); rintro e w2 ⟨rfl, b2⟩)
            have B2 := Lib.hid (Ext.trans' HW.out b2)
            clear b2
            go_wp2
            go_ret
            exact ⟨rfl, B2.out⟩
        · have hb : (s.data.toList == s'.data.toList) = false := beq_false_of_ne (fun e => g3 (bytes_eq e))
          have hr : sameT (.mk k n s ts) (.mk k n s' ts') = false := by rw [hmk, hb]; simp
          rw [hr]
          have g3' : (s.toList == s'.toList) = false := by rw [Lib.toList_data, Lib.toList_data]; exact hb
          have g3n : ¬ s.toList = s'.toList := by rw [Lib.toList_data, Lib.toList_data]; exact fun e => g3 (bytes_eq e)
          clear hr hmk hm hm' hv hv' hu hu' IH h hb hw
          go_enter Try.func74, Try.ntmps74
          go_wp2
          go_ret
          exact ⟨rfl, HW.out⟩
      · have hr : sameT (.mk k n s ts) (.mk k n' s' ts') = false := by rw [hmk, beq_false_of_ne g2]; simp
        rw [hr]
        have g2' : (n == n') = false := beq_false_of_ne g2
        clear hr hmk hm hm' hv hv' hu hu' IH h hw
        go_enter Try.func74, Try.ntmps74
        go_wp2
        go_ret
        exact ⟨rfl, HW.out⟩
    · have hr : sameT (.mk k n s ts) (.mk k' n' s' ts') = false := by rw [hmk, beq_false_of_ne g1]; simp
      rw [hr]
      have g1' : (k == k') = false := beq_false_of_ne g1
      clear hr hmk hm hm' hv hv' hu hu' IH h hw
      go_enter Try.func74, Try.ntmps74
      go_wp2
      go_ret
      exact ⟨rfl, HW.out⟩
set_option maxHeartbeats 4000000 in
theorem Same_at {x y : Tm} {w : World} {va vb : Value} (hv : TmV w x va) (hv' : TmV w y vb) : Calls Try.prog 25 #[va, vb] w fun e w' => e = .returned (.bool (goodT x && goodT y && sameT x y)) ∧ Below w.heap.size w w' := by
  have GX := fun w (h : TmV w x va) => Good_at x w va h
  have GY := fun w (h : TmV w y vb) => Good_at y w vb h
  have S := fun w (h : TmV w x va) (h' : TmV w y vb) => same_at _ x (Nat.le_refl _) y w va vb h h'
  generalize goodT x = p at GX ⊢
  generalize goodT y = q at GY ⊢
  generalize sameT x y = r at S ⊢
  obtain ⟨k, n, s, u, rfl⟩ := hv.four
  obtain ⟨k', n', s', u', rfl⟩ := hv'.four
  have hw : Below w.heap.size w ((w.alloc (box4 k n s u 31)).alloc (box4 k' n' s' u' 31)) := (bel1' w _).alloc (by simp) _
  have hv0 := TmV.ext hw _ _ hv
  have hv0' := TmV.ext hw _ _ hv'
  clear hv hv'
  have two : ∀ wr : World, Below ((w.alloc (box4 k n s u 31)).alloc (box4 k' n' s' u' 31)).heap.size ((w.alloc (box4 k n s u 31)).alloc (box4 k' n' s' u' 31)) wr →
      (wr.cell? ⟨w.heap.size, 0, none⟩ = some (.int .i64 k) ∧ wr.cell? ⟨w.heap.size, 1, none⟩ = some (.int .i64 n) ∧ wr.cell? ⟨w.heap.size, 2, none⟩ = some (.string s) ∧ wr.cell? ⟨w.heap.size, 3, none⟩ = some u) ∧
      wr.cell? ⟨w.heap.size + 1, 0, none⟩ = some (.int .i64 k') ∧ wr.cell? ⟨w.heap.size + 1, 1, none⟩ = some (.int .i64 n') ∧ wr.cell? ⟨w.heap.size + 1, 2, none⟩ = some (.string s') ∧ wr.cell? ⟨w.heap.size + 1, 3, none⟩ = some u' := fun wr hb =>
    ⟨⟨cell_later hb (by simp), cell_later hb (by simp), cell_later hb (by simp), cell_later hb (by simp)⟩, cell_later hb (by simp), cell_later hb (by simp), cell_later hb (by simp), cell_later hb (by simp)⟩
  have HTW := Lib.hid two
  have HWW := Lib.hid hw
  clear two hw
  cases p
  · rw [Bool.false_and, Bool.false_and]
    clear GY S
    go_enter Try.func25, Try.ntmps25
    (go_wp2_with fail; go_fit (GX _ hv0); rintro e w1 ⟨rfl, b1⟩)
    have B1 := Lib.hid (Ext.trans' HWW.out b1)
    clear b1
    go_wp2
    go_ret
    exact ⟨rfl, B1.out⟩
  rw [Bool.true_and]
  cases q
  · rw [Bool.false_and]
    clear S
    go_enter Try.func25, Try.ntmps25
    (go_wp2_with fail; go_fit (GX _ hv0); rintro e w1 ⟨rfl, b1⟩)
    obtain ⟨⟨c0, c1, c2, c3⟩, d0, d1, d2, d3⟩ := HTW.out _ b1
    (go_wp2_with fail; go_fit (GY _ (TmV.ext b1 _ _ hv0')); rintro e w2 ⟨rfl, b2⟩)
    have B2 := Lib.hid (Ext.trans' HWW.out (Ext.trans' b1 b2))
    clear b1 b2
    go_wp2
    go_ret
    exact ⟨rfl, B2.out⟩
  rw [Bool.true_and]
  cases r
  · go_enter Try.func25, Try.ntmps25
    (go_wp2_with fail; go_fit (GX _ hv0); rintro e w1 ⟨rfl, b1⟩)
    obtain ⟨⟨c0, c1, c2, c3⟩, d0, d1, d2, d3⟩ := HTW.out _ b1
    (go_wp2_with fail; go_fit (GY _ (TmV.ext b1 _ _ hv0')); rintro e w2 ⟨rfl, b2⟩)
    have b12 := Ext.trans' b1 b2
    obtain ⟨⟨c0, c1, c2, c3⟩, d0, d1, d2, d3⟩ := HTW.out _ b12
    (go_wp2_with fail; go_fit (S _ (TmV.ext b12 _ _ hv0) (TmV.ext b12 _ _ hv0')); rintro e w3 ⟨rfl, b3⟩)
    have B3 := Lib.hid (Ext.trans' HWW.out (Ext.trans' b12 b3))
    clear b1 b2 b12 b3
    go_wp2
    go_ret
    exact ⟨rfl, B3.out⟩
  · go_enter Try.func25, Try.ntmps25
    (go_wp2_with fail; go_fit (GX _ hv0); rintro e w1 ⟨rfl, b1⟩)
    obtain ⟨⟨c0, c1, c2, c3⟩, d0, d1, d2, d3⟩ := HTW.out _ b1
    (go_wp2_with fail; go_fit (GY _ (TmV.ext b1 _ _ hv0')); rintro e w2 ⟨rfl, b2⟩)
    have b12 := Ext.trans' b1 b2
    obtain ⟨⟨c0, c1, c2, c3⟩, d0, d1, d2, d3⟩ := HTW.out _ b12
    (go_wp2_with fail; go_fit (S _ (TmV.ext b12 _ _ hv0) (TmV.ext b12 _ _ hv0')); rintro e w3 ⟨rfl, b3⟩)
    have B3 := Lib.hid (Ext.trans' HWW.out (Ext.trans' b12 b3))
    clear b1 b2 b12 b3
    go_wp2
    go_ret
    exact ⟨rfl, B3.out⟩
end Go.Proofs.Ytbbbgijlbcmpbaa
/- Drawn together by pull.py from XPrM XPrN XPrB XPrE XPrF XPrG XPrH XPsB. -/
namespace Go.Proofs.Ytbbbgijlbcmpbaa
open Go.RowKit
set_option linter.unusedVariables false

theorem row_at {w w' : World} {B k n : Nat} {e : TypeId} {v : Value} {xs : List Value} (h : w.ownsRow B e k v n xs) (hb : ∀ g, v.ownBlock = some g → w'.heap[g]? = w.heap[g]?) : w'.ownsRow B e k v n xs := by
  obtain ⟨h0, h1⟩ := h
  refine ⟨h0, ?_⟩
  rcases h1 with h1 | ⟨g, cap, cur, rfl, hg, hh, h2⟩
  · exact Or.inl h1
  · exact Or.inr ⟨g, cap, cur, rfl, hg, by rw [hb g rfl]; exact hh, h2⟩
theorem row_in {w : World} {B k n : Nat} {e : TypeId} {v : Value} {xs : List Value} (h : w.ownsRow B e k v n xs) {g : Nat} (hg : v.ownBlock = some g) : B ≤ g ∧ g < w.heap.size := by
  rcases h.2 with ⟨rfl, _⟩ | ⟨g', cap, cur, rfl, h1, h2, _⟩
  · cases hg
  · cases hg
    exact ⟨h1, (Array.getElem?_eq_some_iff.1 h2).1⟩
/-- A box of one's own with these values. -/
structure Box (w : World) (b : Nat) (vs : List Value) : Prop where
  cells : ∀ j u, vs[j]? = some u → w.cell? ⟨b, j, none⟩ = some u
  fz : ∀ j, w.frozen? ⟨b, j, none⟩ = false
  lt : b < w.heap.size
theorem box_new (w : World) (cs : Array Value) (ty : TypeId) : ∃ w1, w.alloc (.cells cs ty) = w1 ∧ Below w.heap.size w w1 ∧ w1.heap.size = w.heap.size + 1 ∧ Box w1 w.heap.size cs.toList := by
  refine ⟨_, rfl, bel1' _ _, by simp, fun j u h => ?_, fun j => by simp, by simp⟩
  have := cell_new w cs ty j u h
  rw [add_plain, Nat.zero_add] at this
  exact this
theorem Box.ext {w w' : World} {b : Nat} {vs : List Value} (h : Box w b vs) (hb : Below w.heap.size w w') : Box w' b vs :=
  ⟨fun j u hu => cell_later hb (h.cells j u hu), fun j => (hb.frozen (p := ⟨b, j, none⟩) h.lt).trans (h.fz j), Nat.lt_of_lt_of_le h.lt hb.size⟩
theorem Box.far {w : World} {b c k : Nat} {u : Value} {vs : List Value} (h : Box w b vs) (hne : b ≠ c) : Box (w.setCell ⟨c, k, none⟩ u) b vs :=
  ⟨fun j v hv => by
    rw [World.cell?_setCell_other]
    · exact h.cells j v hv
    · intro e; injection e with e _ _; exact hne e.symm, fun j => by rw [World.frozen?_setCell]; exact h.fz j, by have := h.lt; simpa [World.setCell] using this⟩
theorem Box.set {w : World} {b k : Nat} {u : Value} {vs : List Value} (h : Box w b vs) (hk : k < vs.length) : Box (w.setCell ⟨b, k, none⟩ u) b (vs.set k u) :=
  ⟨fun j v hv => by
    by_cases hj : j = k
    · subst hj
      rw [List.getElem?_set_self hk] at hv
      injection hv with hv
      subst hv
      exact css (h.cells j _ (List.getElem?_eq_getElem hk))
    · rw [List.getElem?_set_ne (by omega)] at hv
      rw [World.cell?_setCell_other]
      · exact h.cells j v hv
      · intro e; injection e with _ e _; exact hj e.symm, fun j => by rw [World.frozen?_setCell]; exact h.fz j, by have := h.lt; simpa [World.setCell] using this⟩
theorem Box.four {w : World} {b : Nat} {v0 v1 v2 v3 : Value} (h : Box w b [v0, v1, v2, v3]) : w.cell? ⟨b, 0, none⟩ = some v0 ∧ w.cell? ⟨b, 1, none⟩ = some v1 ∧ w.cell? ⟨b, 2, none⟩ = some v2 ∧ w.cell? ⟨b, 3, none⟩ = some v3 ∧ ∀ j, w.frozen? ⟨b, j, none⟩ = false :=
  ⟨h.cells 0 _ rfl, h.cells 1 _ rfl, h.cells 2 _ rfl, h.cells 3 _ rfl, h.fz⟩
abbrev set3 (w : World) (b : Nat) (u0 u1 u2 : Value) : World := ((w.setCell ⟨b, 0, none⟩ u0).setCell ⟨b, 1, none⟩ u1).setCell ⟨b, 2, none⟩ u2
abbrev set4 (w : World) (b : Nat) (u0 u1 u2 u3 : Value) : World := (set3 w b u0 u1 u2).setCell ⟨b, 3, none⟩ u3
theorem far_cell {w : World} {b j c k : Nat} {u : Value} (hne : b ≠ c) : (w.setCell ⟨c, k, none⟩ u).cell? ⟨b, j, none⟩ = w.cell? ⟨b, j, none⟩ := by
  rw [World.cell?_setCell_other]
  intro e; injection e with e _ _; exact hne e.symm

theorem Below.set3 {B : Nat} {w w' : World} (h : Below B w w') {b : Nat} (hb : B ≤ b) (u0 u1 u2 : Value) : Below B w (Go.Proofs.Ytbbbgijlbcmpbaa.set3 w' b u0 u1 u2) :=
  ((h.setCell (p := ⟨b, 0, none⟩) hb _).setCell (p := ⟨b, 1, none⟩) hb _).setCell (p := ⟨b, 2, none⟩) hb _
theorem Below.set4 {B : Nat} {w w' : World} (h : Below B w w') {b : Nat} (hb : B ≤ b) (u0 u1 u2 u3 : Value) : Below B w (Go.Proofs.Ytbbbgijlbcmpbaa.set4 w' b u0 u1 u2 u3) :=
  (Below.set3 h hb u0 u1 u2).setCell (p := ⟨b, 3, none⟩) hb _

theorem Box.block {w w' : World} {b : Nat} {vs : List Value} (h : Box w b vs) (hb : w'.heap[b]? = w.heap[b]?) (hlt : b < w'.heap.size) : Box w' b vs :=
  ⟨fun j u hu => by rw [World.cell?_of_block hb]; exact h.cells j u hu, fun j => by rw [World.frozen?_of_block hb]; exact h.fz j, hlt⟩
theorem four_of {w : World} {t : Tm} {v : Value} (h : TmV w t v) : ∃ k n s a m c, v = .agg #[.int .i64 k, .int .i64 n, .string s, .slice a m c] ∧ t.k = k ∧ t.n = n ∧ t.s = s ∧ v = pVal (t, .slice a m c) := by
  cases t with
  | mk k n s ts =>
    obtain ⟨u, rfl, _, _, _, hu⟩ := tmV_iff.1 h
    obtain ⟨a, c, rfl, _⟩ := hu.len
    exact ⟨k, n, s, a, _, c, rfl, rfl, rfl, rfl, rfl⟩
theorem infoTermR : (Try.prog.info? 48).map (fun i => (i.zero, i.size, i.bytes)) = some (some (.agg #[.int .i64 0, .int .i64 0, .string ⟨#[]⟩, .slice none 0 0]), 4, 56) := by kernel_rfl
theorem take_next {α : Type} {l : List α} {k : Nat} {x : α} (h : l[k]? = some x) : l.take (k + 1) = l.take k ++ [x] := by rw [List.take_add_one, h]; rfl
end Go.Proofs.Ytbbbgijlbcmpbaa
