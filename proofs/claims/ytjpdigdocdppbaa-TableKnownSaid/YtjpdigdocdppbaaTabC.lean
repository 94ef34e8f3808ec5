/- Tables of strings: Cut. -/
import Derived.Test.YtjpdigdocdppbaaTabA
import Derived.Laws.CopyRow
namespace Go.Proofs.Ytjpdigdocdppbaa
open Go.RowKit Go.Maps Go.WideMaps

theorem run_clear_row {P : Program} (w : World) (t e ty : TypeId) (z : Value) (ht : P.underlying t = some (.slice e)) (hv : ∀ w, (zeroValue e).run P w = .ok z w) (hz : z.cells = #[z]) (h1 : z.oneCell' = true) (g o n c : Nat) (cur : Array Value) (tt : TypeId)
    (hg : w.heap[g]? = some (.cells cur tt (0, 0))) (hn : 0 < n) (hfit : o + n ≤ cur.size) :
    (Builtin.clear_ #[t] ty #[.slice (some ⟨g, o, none⟩) n c]).run P w = .ok (.tuple #[]) (w.setRow g (cur.toList.take o ++ List.replicate n z ++ cur.toList.drop (o + n)).toArray) := by
  have hzc : (Builtin.zeroCells z.cells n).toList = List.replicate n z := by
    rw [hz]
    simp [Builtin.zeroCells]
    apply List.ext_getElem
    · simp
    · intro i h1 h2
      simp [Nat.mod_one]
  have hst := run_storeCells_at P g o tt (List.replicate n z) 0 cur w hg (by simpa using hfit) (by intro v hv'; rw [List.eq_of_mem_replicate hv']; exact h1)
  simp only [Nat.add_zero, List.length_replicate] at hst
  obtain ⟨m, rfl⟩ : ∃ m, n = m + 1 := ⟨n - 1, by omega⟩
  simp [Builtin.clear_, run_underlying ht, hv, hzc, hst]
theorem run_clear_none {P : Program} (w : World) (t e ty : TypeId) (ht : P.underlying t = some (.slice e)) (a : Option Addr) (c : Nat) :
    (Builtin.clear_ #[t] ty #[.slice a 0 c]).run P w = .ok (.tuple #[]) w := by
  cases a <;> simp [Builtin.clear_, run_underlying ht]

theorem cut_out {F : List Nat} {w : World} {p : Value} {R : Nat} {ks : List ByteArray} (h : STab F w p R ks) (i : Int) (hi : i < 0 ∨ (ks.length : Int) < i) :
    Calls Try.prog 13 #[p, .int .i64 i] w fun e w' => e = .returned (.bool false) ∧ w = w' := by
  obtain ⟨bt, bm, v, D, rfl, hne, h1, h2, rfl, hbt, hr, hm, hN, hR⟩ := h
  have c1 : w.cell? ⟨bt, 1, none⟩ = some v := by simp [blk_cell hbt]
  obtain ⟨a, c, rfl, _⟩ := stab_cells hr
  clear hm hbt hN hr h1 h2
  by_cases h0 : i < 0
  · go_enter Try.func13, Try.ntmps13
    go_wp2
    go_ret
    exact ⟨rfl, rfl⟩
  · have hle : (ks.length : Int) < i := by omega
    go_enter Try.func13, Try.ntmps13
    go_wp2
    go_ret
    exact ⟨rfl, rfl⟩

theorem stab_row {w : World} {v : Value} {ks : List ByteArray} (hr : w.ownsRow 0 9 1 v ks.length (ks.flatMap (fun s => [Value.string s]))) :
    (v = .slice none 0 0 ∧ ks = []) ∨ ∃ g c cur, v = .slice (some ⟨g, 0, none⟩) ks.length c ∧ w.heap[g]? = some (.cells cur 9 (0, 0)) ∧ ks.length ≤ c ∧ c ≤ maxLen ∧ cur.size = c ∧ cur.toList.take ks.length = ks.map Value.string := by
  rw [flat_one] at hr
  rcases hr.2 with ⟨rfl, h0⟩ | ⟨g, cap, cur, rfl, hg, hh, hc1, hc2, hc3, hc4⟩
  · exact Or.inl ⟨rfl, List.length_eq_zero_iff.1 h0⟩
  · exact Or.inr ⟨g, cap, cur, rfl, hh, hc1, hc2, by simpa using hc3, by simpa using hc4⟩
theorem row_stab {w : World} {g c : Nat} {cur : Array Value} {ks : List ByteArray} (hh : w.heap[g]? = some (.cells cur 9 (0, 0))) (h1 : ks.length ≤ c) (h2 : c ≤ maxLen) (h3 : cur.size = c) (h4 : cur.toList.take ks.length = ks.map Value.string) :
    w.ownsRow 0 9 1 (.slice (some ⟨g, 0, none⟩) ks.length c) ks.length (ks.flatMap (fun s => [Value.string s])) := by
  rw [flat_one]
  exact ⟨by simp, Or.inr ⟨g, c, cur, rfl, Nat.zero_le _, hh, h1, h2, by simpa using h3, by simpa using h4⟩⟩

theorem cut_store {w : World} {bt bm R : Nat} {v v' : Value} {D : DataW Unit} {ks : List ByteArray} (hb : w.heap[bt]? = some (.cells #[.int .i64 (R : Int), v, .map (some bm)] 50 (0, 0)))
    (hr : w.ownsRow 0 9 1 v' ks.length (ks.flatMap (fun s => [Value.string s]))) (h1 : v'.ownBlock ≠ some bt) (h2 : v'.ownBlock ≠ some bm) (hne : bt ≠ bm) (hm : w.ownsMap Try.prog 9 (plainElem Try.prog 3) bm ks.length D)
    (hN : Numbers (fun s : ByteArray => Lit.string s.data.toList) (fun s => s.size ≤ 140737488351232) D ks) (hR : 1 ≤ R ∧ R ≤ 65536 ∧ ks.length ≤ R) :
    STab (bt :: bm :: v'.ownBlock.toList) (w.setCell ⟨bt, 1, none⟩ v') (.pointer (some ⟨bt, 0, none⟩)) R ks :=
  ⟨bt, bm, v', D, rfl, hne, h1, h2, rfl, blk_set hb v', owns_row_block hr (fun k hk => heap_set_other _ _ _ _ (fun e => h1 (by rw [hk, e]))), owns_of_block hm (heap_set_other _ _ _ _ (fun e => hne e.symm)), hN, hR⟩
theorem touch_set {w : World} {bt : Nat} {F : List Nat} {u : Value} : Touch (bt :: F) w (w.setCell ⟨bt, 1, none⟩ u) :=
  ⟨rfl, rfl, rfl, by simp [World.setCell], fun k _ hn => heap_set_other _ _ _ _ (fun e => hn (by simp [e]))⟩

/-- All are kept. -/
theorem cut_all {F : List Nat} {w : World} {p : Value} {R : Nat} {ks : List ByteArray} (h : STab F w p R ks) :
    Calls Try.prog 13 #[p, .int .i64 ks.length] w fun e w' => e = .returned (.bool true) ∧ STab F w' p R ks ∧ Touch F w w' := by
  have hroom := h.room
  obtain ⟨bt, bm, v, D, rfl, hne, h1, h2, rfl, hbt, hr, hm, hN, hR⟩ := h
  have c1 : w.cell? ⟨bt, 1, none⟩ = some v := by simp [blk_cell hbt]
  have f1 : w.frozen? ⟨bt, 1, none⟩ = false := blk_froz hbt 1
  rcases stab_row hr with ⟨rfl, rfl⟩ | ⟨g, c, cur, rfl, hg, hc1, hc2, hc3, hc4⟩
  · have hcl := fun w ty => run_clear_none (P := Try.prog) w 34 9 ty Try.underlying34
    have HB := Lib.hid hbt
    have HM := Lib.hid hm
    have HN := Lib.hid hN
    clear hm hbt hN hr h1 h2
    go_enter Try.func13, Try.ntmps13
    go_wp2
    refine wp_loop_rounds 1 ?_
    rw [rounds_succ]
    go_wp2
    all_goals go_ret
    all_goals exact ⟨rfl, cut_store HB.out (World.ownsRow_nil _ _ _ _) (by simp [Value.ownBlock]) (by simp [Value.ownBlock]) hne HM.out HN.out hR, touch_set⟩
  · have hcl := fun w ty => run_clear_none (P := Try.prog) w 34 9 ty Try.underlying34
    have HB := Lib.hid hbt
    have HM := Lib.hid hm
    have HN := Lib.hid hN
    have HR := Lib.hid hr
    have HX := Lib.hid (And.intro h1 h2)
    clear hm hbt hN hr h1 h2 hc4 hg
    unfold maxLen at hc2
    by_cases hcap : c = ks.length
    · subst hcap
      go_enter Try.func13, Try.ntmps13
      go_wp2
      all_goals (refine wp_loop_rounds 1 ?_; rw [rounds_succ]; go_wp2; go_ret; exact ⟨rfl, cut_store HB.out HR.out (by simpa using HX.out.1) (by simpa using HX.out.2) hne HM.out HN.out hR, touch_set⟩)
    have hcap' : ks.length < c := by omega
    go_enter Try.func13, Try.ntmps13
    go_wp2
    all_goals (refine wp_loop_rounds 1 ?_; rw [rounds_succ]; go_wp2; go_ret; exact ⟨rfl, cut_store HB.out HR.out (by simpa using HX.out.1) (by simpa using HX.out.2) hne HM.out HN.out hR, touch_set⟩)

theorem Touch.trans2 {F F' : List Nat} {a b c : World} (h : Touch F a b) (h' : Touch F' b c) : Touch (F ++ F') a c :=
  ⟨h'.os.trans h.os, h'.tape.trans h.tape, h'.output.trans h.output, Nat.le_trans h.size h'.size, fun k hk hn =>
    (h'.block k (Nat.lt_of_lt_of_le hk h.size) (fun hm => hn (List.mem_append_right _ hm))).trans (h.block k hk (fun hm => hn (List.mem_append_left _ hm)))⟩
theorem Touch.sub {F F' : List Nat} {a b : World} (h : Touch F a b) (hs : ∀ k ∈ F, k ∈ F') : Touch F' a b := ⟨h.os, h.tape, h.output, h.size, fun k hk hn => h.block k hk (fun hm => hn (hs k hm))⟩
/-- The loop of a cut: m keys are gone. -/
def CutAt (w : World) (bm n : Nat) (ks : List ByteArray) (m : Nat) (wr : World) : Prop :=
  Touch [bm] w wr ∧ ∃ D, wr.ownsMap Try.prog 9 (plainElem Try.prog 3) bm ks.length D ∧ Cutting (fun s : ByteArray => Lit.string s.data.toList) (fun s => s.size ≤ 140737488351232) D ks n m

theorem cutat_cells {w wr : World} {bt bm n m g c R : Nat} {ks : List ByteArray} {cur : Array Value} {x : ByteArray} (h : CutAt w bm n ks m wr) (hb : w.heap[bt]? = some (.cells #[.int .i64 (R : Int), .slice (some ⟨g, 0, none⟩) ks.length c, .map (some bm)] 50 (0, 0)))
    (hne : bt ≠ bm) (hg : w.heap[g]? = some (.cells cur 9 (0, 0))) (h2 : (Value.slice (some ⟨g, 0, none⟩) ks.length c).ownBlock ≠ some bm) (h4 : cur.toList.take ks.length = ks.map Value.string) (hx : ks[n + m]? = some x) :
    wr.cell? ⟨bt, 2, none⟩ = some (.map (some bm)) ∧ wr.cell? ⟨g, n + m, none⟩ = some (.string x) := by
  have hb1 : wr.heap[bt]? = _ := (h.1.block bt (Array.getElem?_eq_some_iff.1 hb).1 (by simp [hne])).trans hb
  have hg1 : wr.heap[g]? = _ := (h.1.block g (Array.getElem?_eq_some_iff.1 hg).1 (by simp only [List.mem_singleton]; exact fun e => h2 (by rw [e]; rfl))).trans hg
  refine ⟨by simp [blk_cell hb1], ?_⟩
  rw [blk_cell hg1]
  have hi := (List.getElem?_eq_some_iff.1 hx).1
  have h5 : (cur.toList.take ks.length)[n + m]? = some (.string x) := by rw [h4]; simp [hx]
  rw [List.getElem?_take, if_pos hi] at h5
  simpa using h5

theorem cut_done {w w2 : World} {bt bm n g c R L : Nat} {ks : List ByteArray} {cur : Array Value} {D : DataW Unit} {v : Value} (hb : w2.heap[bt]? = some (.cells #[.int .i64 (R : Int), v, .map (some bm)] 50 (0, 0)))
    (hg : w2.heap[g]? = some (.cells cur 9 (0, 0))) (hm : w2.ownsMap Try.prog 9 (plainElem Try.prog 3) bm ks.length D) (hN : Numbers (fun s : ByteArray => Lit.string s.data.toList) (fun s => s.size ≤ 140737488351232) D (ks.take n))
    (hgb : g ≠ bt) (hgm : g ≠ bm) (hne : bt ≠ bm) (hc1 : ks.length ≤ c) (hc2 : c ≤ maxLen) (hc3 : cur.size = c) (h4 : cur.toList.take n = (ks.take n).map Value.string) (hn : n ≤ ks.length) (hR : 1 ≤ R ∧ R ≤ 65536 ∧ ks.length ≤ R) (hT : Touch ([bm] ++ [g]) w w2) :
    STab (bt :: bm :: (Value.slice (some ⟨g, 0, none⟩) L c).ownBlock.toList) (w2.setCell ⟨bt, 1, none⟩ (.slice (some ⟨g, 0, none⟩) n c)) (.pointer (some ⟨bt, 0, none⟩)) R (ks.take n) ∧
      Touch (bt :: bm :: (Value.slice (some ⟨g, 0, none⟩) L c).ownBlock.toList) w (w2.setCell ⟨bt, 1, none⟩ (.slice (some ⟨g, 0, none⟩) n c)) := by
  have hl : (ks.take n).length = n := by simp; omega
  have hr := row_stab (ks := ks.take n) hg (by omega) hc2 hc3 (by rw [hl]; exact h4)
  have e : (.slice (some ⟨g, 0, none⟩) (ks.take n).length c : Value) = .slice (some ⟨g, 0, none⟩) n c := by rw [hl]
  rw [e] at hr
  refine ⟨cut_store hb hr (by simpa [Value.ownBlock] using hgb) (by simpa [Value.ownBlock] using hgm) hne (hN.size ▸ owns_size hm) hN ⟨hR.1, hR.2.1, by omega⟩, ?_⟩
  refine (hT.trans2 (F' := [bt]) (touch_set (F := []))).sub (fun k hk => ?_)
  simp only [List.mem_append, List.mem_singleton] at hk
  simp only [List.mem_cons, Option.mem_toList, Value.ownBlock]
  rcases hk with (rfl | rfl) | rfl <;> simp

set_option maxHeartbeats 400000 in
theorem cut_in {F : List Nat} {w : World} {p : Value} {R : Nat} {ks : List ByteArray} (h : STab F w p R ks) (n : Nat) (hn : n < ks.length) :
    Calls Try.prog 13 #[p, .int .i64 n] w fun e w' => e = .returned (.bool true) ∧ STab F w' p R (ks.take n) ∧ Touch F w w' := by
  have hroom := h.room
  obtain ⟨bt, bm, v, D, rfl, hne, h1, h2, rfl, hbt, hr, hm, hN, hR⟩ := h
  have c1 : w.cell? ⟨bt, 1, none⟩ = some v := by simp [blk_cell hbt]
  rcases stab_row hr with ⟨rfl, rfl⟩ | ⟨g, c, cur, rfl, hg, hc1, hc2, hc3, hc4⟩
  · simp at hn
  have HB := Lib.hid hbt
  have HN := Lib.hid hN
  have HX := Lib.hid (And.intro h1 h2)
  have H4 := Lib.hid hc4
  have HG := Lib.hid hg
  have C0 : Hid (CutAt w bm n ks 0 w) := Lib.hid ⟨Touch.refl' _ _, D, hm, hN.cutting n⟩
  clear hm hbt hN hr h1 h2 hc4 hg
  unfold maxLen at hc2
  have hd0 : decide ((n : Int) < 0) = false := by simp
  have hd1 : decide (ks.length < n) = false := by simp; omega
  have hd2 : ¬ (ks.length < n) := by omega
  go_enter Try.func13, Try.ntmps13
  go_wp2
  go_loopw [27] (fun i wr => ∃ m : Nat, m ≤ ks.length - n ∧ i = .int .i64 m ∧ Hid (CutAt w bm n ks m wr)) (fun i _ => ks.length - (intOf i).toNat)
  case atStart => exact ⟨0, by omega, rfl, C0⟩
  case round =>
    obtain ⟨m, hm, rfl, HC⟩ := hrel
    by_cases hlt : m < ks.length - n
    · obtain ⟨x, hx⟩ : ∃ x, ks[n + m]? = some x := ⟨_, List.getElem?_eq_getElem (by omega)⟩
      have hxk : x.size ≤ 140737488351232 := HN.out.good x (List.mem_of_getElem? hx)
      have hkey := keyOf_string_mk Try.underlying9 (s := x) (by unfold maxLen; omega)
      have hcc := cutat_cells HC.out HB.out hne HG.out HX.out.2 H4.out hx
      obtain ⟨c2, cx⟩ := hcc
      obtain ⟨D1, hm1, hC1⟩ := HC.out.2
      have HM1 := Lib.hid hm1
      have HC1 := Lib.hid hC1
      have HXX := Lib.hid hx
      clear hm1 hC1 hx
      go_wp2_with (first
        | (at_delete; refine wpList_delete_own _ rfl _ _ 48 9 rfl 3 sLaw Try.underlying48 _ bm ks.length D1 rfl HM1.out _ _ rfl hkey ?_; intro w1 hown1 hturn1)
        | go_in)
      go_roundw
      case rel =>
        exact ⟨m + 1, by omega, by go_num, Lib.hid ⟨HC.out.1.trans (Touch.grown hturn1.grown (fun k e => by cases e; simp)) (fun k h => Or.inl h), _, hown1, HC1.out.step HN.out.nodup HN.out.good sInj HXX.out⟩⟩
      case measure => simp [intOf]; omega
    · obtain ⟨D1, hm1, hC1⟩ := HC.out.2
      obtain rfl : m = ks.length - n := by omega
      have e1 : ∀ k, k ≠ bm → k < w.heap.size → wr.heap[k]? = w.heap[k]? := fun k h1 h2 => HC.out.1.block k h2 (by simp [h1])
      have hbl := (Array.getElem?_eq_some_iff.1 HB.out).1
      have hgl := (Array.getElem?_eq_some_iff.1 HG.out).1
      have hgb : g ≠ bt := fun e => HX.out.1 (by rw [e]; rfl)
      have hgm : g ≠ bm := fun e => HX.out.2 (by rw [e]; rfl)
      have hb1 := (e1 bt hne hbl).trans HB.out
      have hg1 := (e1 g hgm hgl).trans HG.out
      have hcl : ∀ ty c', (Builtin.clear_ #[34] ty #[.slice (some ⟨g, n, none⟩) (ks.length - n) c']).run Try.prog wr = .ok (.tuple #[]) (wr.setRow g (cur.toList.take n ++ List.replicate (ks.length - n) (Value.string ⟨#[]⟩) ++ cur.toList.drop (n + (ks.length - n))).toArray) :=
        fun ty c' => run_clear_row wr _ _ ty _ Try.underlying34 (fun w => by kernel_rfl) rfl rfl g n (ks.length - n) c' cur 9 hg1 (by omega) (by omega)
      generalize hcur : (cur.toList.take n ++ List.replicate (ks.length - n) (Value.string ⟨#[]⟩) ++ cur.toList.drop (n + (ks.length - n))).toArray = cur' at hcl
      have hb2 : (wr.setRow g cur').heap[bt]? = some (.cells #[.int .i64 (R : Int), .slice (some ⟨g, 0, none⟩) ks.length c, .map (some bm)] 50 (0, 0)) := (setRow_other wr g bt cur' (fun e => hgb e.symm)).trans hb1
      have hg2 : (wr.setRow g cur').heap[g]? = some (.cells cur' 9 (0, 0)) := setRow_heap wr g _ _ _ _ hg1
      have hm2 : (wr.setRow g cur').ownsMap Try.prog 9 (plainElem Try.prog 3) bm ks.length D1 := owns_of_block hm1 (setRow_other wr g bm cur' (fun e => hgm e.symm))
      have hT := HC.out.1.trans2 (F' := [g]) (c := wr.setRow g cur') (⟨rfl, rfl, rfl, by simp [World.setRow], fun k _ hn => setRow_other wr g k cur' (by simpa using hn)⟩)
      have hsz : cur'.size = c := by rw [← hcur, List.size_toArray]; simp; omega
      have htk : cur'.toList.take n = (ks.take n).map Value.string := by
        rw [← hcur, List.append_assoc, List.take_append_of_le_length (by simp; omega), List.take_take, Nat.min_self, List.map_take, ← H4.out, List.take_take, Nat.min_eq_left (by omega)]
      clear hcur
      generalize wr.setRow g cur' = w2 at *
      have c1' : w2.cell? ⟨bt, 1, none⟩ = some (.slice (some ⟨g, 0, none⟩) ks.length c) := by simp [blk_cell hb2]
      have f1' : w2.frozen? ⟨bt, 1, none⟩ = false := blk_froz hb2 1
      have HD := Lib.hid (cut_done (L := ks.length) hb2 hg2 hm2 (hC1.done (by omega) HN.out.nodup HN.out.good) hgb hgm hne hc1 (by unfold maxLen; omega) hsz htk (by omega) hR hT)
      clear hb2 hg2 hm2 hC1 hT htk hsz hb1 hg1 hm1 e1 hgb hgm
      go_wp2
      go_ret
      exact ⟨rfl, HD.out⟩
end Go.Proofs.Ytjpdigdocdppbaa
