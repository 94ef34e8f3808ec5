/- Tables of strings: Find, Len, At, Put. -/
import Derived.Test.YtjpdigdocdppbaaTabS
import Derived.Deep.QuietTactic
import Derived.BigQuiet
import Derived.OwnWalk
namespace Go.Proofs.Ytjpdigdocdppbaa
open Go.RowKit Go.Maps Go.WideMaps

theorem belN {B : Nat} {a w : World} (h : Below B a w) (n : Nat) : Below B a (w.drewN n) := ⟨h.os, h.tape, h.output, h.size, h.block⟩
theorem blk_cell {w : World} {b t : Nat} {cs : Array Value} {fz : Nat × Nat} (h : w.heap[b]? = some (.cells cs t fz)) (i : Nat) : w.cell? ⟨b, i, none⟩ = cs[i]? := by simp [World.cell?, h]
theorem blk_froz {w : World} {b t : Nat} {cs : Array Value} (h : w.heap[b]? = some (.cells cs t (0, 0))) (i : Nat) : w.frozen? ⟨b, i, none⟩ = false := by simp [World.frozen?, h]
theorem blk_set {w : World} {b t : Nat} {x y z : Value} (h : w.heap[b]? = some (.cells #[x, y, z] t (0, 0))) (u : Value) : (w.setCell ⟨b, 1, none⟩ u).heap[b]? = some (.cells #[x, u, z] t (0, 0)) := by
  simp [World.setCell, Array.getElem?_modify, h]

theorem find_any {F : List Nat} {w : World} {p : Value} {R : Nat} {ks : List ByteArray} (h : STab F w p R ks) (k : ByteArray) (hk : k.size ≤ 140737488351232) {n : Int} {b : Bool} (hl : Looks ks k n b) :
    Calls Try.prog 14 #[p, .string k] w fun e w' => e = .returned (.tuple #[.int .i64 n, .bool b]) ∧ Below w.heap.size w w' := by
  obtain ⟨bt, rfl⟩ : ∃ bt, p = .pointer (some ⟨bt, 0, none⟩) := by obtain ⟨bt, _, _, _, rfl, _⟩ := h; exact ⟨bt, rfl⟩
  have HT := Lib.hid h
  have HL := Lib.hid hl
  clear h hl
  go_enter Try.func14, Try.ntmps14
  (go_wp2_with fail; go_fit (look_any HT.out k hk HL.out); rintro e w' ⟨rfl, hb⟩)
  have HB := Lib.hid hb; clear hb
  go_wp2
  go_ret2
  exact ⟨rfl, HB.out⟩

theorem len_any {F : List Nat} {w : World} {p : Value} {R : Nat} {ks : List ByteArray} (h : STab F w p R ks) :
    Calls Try.prog 17 #[p] w fun e w' => e = .returned (.int .i64 ks.length) ∧ w = w' := by
  obtain ⟨bt, bm, v, D, rfl, hne, h1, h2, rfl, hbt, hr, hm, hN, hR⟩ := h
  have c1 : w.cell? ⟨bt, 1, none⟩ = some v := by simp [blk_cell hbt]
  obtain ⟨a, c, rfl⟩ : ∃ a c, v = .slice a ks.length c := by
    rcases hr.2 with ⟨rfl, h0⟩ | ⟨g, cap, cur, rfl, _⟩
    · exact ⟨none, 0, by rw [h0]⟩
    · exact ⟨_, cap, rfl⟩
  clear hm hbt hN hr h1 h2
  go_enter Try.func17, Try.ntmps17
  go_wp2
  go_ret
  exact ⟨rfl, rfl⟩

theorem flat_one : ∀ ks : List ByteArray, ks.flatMap (fun s => [Value.string s]) = ks.map Value.string
  | [] => rfl
  | a :: l => by rw [List.flatMap_cons, flat_one l]; rfl
/-- The keys' cells. -/
theorem stab_cells {w : World} {v : Value} {ks : List ByteArray} (hr : w.ownsRow 0 9 1 v ks.length (ks.flatMap (fun s => [Value.string s]))) :
    ∃ (a : Option Addr) (c : Nat), v = .slice a ks.length c ∧ ks.length ≤ c ∧ ((a = none ∧ ks = []) ∨ ∃ g, a = some ⟨g, 0, none⟩ ∧ g < w.heap.size ∧ ∀ (i : Nat) (x : ByteArray), ks[i]? = some x → w.cell? ⟨g, i, none⟩ = some (.string x)) := by
  rw [flat_one] at hr
  rcases hr.2 with ⟨rfl, h0⟩ | ⟨g, cap, cur, rfl, hg, hh, hc1, hc2, hc3, hc4⟩
  · exact ⟨none, 0, by rw [h0], by omega, Or.inl ⟨rfl, List.length_eq_zero_iff.1 h0⟩⟩
  · refine ⟨_, cap, rfl, hc1, Or.inr ⟨g, rfl, (Array.getElem?_eq_some_iff.1 hh).1, fun i x hx => ?_⟩⟩
    rw [blk_cell hh]
    have hi := (List.getElem?_eq_some_iff.1 hx).1
    have h5 : (cur.toList.take (ks.length * 1))[i]? = some (.string x) := by rw [hc4]; simp [hx]
    rw [List.getElem?_take] at h5
    split at h5
    · simpa using h5
    · cases h5

theorem at_out {F : List Nat} {w : World} {p : Value} {R : Nat} {ks : List ByteArray} (h : STab F w p R ks) (i : Int) (hi : i < 0 ∨ (ks.length : Int) ≤ i) :
    Calls Try.prog 15 #[p, .int .i64 i] w fun e w' => e = .returned (.tuple #[.string ⟨#[]⟩, .bool false]) ∧ w = w' := by
  obtain ⟨bt, bm, v, D, rfl, hne, h1, h2, rfl, hbt, hr, hm, hN, hR⟩ := h
  have c1 : w.cell? ⟨bt, 1, none⟩ = some v := by simp [blk_cell hbt]
  obtain ⟨a, c, rfl, _⟩ := stab_cells hr
  clear hm hbt hN hr h1 h2
  by_cases h0 : i < 0
  · go_enter Try.func15, Try.ntmps15
    go_wp2
    go_ret2
    exact ⟨rfl, rfl⟩
  · have hle : (ks.length : Int) ≤ i := by omega
    go_enter Try.func15, Try.ntmps15
    go_wp2
    go_ret2
    exact ⟨rfl, rfl⟩
theorem at_in {F : List Nat} {w : World} {p : Value} {R : Nat} {ks : List ByteArray} (h : STab F w p R ks) (i : Nat) (x : ByteArray) (hx : ks[i]? = some x) :
    Calls Try.prog 15 #[p, .int .i64 i] w fun e w' => e = .returned (.tuple #[.string x, .bool true]) ∧ w = w' := by
  obtain ⟨bt, bm, v, D, rfl, hne, h1, h2, rfl, hbt, hr, hm, hN, hR⟩ := h
  have c1 : w.cell? ⟨bt, 1, none⟩ = some v := by simp [blk_cell hbt]
  have hi := (List.getElem?_eq_some_iff.1 hx).1
  obtain ⟨a, c, rfl, hc, ⟨rfl, rfl⟩ | ⟨g, rfl, hg, hcell⟩⟩ := stab_cells hr
  · simp at hx
  have cx := hcell i x hx
  clear hm hbt hN hr h1 h2 hcell hx
  go_enter Try.func15, Try.ntmps15
  go_wp2
  go_ret2
  exact ⟨rfl, rfl⟩

theorem sInfo : (Try.prog.info? 9).map (fun i => (i.zero, i.size, i.bytes)) = some (some (.string ⟨#[]⟩), 1, 16) := by kernel_rfl
theorem Touch.refl' (F : List Nat) (w : World) : Touch F w w := ⟨rfl, rfl, rfl, Nat.le_refl _, fun _ _ _ => rfl⟩

theorem row_slice {w : World} {b e sz n : Nat} {v : Value} {xs : List Value} (h : w.ownsRow b e sz v n xs) : ∃ a c, v = .slice a n c := by
  rcases h.2 with ⟨rfl, h0⟩ | ⟨g, cap, cur, rfl, _⟩
  · exact ⟨none, 0, by rw [h0]⟩
  · exact ⟨_, cap, rfl⟩
theorem heap_set_other (w : World) (a : Addr) (u : Value) (k : Nat) (h : k ≠ a.block) : (w.setCell a u).heap[k]? = w.heap[k]? := Below.heap_setCell w a u k h
/-- What the append that a put makes leaves of the table. -/
theorem put_grown {w w2 w3 : World} {o : Obj} {bt bm tb n : Nat} {x v z : Value} {D : DataW Unit} {kt it : Nat} (hB : Below w.heap.size w w2) (hbt : bt < w.heap.size) (hbm : bm < w.heap.size) (hne : bt ≠ bm)
    (h1 : v.ownBlock ≠ some bt) (h2 : v.ownBlock ≠ some bm) (hb : w.heap[bt]? = some (.cells #[x, v, z] tb (0, 0))) (hm : w.ownsMap Try.prog kt (plainElem Try.prog it) bm n D) (hg : (w2.alloc o).grownBy w3 v.ownBlock) :
    w3.heap[bt]? = some (.cells #[x, v, z] tb (0, 0)) ∧ ∀ u, (w3.setCell ⟨bt, 1, none⟩ u).ownsMap Try.prog kt (plainElem Try.prog it) bm n D := by
  have hs := hB.size
  have e : ∀ k, k < w.heap.size → some k ≠ v.ownBlock → w3.heap[k]? = w.heap[k]? := fun k hk hn =>
    (hg.block k (by simp; omega) hn).trans ((Below.heap_alloc w2 o k (by omega)).trans (hB.block k hk))
  exact ⟨(e bt hbt (fun h => h1 h.symm)).trans hb, fun u => owns_of_block hm ((heap_set_other _ _ _ _ (fun h => hne h.symm)).trans (e bm hbm (fun h => h2 h.symm)))⟩

theorem set_turn_row {w3 w4 : World} {bt bm : Nat} {u v' : Value} {e n : Nat} {xs : List Value} (h : w3.ownsRow 0 e 1 v' n xs) (h1 : v'.ownBlock ≠ some bt) (h2 : v'.ownBlock ≠ some bm) (ht : (w3.setCell ⟨bt, 1, none⟩ u).mapTurned w4 bm) :
    w4.ownsRow 0 e 1 v' n xs :=
  owns_row_block h (fun k hk => by
    have hlt := (h.lt k hk).2
    refine (ht.grown.block k (by simpa [World.setCell] using hlt) (fun e' => h2 (by rw [hk, e']))).trans (heap_set_other _ _ _ _ (fun e' => h1 (by rw [hk, e'])))) 
/-- The end of a put that lays a new key. -/
theorem put_done {w w2 w3 w4 : World} {bt bm R : Nat} {v v' : Value} {k : ByteArray} {ks : List ByteArray} {D : DataW Unit} (h1 : v.ownBlock ≠ some bt) (h2 : v.ownBlock ≠ some bm) (hne : bt ≠ bm)
    (hN : Numbers (fun s : ByteArray => Lit.string s.data.toList) (fun s => s.size ≤ 140737488351232) D ks) (hk : k.size ≤ 140737488351232) (hn : k ∉ ks) (hlt : ks.length < R) (hR : 1 ≤ R ∧ R ≤ 65536 ∧ ks.length ≤ R)
    (hB : Below w.heap.size w w2) (hbt : bt < w.heap.size) (hbm : bm < w.heap.size) (hrl : ∀ k, v.ownBlock = some k → 0 ≤ k ∧ k < w.heap.size) {o : Obj} (hg : (w2.alloc o).grownBy w3 v.ownBlock)
    (hat : v'.ownBlock = v.ownBlock ∨ v'.ownBlock = some (w2.alloc o).heap.size) (hr : w3.ownsRow 0 9 1 v' (ks.length + 1) (ks.map Value.string ++ [Value.string k]))
    (hb3 : w3.heap[bt]? = some (.cells #[.int .i64 (R : Int), v, .map (some bm)] 50 (0, 0)))
    (hm4 : w4.ownsMap Try.prog 9 (plainElem Try.prog 3) bm (ks.length + 1) (D.put (.string k.data.toList) (.lit (.int .i64 ks.length)))) (ht : (w3.setCell ⟨bt, 1, none⟩ v').mapTurned w4 bm) :
    ∃ F', STab F' w4 (.pointer (some ⟨bt, 0, none⟩)) R (ks ++ [k]) ∧ Touch (bt :: bm :: v.ownBlock.toList) w w4 ∧ ∀ j ∈ F', j ∈ (bt :: bm :: v.ownBlock.toList) ∨ w.heap.size ≤ j := by
  have hs := hB.size
  have hsz : (w2.alloc o).heap.size = w2.heap.size + 1 := by simp
  have g1 : v'.ownBlock ≠ some bt := by
    rcases hat with e | e <;> rw [e]
    · exact h1
    · intro e'; simp at e'; omega
  have g2 : v'.ownBlock ≠ some bm := by
    rcases hat with e | e <;> rw [e]
    · exact h2
    · intro e'; simp at e'; omega
  have hs3 : w3.heap.size ≤ w4.heap.size := by simpa [World.setCell] using ht.grown.size
  refine ⟨bt :: bm :: v'.ownBlock.toList, ⟨bt, bm, v', _, rfl, hne, g1, g2, rfl, ?_, ?_, ?_, hN.put sInj sKey hk hn, hR.1, hR.2.1, by simp; omega⟩, ?_, ?_⟩
  · exact (ht.grown.block bt (by simp [World.setCell]; have := hg.size; omega) (fun e => hne (Option.some.inj e))).trans (blk_set hb3 v')
  · have e := set_turn_row hr g1 g2 ht
    rw [flat_one]
    simpa using e
  · simpa using hm4
  · refine ⟨ht.grown.os.trans (hg.os.trans hB.os), ht.grown.tape.trans (hg.tape.trans hB.tape), ht.grown.output.trans (hg.output.trans hB.output), by have := hg.size; omega, fun j hj hnj => ?_⟩
    simp only [List.mem_cons, Option.mem_toList, not_or] at hnj
    refine (ht.grown.block j (by simp [World.setCell]; have := hg.size; omega) (fun e => hnj.2.1 (Option.some.inj e))).trans ((heap_set_other _ _ _ _ hnj.1).trans ?_)
    exact (hg.block j (by omega) (fun e => hnj.2.2 e.symm)).trans ((Below.heap_alloc w2 o j (by omega)).trans (hB.block j hj))
  · intro j hj
    simp only [List.mem_cons, Option.mem_toList] at hj ⊢
    rcases hj with rfl | rfl | hj
    · exact Or.inl (Or.inl rfl)
    · exact Or.inl (Or.inr (Or.inl rfl))
    · rcases hat with e | e
      · exact Or.inl (Or.inr (Or.inr (e ▸ hj)))
      · rw [e] at hj; right; simp at hj; omega

set_option maxHeartbeats 1000000 in
theorem put_any {F : List Nat} {w : World} {p : Value} {R : Nat} {ks : List ByteArray} (h : STab F w p R ks) (k : ByteArray) (hk : k.size ≤ 140737488351232) {n : Int} {b : Bool} {ks' : List ByteArray} (hp : Puts R ks k n b ks') :
    Calls Try.prog 12 #[p, .string k] w fun e w' => e = .returned (.tuple #[.int .i64 n, .bool b]) ∧ ∃ F', STab F' w' p R ks' ∧ Touch F w w' ∧ ∀ k ∈ F', k ∈ F ∨ w.heap.size ≤ k := by
  have HT := Lib.hid h
  have hroom := h.room
  obtain ⟨bt, bm, v, D, rfl, hne, h1, h2, rfl, hbt, hr, hm, hN, hR⟩ := h
  rcases hp with ⟨rfl, hks, i, rfl, hi⟩ | ⟨rfl, rfl, hn, hks, hle⟩ | ⟨rfl, rfl, hn, rfl, hlt⟩
  · subst hks
    have HL := Lib.hid (show Looks ks' k i true from Or.inl ⟨rfl, i, rfl, hi⟩)
    clear hm hbt hN hr h1 h2 hi
    go_enter Try.func12, Try.ntmps12
    (go_wp2_with fail; go_fit (look_any HT.out k hk HL.out); rintro e w1 ⟨rfl, hb⟩)
    have HB := Lib.hid hb; clear hb
    go_wp2_with fail
    go_quiet (fail)
    go_wp2
    go_ret2
    exact ⟨rfl, _, (HT.out.ext HB.out).ext (belN (Below.refl _ _) _), Touch.of_below (belN HB.out _) _, fun k h => Or.inl h⟩
  · subst hks
    have HL := Lib.hid (show Looks ks' k 0 false from Or.inr ⟨rfl, rfl, hn⟩)
    have H0 : ∀ w1 : World, Below w.heap.size w w1 → w1.cell? ⟨bt, 0, none⟩ = some (.int .i64 (R : Int)) ∧ w1.cell? ⟨bt, 1, none⟩ = some v := fun w1 hb => by
      have hb' : w1.heap[bt]? = _ := (hb.block bt (Array.getElem?_eq_some_iff.1 hbt).1).trans hbt
      exact ⟨by simp [blk_cell hb'], by simp [blk_cell hb']⟩
    obtain ⟨a, c, rfl, _⟩ := stab_cells hr
    have H0 := Lib.hid H0
    clear hm hbt hN hr h1 h2 hn
    go_enter Try.func12, Try.ntmps12
    (go_wp2_with fail; go_fit (look_any HT.out k hk HL.out); rintro e w1 ⟨rfl, hb⟩)
    obtain ⟨c0, c1⟩ := H0.out w1 hb
    have HB := Lib.hid hb; clear hb
    have hge : (R : Int) ≤ ks'.length := by omega
    go_wp2_with fail
    go_quiet (fail)
    go_wp2
    go_ret2
    exact ⟨rfl, _, (HT.out.ext HB.out).ext (belN (Below.refl _ _) _), Touch.of_below (belN HB.out _) _, fun k h => Or.inl h⟩
  · have HL := Lib.hid (show Looks ks k 0 false from Or.inr ⟨rfl, rfl, hn⟩)
    have H0 : ∀ w1 : World, Below w.heap.size w w1 → w1.heap[bt]? = some (.cells #[.int .i64 (R : Int), v, .map (some bm)] 50 (0, 0)) := fun w1 hb =>
      (hb.block bt (Array.getElem?_eq_some_iff.1 hbt).1).trans hbt
    obtain ⟨i0, hi, hz0, hz1, hz2⟩ := info_parts sInfo
    have hbtl := (Array.getElem?_eq_some_iff.1 hbt).1
    have hbml := hm.lt
    have hrl := hr.lt
    have hkey := keyOf_string_mk Try.underlying9 (s := k) (by unfold maxLen; omega)
    obtain ⟨a, c, rfl, _⟩ := stab_cells hr
    rw [flat_one] at hr
    have H0 := Lib.hid H0
    have HR := Lib.hid hr
    have HM := Lib.hid hm
    have HN := Lib.hid hN
    have HX := Lib.hid (And.intro h1 h2)
    have HQ := Lib.hid hn
    have HRL := Lib.hid hrl
    clear hm hbt hN hr h1 h2 hn hrl
    go_enter Try.func12, Try.ntmps12
    (go_wp2_with fail; go_fit (look_any HT.out k hk HL.out); rintro e w1 ⟨rfl, hb⟩)
    have hb1 := H0.out w1 hb
    have c0 : w1.cell? ⟨bt, 0, none⟩ = some (.int .i64 (R : Int)) := by simp [blk_cell hb1]
    have c1 : w1.cell? ⟨bt, 1, none⟩ = some (.slice a ks.length c) := by simp [blk_cell hb1]
    have HB := Lib.hid hb; clear hb
    have HB1 := Lib.hid hb1; clear hb1
    have hge : decide ((R : Int) ≤ ks.length) = false := by simp; omega
    go_wp2_with fail
    go_quiet (fail)
    have HB2 := Lib.hid (belN HB.out nq)
    clear HB HB1 c0 c1
    generalize w1.drewN nq = w2 at *
    have hb2 := H0.out w2 HB2.out
    have c1 : w2.cell? ⟨bt, 1, none⟩ = some (.slice a ks.length c) := by simp [blk_cell hb2]
    have c1' : ∀ o, (w2.alloc o).cell? ⟨bt, 1, none⟩ = some (.slice a ks.length c) := fun o => Lib.cell?_alloc_some _ c1
    have HB1 := Lib.hid hb2
    have hrow : ∀ o, (w2.alloc o).ownsRow 0 9 1 (.slice a ks.length c) ks.length (ks.map Value.string) := fun o => (owns_row_block HR.out (fun k hk => HB2.out.block k (HRL.out k hk).2)).alloc _
    have HW := Lib.hid hrow
    have HG := Lib.hid (fun (o : Obj) (w3 : World) (hg : (w2.alloc o).grownBy w3 (Value.slice a ks.length c).ownBlock) => put_grown HB2.out hbtl hbml hne HX.out.1 HX.out.2 (H0.out w (Below.refl _ _)) HM.out hg)
    clear hb2 hrow
    go_wp2_with (first
      | (at_builtin; refine wpList_append_own_at _ rfl _ _ 34 rfl 0 9 i0 (.string ⟨#[]⟩) 1 16 Try.underlying34 hi hz0 hz1 hz2 rfl (by decide) _ _ _ rfl (HW.out _)
          ⟨_, 0, none⟩ 1 1 [.string k] rfl rfl (cell_one_new _ _ _) (by simp [Value.oneCell']) (by unfold maxLen; omega) (by omega) (by simp) ?_; intro v' w3 hown' hgrow hnil hat
         obtain ⟨a', c', rfl⟩ := row_slice hown'
         obtain ⟨hb3, hm3⟩ := HG.out _ _ hgrow
         have d1 : w3.cell? ⟨bt, 1, none⟩ = some (.slice a ks.length c) := by simp [blk_cell hb3]
         have d2 : ∀ u, (w3.setCell ⟨bt, 1, none⟩ u).cell? ⟨bt, 2, none⟩ = some (.map (some bm)) := fun u => by simp [blk_cell (blk_set hb3 u)]
         have d3 : w3.frozen? ⟨bt, 1, none⟩ = false := blk_froz hb3 1
         have HO := Lib.hid hown'
         have HGR := Lib.hid hgrow
         have HAT := Lib.hid hat
         have HM3 := Lib.hid hm3
         have HB3 := Lib.hid hb3
         clear hown' hgrow hnil hat hm3 hb3)
      | (at_mapUpdate; refine wpList_mapUpdate_in _ rfl _ _ _ 48 rfl 9 3 sLaw Try.underlying48 _ bm ks.length D rfl (HM3.out _) (by unfold maxLen; omega) _ _ _ rfl rfl hkey _ [] (plainElem_int Try.underlying3 (WalkArith.wf_i64 ⟨by omega, by omega⟩)) ?_; intro w4 hown4 hturn4
         have HO4 := Lib.hid hown4
         have HT4 := Lib.hid hturn4
         clear hown4 hturn4)
      | go_in)
    go_ret2
    refine ⟨rfl, put_done HX.out.1 HX.out.2 hne HN.out hk HQ.out hlt hR HB2.out hbtl hbml HRL.out HGR.out HAT.out HO.out HB3.out HO4.out HT4.out⟩
end Go.Proofs.Ytjpdigdocdppbaa
