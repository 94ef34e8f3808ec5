/- Tables of pairs of numbers: Put. -/
import Derived.Test.YtjpdigdocdppbaaPair
import Derived.Deep.RegionLaw
namespace Go.Proofs.Ytjpdigdocdppbaa
open Go.RowKit Go.Maps Go.WideMaps

theorem flat_size {ks : List PairV} : (ks.flatMap pcells).length = ks.length * 2 := by
  induction ks with
  | nil => rfl
  | cons a l ih => rw [List.flatMap_cons, List.length_append, ih, List.length_cons]; simp [pcells]; omega
/-- The end of a put that lays a new key. -/
theorem pput_done {w w2 w3 w4 : World} {bt bm R : Nat} {v v' : Value} {k : PairV} {ks : List PairV} {D : DataW Unit} (h1 : v.ownBlock ≠ some bt) (h2 : v.ownBlock ≠ some bm) (hne : bt ≠ bm)
    (hN : Numbers plit pok D ks) (hk : pok k) (hn : k ∉ ks) (hlt : ks.length < R) (hR : 1 ≤ R ∧ R ≤ 65536 ∧ ks.length ≤ R)
    (hB : Below w.heap.size w w2) (hbt : bt < w.heap.size) (hbm : bm < w.heap.size) {o : Obj} (hg : (w2.alloc o).drew.grownBy w3 v.ownBlock)
    (hat : v'.ownBlock = v.ownBlock ∨ v'.ownBlock = some (w2.heap.size + 1)) (hr : w3.ownsRow 0 25 2 v' (ks.length + 1) (ks.flatMap pcells ++ pcells k))
    (hb3 : w3.heap[bt]? = some (.cells #[.int .i64 (R : Int), v, .map (some bm)] 47 (0, 0)))
    (hm4 : w4.ownsMap Try.prog 25 (plainElem Try.prog 3) bm (ks.length + 1) (D.put (plit k) (.lit (.int .i64 ks.length)))) (ht : (w3.setCell ⟨bt, 1, none⟩ v').drew.mapTurned w4 bm) :
    ∃ F', PTab F' w4 (.pointer (some ⟨bt, 0, none⟩)) R (ks ++ [k]) ∧ Touch (bt :: bm :: v.ownBlock.toList) w w4 ∧ ∀ j ∈ F', j ∈ (bt :: bm :: v.ownBlock.toList) ∨ w.heap.size ≤ j := by
  have hs := hB.size
  have hsz : (w2.alloc o).drew.heap.size = w2.heap.size + 1 := by show (w2.alloc o).heap.size = _; simp
  have hs2 := hg.size
  have hsd : (w3.setCell ⟨bt, 1, none⟩ v').drew.heap.size = w3.heap.size := by show (w3.setCell ⟨bt, 1, none⟩ v').heap.size = _; simp [World.setCell]
  have ht' : ∀ k, k < w3.heap.size → some k ≠ some bm → w4.heap[k]? = (w3.setCell ⟨bt, 1, none⟩ v').heap[k]? := fun k hk hn => ht.grown.block k (by rw [hsd]; exact hk) hn
  have g1 : v'.ownBlock ≠ some bt := by
    rcases hat with e | e <;> rw [e]
    · exact h1
    · intro e'; simp at e'; omega
  have g2 : v'.ownBlock ≠ some bm := by
    rcases hat with e | e <;> rw [e]
    · exact h2
    · intro e'; simp at e'; omega
  have hs3 : w3.heap.size ≤ w4.heap.size := by have := ht.grown.size; omega
  refine ⟨bt :: bm :: v'.ownBlock.toList, ⟨bt, bm, v', _, rfl, hne, g1, g2, rfl, ?_, ?_, ?_, hN.put pInj pKey hk hn, hR.1, hR.2.1, by simp; omega⟩, ?_, ?_⟩
  · exact (ht' bt (by omega) (fun e => hne (Option.some.inj e))).trans (blk_set hb3 v')
  · have e : w4.ownsRow 0 25 2 v' (ks.length + 1) (ks.flatMap pcells ++ pcells k) := owns_row_block hr (fun k hk => (ht' k (hr.lt k hk).2 (fun e' => g2 (by rw [hk, e']))).trans (heap_set_other _ _ _ _ (fun e' => g1 (by rw [hk, e']))))
    simpa using e
  · simpa using hm4
  · refine ⟨ht.grown.os.trans (hg.os.trans hB.os), ht.grown.tape.trans (hg.tape.trans hB.tape), ht.grown.output.trans (hg.output.trans hB.output), by omega, fun j hj hnj => ?_⟩
    simp only [List.mem_cons, Option.mem_toList, not_or] at hnj
    refine (ht' j (by omega) (fun e => hnj.2.1 (Option.some.inj e))).trans ((heap_set_other _ _ _ _ hnj.1).trans ?_)
    exact (hg.block j (by omega) (fun e => hnj.2.2 e.symm)).trans ((Below.heap_alloc w2 o j (by omega)).trans (hB.block j hj))
  · intro j hj
    simp only [List.mem_cons, Option.mem_toList] at hj ⊢
    rcases hj with rfl | rfl | hj
    · exact Or.inl (Or.inl rfl)
    · exact Or.inl (Or.inr (Or.inl rfl))
    · rcases hat with e | e
      · exact Or.inl (Or.inr (Or.inr (e ▸ hj)))
      · rw [e] at hj; right; simp at hj; omega
theorem pput_grown {w w2 w3 : World} {o : Obj} {bt bm tb n : Nat} {x v z : Value} {D : DataW Unit} {kt it : Nat} (hB : Below w.heap.size w w2) (hbt : bt < w.heap.size) (hbm : bm < w.heap.size) (hne : bt ≠ bm)
    (h1 : v.ownBlock ≠ some bt) (h2 : v.ownBlock ≠ some bm) (hb : w.heap[bt]? = some (.cells #[x, v, z] tb (0, 0))) (hm : w.ownsMap Try.prog kt (plainElem Try.prog it) bm n D) (hg : (w2.alloc o).drew.grownBy w3 v.ownBlock) :
    w3.heap[bt]? = some (.cells #[x, v, z] tb (0, 0)) ∧ ∀ u, (w3.setCell ⟨bt, 1, none⟩ u).ownsMap Try.prog kt (plainElem Try.prog it) bm n D := by
  have hs := hB.size
  have e : ∀ k, k < w.heap.size → some k ≠ v.ownBlock → w3.heap[k]? = w.heap[k]? := fun k hk hn =>
    (hg.block k (by show k < (w2.alloc o).heap.size; simp; omega) hn).trans ((Below.heap_alloc w2 o k (by omega)).trans (hB.block k hk))
  exact ⟨(e bt hbt (fun h => h1 h.symm)).trans hb, fun u => owns_of_block hm ((heap_set_other _ _ _ _ (fun h => hne h.symm)).trans (e bm hbm (fun h => h2 h.symm)))⟩

theorem pput_kept {w w2 w3 : World} {o ob : Obj} {b : Nat} {v : Value} (_ : Below w.heap.size w w2) (hk : w2.heap[b]? = some ob) (hb : w.heap.size ≤ b) (hr : ∀ k, v.ownBlock = some k → 0 ≤ k ∧ k < w.heap.size) (hg : (w2.alloc o).drew.grownBy w3 v.ownBlock) : w3.heap[b]? = some ob := by
  have hl := (Array.getElem?_eq_some_iff.1 hk).1
  exact (hg.block b (by show b < (w2.alloc o).heap.size; simp; omega) (fun e => by have := (hr b e.symm).2; omega)).trans ((Below.heap_alloc w2 o b hl).trans hk)

set_option maxHeartbeats 2000000 in
theorem pput_any {F : List Nat} {w : World} {p : Value} {R : Nat} {ks : List PairV} (h : PTab F w p R ks) (k : PairV) (hk : pok k) {n : Int} {b : Bool} {ks' : List PairV} (hp : Puts R ks k n b ks') :
    Calls Try.prog 11 #[p, pval k] w fun e w' => e = .returned (.tuple #[.int .i64 n, .bool b]) ∧ ∃ F', PTab F' w' p R ks' ∧ Touch F w w' ∧ ∀ k ∈ F', k ∈ F ∨ w.heap.size ≤ k := by
  have HT0 := Lib.hid (h.ext ((Below.refl _ _).alloc (Nat.le_refl _) (.cells #[.int .i64 k.a, .int .i64 k.b] 25)))
  have HT := Lib.hid h
  have hroom := h.room
  obtain ⟨bt, bm, v, D, rfl, hne, h1, h2, rfl, hbt, hr, hm, hN, hR⟩ := h
  have hbk := Lib.hid (show Below w.heap.size w (w.alloc (.cells #[.int .i64 k.a, .int .i64 k.b] 25)) from (Below.refl _ _).alloc (Nat.le_refl _) _)
  obtain ⟨w0, hw0⟩ : ∃ w0, w.alloc (.cells #[.int .i64 k.a, .int .i64 k.b] 25) = w0 := ⟨_, rfl⟩
  have hkb : w0.heap[w.heap.size]? = some (.cells #[.int .i64 k.a, .int .i64 k.b] 25 (0, 0)) := by rw [← hw0]; exact heap_alloc_new w _
  have hkl := (Array.getElem?_eq_some_iff.1 hkb).1
  rw [hw0] at HT0 hbk
  have HK : Hid (∀ w1, Below w0.heap.size w0 w1 → w1.heap[w.heap.size]? = some (.cells #[.int .i64 k.a, .int .i64 k.b] 25 (0, 0))) := Lib.hid (fun w1 hb => (hb.block _ hkl).trans hkb)
  have HBK : Hid (∀ w1, Below w0.heap.size w0 w1 → Below w.heap.size w w1) := Lib.hid (fun w1 hb => hbk.out.trans (hb.mono hbk.out.size))
  have HKK := Lib.hid hk
  have HBT := Lib.hid hbt
  have H0 := Lib.hid (fun (w1 : World) (hb : Below w.heap.size w w1) => (hb.block bt (Array.getElem?_eq_some_iff.1 hbt).1).trans hbt)
  have hbtl := (Array.getElem?_eq_some_iff.1 hbt).1
  have hbml := hm.lt
  have HRL := Lib.hid hr.lt
  obtain ⟨a, c, rfl⟩ := row_slice hr
  have HR := Lib.hid hr
  have HM := Lib.hid hm
  have HN := Lib.hid hN
  have HX := Lib.hid (And.intro h1 h2)
  have ck0 : w0.cell? ⟨w.heap.size, 0, none⟩ = some (.int .i64 k.a) := by simp [blk_cell hkb]
  have ck1 : w0.cell? ⟨w.heap.size, 1, none⟩ = some (.int .i64 k.b) := by simp [blk_cell hkb]
  clear hbk hkb hk hm hbt hN hr h1 h2
  rcases hp with ⟨rfl, hks, i, rfl, hi⟩ | ⟨rfl, rfl, hn, hks, hle⟩ | ⟨rfl, rfl, hn, rfl, hlt⟩
  · subst hks
    have HL := Lib.hid (show Looks ks' k i true from Or.inl ⟨rfl, i, rfl, hi⟩)
    clear hi
    obtain ⟨ka, kb⟩ := k
    simp only at ck0 ck1 hw0
    unfold pval
    go_enter Try.func11, Try.ntmps11
    (go_wp2_with fail; go_fit (plook_any HT0.out ⟨ka, kb⟩ HKK.out HL.out); rintro e w1 ⟨rfl, hb⟩)
    have HB := Lib.hid (HBK.out w1 hb)
    have HT1 := Lib.hid (HT0.out.ext hb); clear hb
    go_wp2_with fail
    go_quiet (fail)
    go_wp2
    go_ret2
    exact ⟨rfl, _, HT1.out.ext (belN (Below.refl _ _) _), Touch.of_below (belN HB.out _) _, fun k h => Or.inl h⟩
  · subst hks
    have HL := Lib.hid (show Looks ks' k 0 false from Or.inr ⟨rfl, rfl, hn⟩)
    clear hn
    obtain ⟨ka, kb⟩ := k
    simp only at ck0 ck1 hw0
    unfold pval
    go_enter Try.func11, Try.ntmps11
    (go_wp2_with fail; go_fit (plook_any HT0.out ⟨ka, kb⟩ HKK.out HL.out); rintro e w1 ⟨rfl, hb⟩)
    have HB := Lib.hid (HBK.out w1 hb)
    have hb1 := H0.out w1 HB.out
    have c0 : w1.cell? ⟨bt, 0, none⟩ = some (.int .i64 (R : Int)) := by simp [blk_cell hb1]
    have c1 : w1.cell? ⟨bt, 1, none⟩ = some (.slice a ks'.length c) := by simp [blk_cell hb1]
    have HT1 := Lib.hid (HT0.out.ext hb); clear hb hb1
    have hge : (R : Int) ≤ ks'.length := by omega
    go_wp2_with fail
    go_quiet (fail)
    go_wp2
    go_ret2
    exact ⟨rfl, _, HT1.out.ext (belN (Below.refl _ _) _), Touch.of_below (belN HB.out _) _, fun k h => Or.inl h⟩
  · have HL := Lib.hid (show Looks ks k 0 false from Or.inr ⟨rfl, rfl, hn⟩)
    have HQ := Lib.hid hn
    clear hn
    obtain ⟨ka, kb⟩ := k
    simp only at ck0 ck1 hw0
    unfold pval
    obtain ⟨i0, hi, hz0, hz1, hz2⟩ := info_parts pInfo
    go_enter Try.func11, Try.ntmps11
    (go_wp2_with fail; go_fit (plook_any HT0.out ⟨ka, kb⟩ HKK.out HL.out); rintro e w1 ⟨rfl, hb⟩)
    have HBq := Lib.hid hb
    have hb1 := H0.out w1 (HBK.out w1 hb)
    have c0 : w1.cell? ⟨bt, 0, none⟩ = some (.int .i64 (R : Int)) := by simp [blk_cell hb1]
    have c1 : w1.cell? ⟨bt, 1, none⟩ = some (.slice a ks.length c) := by simp [blk_cell hb1]
    clear hb hb1 ck0 ck1
    have hge : decide ((R : Int) ≤ ks.length) = false := by simp; omega
    go_wp2_with fail
    go_quiet (fail)
    have HB2 := Lib.hid (belN HBq.out nq)
    clear HBq c0 c1
    generalize w1.drewN nq = w2 at *
    have HB := Lib.hid (HBK.out w2 HB2.out)
    have hb2 := H0.out w2 HB.out
    have hk2 := HK.out w2 HB2.out
    have c1 : w2.cell? ⟨bt, 1, none⟩ = some (.slice a ks.length c) := by simp [blk_cell hb2]
    have ck0 : w2.cell? ⟨w.heap.size, 0, none⟩ = some (.int .i64 ka) := by simp [blk_cell hk2]
    have ck1 : w2.cell? ⟨w.heap.size, 1, none⟩ = some (.int .i64 kb) := by simp [blk_cell hk2]
    have c1' : ∀ o, (w2.alloc o).cell? ⟨bt, 1, none⟩ = some (.slice a ks.length c) := fun o => Lib.cell?_alloc_some _ c1
    have hrow : ∀ o, (w2.alloc o).drew.ownsRow 0 25 2 (.slice a ks.length c) ks.length (ks.flatMap pcells) := fun o => (show (w2.alloc o).ownsRow 0 25 2 (.slice a ks.length c) ks.length (ks.flatMap pcells) from (owns_row_block HR.out (fun k hk => HB.out.block k (HRL.out k hk).2)).alloc _)
    have HKB := Lib.hid (fun (o : Obj) (w3 : World) (hg : (w2.alloc o).drew.grownBy w3 (Value.slice a ks.length c).ownBlock) => pput_kept HB.out hk2 (Nat.le_refl _) HRL.out hg)
    have HW := Lib.hid hrow
    have HG := Lib.hid (fun (o : Obj) (w3 : World) (hg : (w2.alloc o).drew.grownBy w3 (Value.slice a ks.length c).ownBlock) => pput_grown HB.out hbtl hbml hne HX.out.1 HX.out.2 HBT.out HM.out hg)
    clear hb2 hk2 hrow
    go_wp2_with fail
    go_region_law ((refine step_append_lies _ (by rfl) _ _ _ (by rfl) 0 25 i0 (.agg #[.int .i64 0, .int .i64 0]) 2 16 Try.underlying42 hi hz0 hz1 hz2 rfl (by omega) (.slice a ks.length c) ks.length (ks.flatMap pcells) (by rfl) (HW.out _) ⟨w2.heap.size, 0, none⟩ 1 1 [.int .i64 ka, .int .i64 kb] (by rfl) (by rfl) (World.news_of_block (cs := #[.int .i64 ka, .int .i64 kb]) (t := 25) (fr := (0, 0)) (heap_alloc_new w2 _)) (by simp [Value.oneCell']) (by omega) (by unfold maxLen; omega) (by omega) (Nat.zero_le _) (w2.heap.size + 1) (by simp) ?_; intro g7 c7 w3 hown7 hgrow7 hat7 hlt7; have hgg := HG.out _ _ hgrow7; have d1 : w3.cell? ⟨bt, 1, none⟩ = some (.slice a ks.length c) := (by simp [blk_cell hgg.1]); have d3 : w3.frozen? ⟨bt, 1, none⟩ = false := blk_froz hgg.1 1; have HGG := Lib.hid hgg; have HO7 := Lib.hid hown7; have HG7 := Lib.hid hgrow7; have HA7 := Lib.hid hat7; clear hgg hown7 hgrow7 hat7))
    all_goals
      obtain ⟨hb3, hm3⟩ := HGG.out
      have hk3 := HKB.out _ _ HG7.out
      have e2 : ∀ u, (w3.setCell ⟨bt, 1, none⟩ u).cell? ⟨bt, 2, none⟩ = some (.map (some bm)) := fun u => by simp [blk_cell (blk_set hb3 u)]
      have hnb : w.heap.size ≠ bt := by omega
      have e3 : ∀ u, (w3.setCell ⟨bt, 1, none⟩ u).cell? ⟨w.heap.size, 0, none⟩ = some (.int .i64 ka) := fun u => by
        have h := (heap_set_other w3 ⟨bt, 1, none⟩ u _ hnb).trans hk3
        simp [blk_cell h]
      have e4 : ∀ u, (w3.setCell ⟨bt, 1, none⟩ u).cell? ⟨w.heap.size, 1, none⟩ = some (.int .i64 kb) := fun u => by
        have h := (heap_set_other w3 ⟨bt, 1, none⟩ u _ hnb).trans hk3
        simp [blk_cell h]
      have HB3 := Lib.hid hb3
      have HM3 := Lib.hid hm3
      have heq : ∀ wx, (Op.equalIn 10000 25 (.agg #[.int .i64 ka, .int .i64 kb]) (.agg #[.int .i64 ka, .int .i64 kb])).run Try.prog wx = .ok true wx := fun wx => by
        have h := pEq ⟨ka, kb⟩ ⟨ka, kb⟩ HKK.out HKK.out wx
        simpa using h
      clear hb3 hm3 hk3 hnb
      go_wp2_with fail
      obtain ⟨w5, hrun5, hown5, hturn5⟩ := (show (w3.setCell ⟨bt, 1, none⟩ (.slice (some ⟨g7, 0, none⟩) (ks.length + 1) c7)).drew.ownsMap Try.prog 25 (plainElem Try.prog 3) bm ks.length D from HM3.out _).store pLaw Try.underlying45 (by unfold maxLen; omega) (pKeyOf HKK.out) (plainElem_int Try.underlying3 (a := (ks.length : Int)) (WalkArith.wf_i64 ⟨by omega, by omega⟩))
      simp only [pval] at hrun5
      have HO5 := Lib.hid hown5
      have HT5 := Lib.hid hturn5
      clear hown5 hturn5 heq
      go_region
      go_wp2_with fail
      go_ret2
      exact ⟨rfl, pput_done HX.out.1 HX.out.2 hne HN.out HKK.out HQ.out hlt hR HB.out hbtl hbml HG7.out (HA7.out.imp (fun h => h.symm) (fun h => by rw [h]; rfl)) HO7.out HB3.out HO5.out HT5.out⟩
end Go.Proofs.Ytjpdigdocdppbaa
