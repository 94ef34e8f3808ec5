/- Stacks of int: Pop, Push, from, All, Undo. -/
import Derived.Test.YtmdilndaipiajaaStI
import Derived.Test.YtmdilndaipiajaaShelf
namespace Go.Proofs.Ytmdilndaipiajaa
open Go.RowKit

section
variable {F : List Nat} {w : World} {p : Value} {R : Nat} {xs : List Value}
theorem pop_noneI (h : StkI F w p R []) : Calls Try.prog 17 #[p] w fun e w' => e = .returned (.tuple #[.int .i64 0, .bool false]) ∧ w = w' := by
  have HS := Lib.hid h
  obtain ⟨bt, rfl⟩ : ∃ bt, p = .pointer (some ⟨bt, 0, none⟩) := by obtain ⟨bt, _, rfl, _⟩ := h; exact ⟨bt, rfl⟩
  clear h
  go_enter Try.func17, Try.ntmps17
  (go_wp2_with fail; go_fit (top_noneI HS.out); rintro e w' ⟨rfl, rfl⟩)
  go_wp2
  go_ret2
  exact ⟨rfl, rfl⟩
theorem pop_inI {ys : List Value} {x : Value} (h : StkI F w p R (ys ++ [x])) :
    Calls Try.prog 17 #[p] w fun e w' => e = .returned (.tuple #[x, .bool true]) ∧ StkI F w' p R ys ∧ Touch F w w' := by
  have HS := Lib.hid h
  have hroom := h.room
  obtain ⟨bt, v, rfl, h1, rfl, hbt, hr, hN, hR⟩ := h
  have c1 : w.cell? ⟨bt, 1, none⟩ = some v := by simp [blk_cell hbt]
  obtain ⟨a, c, rfl, _⟩ := row_form hr
  rw [List.length_append, List.length_singleton] at c1 hroom
  clear hbt hN hr h1 hR
  go_enter Try.func17, Try.ntmps17
  (go_wp2_with fail; go_fit (top_inI HS.out); rintro e w' ⟨rfl, rfl⟩)
  (go_wp2_with fail; go_fit (cutI HS.out ys.length (by simp)); rintro e w1 ⟨rfl, h2, h3⟩)
  rw [List.take_left] at h2
  have H2 := Lib.hid (And.intro h2 h3)
  clear h2 h3
  go_wp2
  go_ret2
  exact ⟨rfl, H2.out⟩

theorem push_noI (h : StkI F w p R xs) (ao : Option Addr) (m c : Nat) (hm : m ≤ maxLen) (hno : R < xs.length + m) :
    Calls Try.prog 15 #[p, .slice ao m c] w fun e w' => e = .returned (.bool false) ∧ Below w.heap.size w w' := by
  obtain ⟨bt, v, rfl, h1, rfl, hbt, hr, hN, hR⟩ := h
  have c0 : w.cell? ⟨bt, 0, none⟩ = some (.int .i64 (R : Int)) := by simp [blk_cell hbt]
  have c1 : w.cell? ⟨bt, 1, none⟩ = some v := by simp [blk_cell hbt]
  obtain ⟨a, c', rfl, _⟩ := row_form hr
  unfold maxLen at hm
  have hlt : (R : Int) - (xs.length : Int) < (m : Int) := by omega
  clear hbt hN hr h1
  go_enter Try.func15, Try.ntmps15
  go_wp2_with fail
  go_quiet (fail)
  go_wp2
  go_ret
  exact ⟨rfl, belN (Below.refl _ _) _⟩

/-- What the append that a push makes leaves of the stack. -/
theorem push_grownI {w w2 w3 : World} {bt : Nat} {x v v' : Value} (hB : Below w.heap.size w w2) (hbt : bt < w.heap.size) (h1 : v.ownBlock ≠ some bt) (hb : w.heap[bt]? = some (.cells #[x, v] 52 (0, 0)))
    (hg : w2.grownBy w3 v.ownBlock) (hat : v'.ownBlock = v.ownBlock ∨ v'.ownBlock = some w2.heap.size) :
    w3.heap[bt]? = some (.cells #[x, v] 52 (0, 0)) ∧ v'.ownBlock ≠ some bt ∧ Touch (bt :: v.ownBlock.toList) w w3 ∧ ∀ k ∈ (bt :: v'.ownBlock.toList), k ∈ (bt :: v.ownBlock.toList) ∨ w.heap.size ≤ k := by
  have hs := hB.size
  refine ⟨(hg.block bt (by omega) (fun h => h1 h.symm)).trans ((hB.block bt hbt).trans hb), ?_, ⟨hg.os.trans hB.os, hg.tape.trans hB.tape, hg.output.trans hB.output, by have := hg.size; omega, fun j hj hn => ?_⟩, fun k hk => ?_⟩
  · rcases hat with e | e <;> rw [e]
    · exact h1
    · intro e'; simp at e'; omega
  · simp only [List.mem_cons, Option.mem_toList, not_or] at hn
    exact (hg.block j (by omega) (fun e => hn.2 e.symm)).trans (hB.block j hj)
  · simp only [List.mem_cons, Option.mem_toList] at hk ⊢
    rcases hk with rfl | hk
    · exact Or.inl (Or.inl rfl)
    · rcases hat with e | e
      · exact Or.inl (Or.inr (e ▸ hk))
      · rw [e] at hk; right; simp at hk; omega

set_option maxHeartbeats 400000 in
theorem push_yesI (h : StkI F w p R xs) (ao : Option Addr) (m c : Nat) (news : List Value) (hl : news.length = m) (hsrc : m = 0 ∨ ∃ ad, ao = some ad ∧ ∀ j u, news[j]? = some u → w.cell? (ad.add j) = some u) (h1c : ∀ u ∈ news, u.oneCell' = true) (hfit : xs.length + m ≤ R) :
    Calls Try.prog 15 #[p, .slice ao m c] w fun e w' => e = .returned (.bool true) ∧ ∃ F', StkI F' w' p R (xs ++ news) ∧ Touch F w w' ∧ ∀ k ∈ F', k ∈ F ∨ w.heap.size ≤ k := by
  have hroom := h.room
  obtain ⟨bt, v, rfl, h1, rfl, hbt, hr, hN, hR⟩ := h
  have c0 : w.cell? ⟨bt, 0, none⟩ = some (.int .i64 (R : Int)) := by simp [blk_cell hbt]
  have c1 : w.cell? ⟨bt, 1, none⟩ = some v := by simp [blk_cell hbt]
  obtain ⟨i0, hi, hz0, hz1, hz2⟩ := info_parts infoI
  obtain ⟨a, c', rfl, _⟩ := row_form hr
  have hge : decide ((R : Int) - (xs.length : Int) < (m : Int)) = false := by simp; omega
  have hge' : ¬ ((R : Int) - (xs.length : Int) < (m : Int)) := by omega
  have hbl := (Array.getElem?_eq_some_iff.1 hbt).1
  have HB := Lib.hid hbt
  have HR := Lib.hid hr
  have HN := Lib.hid hN
  have HX := Lib.hid h1
  have HS := Lib.hid hsrc
  clear hbt hN hr h1 hsrc
  go_enter Try.func15, Try.ntmps15
  go_wp2_with fail
  go_quiet (fail)
  have c1 : (w.drewN nq).cell? ⟨bt, 1, none⟩ = some (.slice a xs.length c') := by simp [blk_cell (show (w.drewN nq).heap[bt]? = _ from HB.out)]
  go_wp2_with (first
    | (at_builtin
       go_loud (refine wpList_append_any rfl _ _ 37 rfl 0 3 i0 (.int .i64 0) 8 Try.underlying37 hi hz0 hz1 hz2 rfl _ xs.length xs rfl (show (w.drewN nq).ownsRow _ _ _ _ _ _ from HR.out) ao m c news rfl hl HS.out h1c (by unfold maxLen; omega) (by omega) (Nat.zero_le _) (xs.length + m) (xs ++ news) rfl rfl ?_)
       intro a3 c3 w3 hown hgrow hat
       obtain ⟨hb3, hx3, hT3, hF3⟩ := push_grownI (w := w) (belN (Below.refl _ _) nq) hbl HX.out HB.out hgrow hat
       have d1 : w3.cell? ⟨bt, 1, none⟩ = some (.slice a xs.length c') := by simp [blk_cell hb3]
       have d3 : w3.frozen? ⟨bt, 1, none⟩ = false := blk_froz hb3 1
       have HD := Lib.hid (show StkI _ (w3.setCell ⟨bt, 1, none⟩ (.slice a3 (xs.length + m) c3)) (.pointer (some ⟨bt, 0, none⟩)) R (xs ++ news) from
         ⟨bt, _, rfl, hx3, rfl, blk_set hb3 _, owns_row_block (by simpa [hl] using hown) (fun k hk => heap_set_other _ _ _ _ (fun e => hx3 (by rw [hk, e]))), (fun x hx => by rcases List.mem_append.1 hx with h | h; exact HN.out x h; exact h1c x h), hR.1, hR.2.1, by simp; omega⟩)
       have HT := Lib.hid (And.intro hT3 hF3)
       clear hown hgrow hat hb3 hx3 hT3 hF3)
    | go_in)
  go_ret
  exact ⟨rfl, _, HD.out, HT.out.1.trans (F' := [bt]) touch_set (fun k hk => Or.inl (by simp at hk; simp [hk])), HT.out.2⟩
end
end Go.Proofs.Ytmdilndaipiajaa
