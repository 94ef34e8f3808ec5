/- Stacks of string: All, Undo; and all calls apart from what else a law has. -/
import Derived.Test.YtmdilndaipiajaaSvS
import Derived.Test.YtmdilndaipiajaaRev
namespace Go.Proofs.Ytmdilndaipiajaa
open Go.RowKit

section
variable {F : List Nat} {w : World} {p : Value} {R : Nat} {xs : List Value}
theorem undo_noS (h : StkS F w p R xs) (i : Int) (hi : i < 0 ∨ (xs.length : Int) < i) : Calls Try.prog 13 #[p, .int .i64 i] w fun e w' => e = .returned (.tuple #[.slice none 0 0, .bool false]) ∧ w = w' := by
  obtain ⟨bt, v, rfl, h1, rfl, hbt, hr, hN, hR⟩ := h
  have c1 : w.cell? ⟨bt, 1, none⟩ = some v := by simp [blk_cell hbt]
  obtain ⟨a, c, rfl, _⟩ := row_form hr
  clear hbt hN hr h1
  by_cases h0 : i < 0
  · go_enter Try.func13, Try.ntmps13
    go_wp2
    go_ret2
    exact ⟨rfl, rfl⟩
  · have hle : (xs.length : Int) < i := by omega
    go_enter Try.func13, Try.ntmps13
    go_wp2
    go_ret2
    exact ⟨rfl, rfl⟩

set_option maxHeartbeats 400000 in
theorem undo_yesS {zs : List ByteArray} (h : StkS F w p R (zs.map (Value.string))) (n m : Nat) (hm : zs.length = n + m) :
    Calls Try.prog 13 #[p, .int .i64 n] w fun e w' => e = .returned (.tuple #[.slice (some ⟨w.heap.size, 0, none⟩) m m, .bool true]) ∧ StkS F w' p R ((zs.take n).map (Value.string)) ∧ Touch F w w' ∧
      w.heap.size < w'.heap.size ∧ ∀ j u, ((zs.drop n).map (Value.string)).reverse[j]? = some u → w'.cell? ⟨w.heap.size, j, none⟩ = some u := by
  have HS := Lib.hid h
  have hlt := h.lt
  have hroom := h.room
  rw [List.length_map] at hroom
  obtain ⟨bt, v, rfl, h1, rfl, hbt, hr, hN, hR⟩ := h
  have c1 : w.cell? ⟨bt, 1, none⟩ = some v := by simp [blk_cell hbt]
  obtain ⟨a, c, rfl, _⟩ := row_form hr
  rw [List.length_map] at c1
  have HL := Lib.hid hlt
  have HM := Lib.hid hm
  have hn0 : decide ((n : Int) < 0) = false := by simp
  have hnl : (n : Int) ≤ (zs.length : Int) := by omega
  have hnl' : ¬ ((zs.length : Int) < (n : Int)) := by omega
  have hnl2 : decide (zs.length < n) = false := by simp; omega
  clear hbt hN hr h1 hR hlt hm
  go_enter Try.func13, Try.ntmps13
  (go_wp2_with fail; go_fit (fromS HS.out n (by rw [List.length_map]; omega) m (by rw [List.length_map]; exact HM.out)); rintro e w1 ⟨rfl, h2, h3⟩)
  rw [← List.map_drop] at h3
  have H2 := Lib.hid h2
  have H3 := Lib.hid h3
  clear h2 h3
  (go_wp2_with fail; go_fit (revS w.heap.size w.heap.size m (zs.drop n) w1 H3.out (Nat.le_refl _) (by rw [List.length_drop]; have := HM.out; omega) (by have := HM.out; omega)); rintro e w2 ⟨rfl, h4, h5⟩)
  have HS2 := Lib.hid (HS.out.ext (H2.out.trans h4))
  have hs1 : w.heap.size < w2.heap.size := Nat.lt_of_lt_of_le (Array.getElem?_eq_some_iff.1 H3.out).1 h4.size
  have H4 := Lib.hid (H2.out.trans h4)
  have H5 := Lib.hid h5
  clear h4 h5
  (go_wp2_with fail; go_fit (cutS HS2.out n (by rw [List.length_map]; have := HM.out; omega)); rintro e w3 ⟨rfl, h6, h7⟩)
  rw [← List.map_take] at h6
  have H6 := Lib.hid (show _ ∧ Touch _ w w3 ∧ w.heap.size < w3.heap.size ∧ ∀ j u, ((zs.drop n).map (Value.string)).reverse[j]? = some u → w3.cell? ⟨w.heap.size, j, none⟩ = some u from
    ⟨h6, (Touch.of_below H4.out _).trans h7 (fun k hk => Or.inl hk), Nat.lt_of_lt_of_le hs1 h7.size, fun j u hu => by
      rw [World.cell?_of_block (w := w2) (a := ⟨w.heap.size, j, none⟩) (h7.block _ hs1 (fun hk => absurd (HL.out _ hk) (Nat.lt_irrefl _)))]
      exact H5.out j u hu⟩)
  clear h6 h7
  go_wp2
  go_ret2
  exact ⟨rfl, H6.out⟩
end

/-! The calls of a stack that a law made. -/
/-- A stack that was made since W. -/
abbrev InS (W w : World) (p : Value) (R : Nat) (xs : List Value) (G : List Nat) : Prop := StkIn 9 50 W w p R xs G
section
variable {W w : World} {p : Value} {R : Nat} {xs : List Value} {G : List Nat}
theorem new_inS (hb : Below W.heap.size W w) (m : Int) (R : Nat) (hR : (R : Int) = max 1 (min m 65536)) (G : List Nat) (hG : ∀ k ∈ G, k < w.heap.size) :
    Calls Try.prog 8 #[.int .i64 m] w fun e w' => ∃ bt : Nat, e = .returned (.pointer (some ⟨bt, 0, none⟩)) ∧ InS W w' (.pointer (some ⟨bt, 0, none⟩)) R [] G ∧ Apart G w w' := by
  refine (newS m R hR w).mono ?_
  rintro e w' ⟨p, rfl, F, h1, h2, h3⟩
  obtain ⟨bt, rfl⟩ : ∃ bt, p = .pointer (some ⟨bt, 0, none⟩) := by obtain ⟨bt, _, rfl, _⟩ := h1; exact ⟨bt, rfl⟩
  exact ⟨bt, rfl, ⟨F, h1, fun k hk => Nat.le_trans hb.size (h3 k hk), fun k hk hg => by have := h3 k hk; have := hG k hg; omega, fun k hk => Nat.lt_of_lt_of_le (hG k hk) h2.size, hb.trans (h2.mono hb.size)⟩, Apart.of_below h2 hG⟩
theorem mark_inS (h : InS W w p R xs G) : Calls Try.prog 16 #[p] w fun e w' => e = .returned (.int .i64 xs.length) ∧ w = w' := by
  obtain ⟨F, h1, _⟩ := h; exact markS h1
theorem at_hitS (h : InS W w p R xs G) (i : Nat) (x : Value) (hx : xs[i]? = some x) : Calls Try.prog 14 #[p, .int .i64 i] w fun e w' => e = .returned (.tuple #[x, .bool true]) ∧ w = w' := by
  obtain ⟨F, h1, _⟩ := h; exact at_inS h1 i x hx
theorem at_missS (h : InS W w p R xs G) (i : Int) (hi : i < 0 ∨ (xs.length : Int) ≤ i) : Calls Try.prog 14 #[p, .int .i64 i] w fun e w' => e = .returned (.tuple #[.string ⟨#[]⟩, .bool false]) ∧ w = w' := by
  obtain ⟨F, h1, _⟩ := h; exact at_outS h1 i hi
theorem top_hitS {ys : List Value} {x : Value} (h : InS W w p R (ys ++ [x]) G) : Calls Try.prog 12 #[p] w fun e w' => e = .returned (.tuple #[x, .bool true]) ∧ w = w' := by
  obtain ⟨F, h1, _⟩ := h; exact top_inS h1
theorem top_missS (h : InS W w p R [] G) : Calls Try.prog 12 #[p] w fun e w' => e = .returned (.tuple #[.string ⟨#[]⟩, .bool false]) ∧ w = w' := by
  obtain ⟨F, h1, _⟩ := h; exact top_noneS h1
theorem pop_missS (h : InS W w p R [] G) : Calls Try.prog 11 #[p] w fun e w' => e = .returned (.tuple #[.string ⟨#[]⟩, .bool false]) ∧ w = w' := by
  obtain ⟨F, h1, _⟩ := h; exact pop_noneS h1
theorem pop_hitS {ys : List Value} {x : Value} (h : InS W w p R (ys ++ [x]) G) :
    Calls Try.prog 11 #[p] w fun e w' => e = .returned (.tuple #[x, .bool true]) ∧ InS W w' p R ys G ∧ Apart G w w' := by
  obtain ⟨F, h1, h2, h3, h4, h5⟩ := h
  refine (pop_inS h1).mono ?_
  rintro e w' ⟨rfl, t1, t2⟩
  exact ⟨rfl, StkIn.of_touch h1 h2 h3 h4 h5 t1 t2 (fun k hk => Or.inl hk)⟩
theorem push_fullS (h : InS W w p R xs G) (ao : Option Addr) (m c : Nat) (hm : m ≤ maxLen) (hno : R < xs.length + m) :
    Calls Try.prog 10 #[p, .slice ao m c] w fun e w' => e = .returned (.bool false) ∧ InS W w' p R xs G ∧ Apart G w w' := by
  have h' := h
  obtain ⟨F, h1, h2, h3, h4, h5⟩ := h
  refine (push_noS h1 ao m c hm hno).mono ?_
  rintro e w' ⟨rfl, hb⟩
  exact ⟨rfl, h'.same hb, Apart.of_below hb h4⟩
theorem push_fitsS (h : InS W w p R xs G) (ao : Option Addr) (m c : Nat) (news : List Value) (hl : news.length = m) (hsrc : m = 0 ∨ ∃ ad, ao = some ad ∧ ∀ j u, news[j]? = some u → w.cell? (ad.add j) = some u) (h1c : ∀ u ∈ news, u.oneCell' = true) (hfit : xs.length + m ≤ R) :
    Calls Try.prog 10 #[p, .slice ao m c] w fun e w' => e = .returned (.bool true) ∧ InS W w' p R (xs ++ news) G ∧ Apart G w w' := by
  obtain ⟨F, h1, h2, h3, h4, h5⟩ := h
  refine (push_yesS h1 ao m c news hl hsrc h1c hfit).mono ?_
  rintro e w' ⟨rfl, F', t1, t2, t3⟩
  exact ⟨rfl, StkIn.of_touch h1 h2 h3 h4 h5 t1 t2 t3⟩
theorem undo_missS (h : InS W w p R xs G) (i : Int) (hi : i < 0 ∨ (xs.length : Int) < i) : Calls Try.prog 13 #[p, .int .i64 i] w fun e w' => e = .returned (.tuple #[.slice none 0 0, .bool false]) ∧ w = w' := by
  obtain ⟨F, h1, _⟩ := h; exact undo_noS h1 i hi
theorem undo_hitS {zs : List ByteArray} (h : InS W w p R (zs.map (Value.string)) G) (n m : Nat) (hm : zs.length = n + m) :
    Calls Try.prog 13 #[p, .int .i64 n] w fun e w' => e = .returned (.tuple #[.slice (some ⟨w.heap.size, 0, none⟩) m m, .bool true]) ∧ InS W w' p R ((zs.take n).map (Value.string)) (w.heap.size :: G) ∧ Apart G w w' ∧
      ∀ j u, ((zs.drop n).map (Value.string)).reverse[j]? = some u → w'.cell? ⟨w.heap.size, j, none⟩ = some u := by
  obtain ⟨F, h1, h2, h3, h4, h5⟩ := h
  have hlt := h1.lt
  refine (undo_yesS h1 n m hm).mono ?_
  rintro e w' ⟨rfl, t1, t2, t3, t4⟩
  obtain ⟨⟨F', u1, u2, u3, u4, u5⟩, u6⟩ := StkIn.of_touch h1 h2 h3 h4 h5 t1 t2 (fun k hk => Or.inl hk)
  refine ⟨rfl, ⟨F, t1, h2, fun k hk hg => ?_, fun k hk => ?_, u5⟩, u6, t4⟩
  · rcases List.mem_cons.1 hg with rfl | hg
    · exact absurd (hlt _ hk) (Nat.lt_irrefl _)
    · exact h3 k hk hg
  · rcases List.mem_cons.1 hk with rfl | hk
    · exact t3
    · exact u4 k hk
end
end Go.Proofs.Ytmdilndaipiajaa
