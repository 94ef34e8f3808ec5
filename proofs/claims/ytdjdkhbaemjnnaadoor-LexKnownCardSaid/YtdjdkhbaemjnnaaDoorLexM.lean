/- Package lex: Plain, Quote. -/
import Derived.Test.YtdjdkhbaemjnnaaDoorLexL
import Derived.Test.YtdjdkhbaemjnnaaDoorLexT
import Derived.Laws.OwnMore
namespace Go.Proofs.YtdjdkhbaemjnnaaDoor
open Go.RowKit
set_option linter.unusedVariables false

def Toks (w : World) (v : Value) (l : List (TokB × Nat)) : Prop := Elems 5 tCells w v l
theorem Toks.ext {w w' : World} {v : Value} {l : List (TokB × Nat)} (h : Toks w v l) (hb : Below w.heap.size w w') : Toks w' v l := Elems.ext h hb
theorem Toks.cells {w : World} {a : Option Addr} {n cap : Nat} {l : List (TokB × Nat)} (h : Toks w (.slice a n cap) l) {k : Nat} {x : TokB × Nat} (hx : l[k]? = some x) :
    ∃ b off, a = some ⟨b, off, none⟩ ∧ b < w.heap.size ∧ w.cell? ⟨b, off + k * 5, none⟩ = some (.int .i64 (x.1.kind : Int)) ∧ w.cell? ⟨b, off + k * 5 + 1, none⟩ = some (.string ⟨x.1.text.toArray⟩) ∧ w.cell? ⟨b, off + k * 5 + 2, none⟩ = some (.int .i64 (x.1.n : Int)) ∧ w.cell? ⟨b, off + k * 5 + 3, none⟩ = some (.bool x.1.opens) ∧ w.cell? ⟨b, off + k * 5 + 4, none⟩ = some (.int .i64 (x.2 : Int)) := by
  obtain ⟨a', cap', e, h1, h2, h3⟩ := h
  cases e
  rcases h3 with rfl | ⟨b, off, rfl, hb, hc⟩
  · simp at hx
  · exact ⟨b, off, rfl, hb, hc k x hx 0 _ rfl, by rw [Nat.add_assoc]; exact hc k x hx 1 _ rfl, by rw [Nat.add_assoc]; exact hc k x hx 2 _ rfl, by rw [Nat.add_assoc]; exact hc k x hx 3 _ rfl, by rw [Nat.add_assoc]; exact hc k x hx 4 _ rfl⟩
theorem Toks.form {w : World} {v : Value} {l : List (TokB × Nat)} (h : Toks w v l) : ∃ a c, v = .slice a l.length c := by
  obtain ⟨a, c, rfl, _⟩ := h
  exact ⟨a, c, rfl⟩
theorem cut_ok {s : ByteArray} {l : List (TokB × Nat)} {w : World} (he : Err w) (hs : s.size ≤ 140737488351232) (h : cutB (bl s) = .ok l) :
    Calls Tryd.prog 9 #[.string s] w fun e w' => ∃ (ao : Option Addr) (cv : Nat), e = .returned (.tuple #[.slice ao l.length cv, .int .i64 (s.size : Int), .int .i64 0]) ∧ Toks w' (.slice ao l.length cv) l ∧ Below w.heap.size w w' := by
  refine (cut_any s w he hs).mono fun e w' hp => ?_
  rw [h] at hp
  obtain ⟨⟨ao, cv, h1, h2⟩, h3⟩ := hp
  exact ⟨ao, cv, h1, Elems.owned tCells_len h2, h3⟩
theorem cut_bad {s : ByteArray} {p : Nat} {o : Bool} {w : World} (he : Err w) (hs : s.size ≤ 140737488351232) (h : cutB (bl s) = .bad p o) :
    Calls Tryd.prog 9 #[.string s] w fun e w' => e = .returned (.tuple #[.slice none 0 0, .int .i64 (p : Int), .int .i64 (if o then 3 else 2)]) ∧ Below w.heap.size w w' := by
  refine (cut_any s w he hs).mono fun e w' hp => ?_
  rw [h] at hp
  exact hp
theorem text_test {t : List UInt8} {s : ByteArray} : ((⟨t.toArray⟩ : ByteArray).toList == s.toList) = (t == bl s) := by
  rw [Lib.toList_data, Lib.toList_data]
set_option maxHeartbeats 1600000 in
theorem plain_any (s : ByteArray) (w : World) (he : Err w) (hs : s.size ≤ 140737488351232) : Calls Tryd.prog 11 #[.string s] w fun e w' => e = .returned (.bool (plainB (bl s))) ∧ Below w.heap.size w w' := by
  have no : ∀ X, cutB (bl s) = X → (∀ t p, X = .ok [(t, p)] → ¬ (t.kind = 1 ∧ t.text = bl s)) → plainB (bl s) = false := fun X hX h => by
    cases hp : plainB (bl s) with
    | false => rfl
    | true =>
      obtain ⟨t, h1, h2⟩ := plain_yes hp
      exact absurd h2 (h t 0 (hX.symm.trans h1))
  cases hX : cutB (bl s) with
  | bad p o =>
    rw [no _ hX (fun t p h => by cases h)]
    have C := fun w h => @cut_bad s p o w h hs hX
    clear no hX
    cases o
    · go_enter Tryd.func11, Tryd.ntmps11
      (go_wp2_with fail; go_fit (C _ he); rintro e w1 ⟨rfl, b1⟩)
      go_wp2
      go_ret
      exact ⟨rfl, b1⟩
    · go_enter Tryd.func11, Tryd.ntmps11
      (go_wp2_with fail; go_fit (C _ he); rintro e w1 ⟨rfl, b1⟩)
      go_wp2
      go_ret
      exact ⟨rfl, b1⟩
  | ok l =>
    have C := fun w h => @cut_ok s l w h hs hX
    by_cases h1 : l.length = 1
    · obtain ⟨⟨t, p⟩, rfl⟩ := List.length_eq_one_iff.1 h1
      have hno := no _ hX
      clear no
      have hyes := fun a b => plain_no hX (t := t) (p := p) a b
      clear hX h1
      have C' : ∀ w, Err w → Calls Tryd.prog 9 #[.string s] w fun e w' => ∃ (ao : Option Addr) (cv : Nat), e = .returned (.tuple #[.slice ao 1 cv, .int .i64 (s.size : Int), .int .i64 0]) ∧ Toks w' (.slice ao 1 cv) [(t, p)] ∧ Below w.heap.size w w' := C
      clear C
      by_cases hk : t.kind = 1
      · by_cases ht : t.text = bl s
        · rw [hyes hk ht]
          have HT := Lib.hid (show (t.text == s.toList) = true by rw [Lib.toList_data, ht]; exact beq_self_eq_true _)
          clear hno hyes ht
          go_enter Tryd.func11, Tryd.ntmps11
          (go_wp2_with fail; go_fit (C' _ he); rintro e w1 ⟨ao, cv, rfl, ht1, b1⟩)
          obtain ⟨b, off, rfl, hb, c0, c1, c2, c3, c4⟩ := ht1.cells (k := 0) (x := (t, p)) rfl
          simp only [Nat.zero_mul, Nat.add_zero] at c0 c1 c2 c3 c4
          simp only [hk] at c0
          go_wp2
          go_ret
          exact ⟨ret_bool HT.out, b1⟩
        · rw [hno (fun t' p' e h => by cases e; exact ht h.2)]
          have HT := Lib.hid (show (t.text == s.toList) = false by rw [Lib.toList_data]; exact beq_false_of_ne ht)
          clear hno hyes ht
          go_enter Tryd.func11, Tryd.ntmps11
          (go_wp2_with fail; go_fit (C' _ he); rintro e w1 ⟨ao, cv, rfl, ht1, b1⟩)
          obtain ⟨b, off, rfl, hb, c0, c1, c2, c3, c4⟩ := ht1.cells (k := 0) (x := (t, p)) rfl
          simp only [Nat.zero_mul, Nat.add_zero] at c0 c1 c2 c3 c4
          simp only [hk] at c0
          go_wp2
          go_ret
          exact ⟨ret_bool HT.out, b1⟩
      · rw [hno (fun t' p' e h => by cases e; exact hk h.1)]
        have hk' : ((t.kind : Int) == 1) = false := by
          apply beq_false_of_ne
          intro e
          exact hk (by omega)
        clear hno hyes hk
        obtain ⟨z, hz⟩ : ∃ z : Int, (t.kind : Int) = z := ⟨_, rfl⟩
        go_enter Tryd.func11, Tryd.ntmps11
        (go_wp2_with fail; go_fit (C' _ he); rintro e w1 ⟨ao, cv, rfl, ht1, b1⟩)
        obtain ⟨b, off, rfl, hb, c0, c1, c2, c3, c4⟩ := ht1.cells (k := 0) (x := (t, p)) rfl
        simp only [Nat.zero_mul, Nat.add_zero] at c0 c1 c2 c3 c4
        simp only [hz] at c0 hk'
        clear hz
        go_wp2
        go_ret
        exact ⟨rfl, b1⟩
    · rw [no _ hX (fun t p h => by cases h; simp at h1)]
      clear no hX
      have h1' : ((l.length : Int) == 1) = false := by
        apply beq_false_of_ne
        intro e
        exact h1 (by omega)
      generalize hn : l.length = n at C h1'
      clear hn h1
      go_enter Tryd.func11, Tryd.ntmps11
      (go_wp2_with fail; go_fit (C _ he); rintro e w1 ⟨ao, cv, rfl, ht1, b1⟩)
      go_wp2
      go_ret
      exact ⟨rfl, b1⟩
end Go.Proofs.YtdjdkhbaemjnnaaDoor
