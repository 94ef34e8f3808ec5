/- Tables of strings as the laws hold them: apart from what else a law has. -/
import Derived.Test.YtjpdigdocdppbaaTabC
import Derived.Test.YtjpdigdocdppbaaOpen
namespace Go.Proofs.Ytjpdigdocdppbaa
open Go.RowKit Go.Maps Go.WideMaps

/-- A table that was made since W, apart from the blocks of G. -/
def TabIn (W w : World) (p : Value) (R : Nat) (ks : List ByteArray) (G : List Nat) : Prop :=
  ∃ F, STab F w p R ks ∧ (∀ k ∈ F, W.heap.size ≤ k) ∧ (∀ k ∈ F, k ∉ G) ∧ (∀ k ∈ G, k < w.heap.size) ∧ Below W.heap.size W w
/-- What lies apart lies as it lay. -/
def Apart (G : List Nat) (w w' : World) : Prop := w.heap.size ≤ w'.heap.size ∧ ∀ k ∈ G, w'.heap[k]? = w.heap[k]?
theorem Apart.cell {G : List Nat} {w w' : World} (h : Apart G w w') {g o : Nat} {v : Value} (hg : g ∈ G) (hc : w.cell? ⟨g, o, none⟩ = some v) : w'.cell? ⟨g, o, none⟩ = some v := by
  rw [World.cell?_of_block (w := w) (a := ⟨g, o, none⟩) (h.2 g hg)]; exact hc
theorem Apart.of_below {G : List Nat} {w w' : World} (h : Below w.heap.size w w') (hG : ∀ k ∈ G, k < w.heap.size) : Apart G w w' := ⟨h.size, fun k hk => h.block k (hG k hk)⟩
section
variable {W w : World} {p : Value} {R : Nat} {ks : List ByteArray} {G : List Nat}
theorem TabIn.below (h : TabIn W w p R ks G) : Below W.heap.size W w := by obtain ⟨F, h⟩ := h; exact h.2.2.2.2
theorem TabIn.room (h : TabIn W w p R ks G) : 1 ≤ R ∧ R ≤ 65536 ∧ ks.length ≤ R := by obtain ⟨F, h⟩ := h; exact h.1.room
theorem TabIn.nodup (h : TabIn W w p R ks G) : ks.Nodup := by obtain ⟨F, h⟩ := h; exact h.1.nodup
theorem TabIn.good (h : TabIn W w p R ks G) : ∀ k ∈ ks, k.size ≤ 140737488351232 := by obtain ⟨F, h⟩ := h; exact h.1.good
/-- New blocks alone: they may be held apart from the table. -/
theorem TabIn.ext {w' : World} (h : TabIn W w p R ks G) (hb : Below w.heap.size w w') (G' : List Nat) (hG : ∀ k ∈ G', k ∈ G ∨ (w.heap.size ≤ k ∧ k < w'.heap.size)) : TabIn W w' p R ks G' := by
  obtain ⟨F, h1, h2, h3, h4, h5⟩ := h
  refine ⟨F, h1.ext hb, h2, fun k hk hk' => ?_, fun k hk => ?_, h5.trans (hb.mono h5.size)⟩
  · rcases hG k hk' with hg | ⟨hg, _⟩
    · exact h3 k hk hg
    · have := h1.lt k hk; omega
  · rcases hG k hk with hg | ⟨_, hg⟩
    · have := h4 k hg; have := hb.size; omega
    · exact hg
theorem TabIn.same (h : TabIn W w p R ks G) {w' : World} (hb : Below w.heap.size w w') : TabIn W w' p R ks G := h.ext hb G (fun _ h => Or.inl h)
theorem TabIn.less (h : TabIn W w p R ks G) (G' : List Nat) (hG : ∀ k ∈ G', k ∈ G) : TabIn W w p R ks G' := h.ext (Below.refl _ _) G' (fun k hk => Or.inl (hG k hk))
/-- Writes in blocks made since W that are none of the table's. -/
theorem TabIn.write {w' : World} (h : TabIn W w p R ks G) (T : List Nat) (hT : Touch T w w') (hTG : ∀ k ∈ T, k ∈ G) (hTW : ∀ k ∈ T, W.heap.size ≤ k) (G' : List Nat) (hG : ∀ k ∈ G', k ∈ G ∨ (w.heap.size ≤ k ∧ k < w'.heap.size)) : TabIn W w' p R ks G' := by
  obtain ⟨F, h1, h2, h3, h4, h5⟩ := h
  refine ⟨F, h1.keep (fun k hk => hT.block k (h1.lt k hk) (fun hm => h3 k hk (hTG k hm))), h2, fun k hk hk' => ?_, fun k hk => ?_, h5.trans ((hT.below h5.size hTW))⟩
  · rcases hG k hk' with hg | ⟨hg, _⟩
    · exact h3 k hk hg
    · have := h1.lt k hk; omega
  · rcases hG k hk with hg | ⟨_, hg⟩
    · have := h4 k hg; have := hT.size; omega
    · exact hg

theorem TabIn.of_touch {w' : World} {F F' : List Nat} {R' : Nat} {ks' : List ByteArray} {p' : Value} (h1 : STab F w p R ks) (h2 : ∀ k ∈ F, W.heap.size ≤ k) (h3 : ∀ k ∈ F, k ∉ G) (h4 : ∀ k ∈ G, k < w.heap.size) (h5 : Below W.heap.size W w)
    (t1 : STab F' w' p' R' ks') (t2 : Touch F w w') (t3 : ∀ k ∈ F', k ∈ F ∨ w.heap.size ≤ k) : TabIn W w' p' R' ks' G ∧ Apart G w w' := by
  refine ⟨⟨F', t1, fun k hk => ?_, fun k hk hg => ?_, fun k hk => Nat.lt_of_lt_of_le (h4 k hk) t2.size, h5.trans (t2.below h5.size h2)⟩, t2.size, fun k hk => t2.block k (h4 k hk) (fun hf => h3 k hf hk)⟩
  · rcases t3 k hk with hf | hf
    · exact h2 k hf
    · exact Nat.le_trans h5.size hf
  · rcases t3 k hk with hf | hf
    · exact h3 k hf hg
    · have := h4 k hg; omega

theorem put_in (h : TabIn W w p R ks G) (k : ByteArray) (hk : k.size ≤ 140737488351232) {n : Int} {b : Bool} {ks' : List ByteArray} (hp : Puts R ks k n b ks') :
    Calls Try.prog 12 #[p, .string k] w fun e w' => e = .returned (.tuple #[.int .i64 n, .bool b]) ∧ TabIn W w' p R ks' G ∧ Apart G w w' := by
  obtain ⟨F, h1, h2, h3, h4, h5⟩ := h
  refine (put_any h1 k hk hp).mono ?_
  rintro e w' ⟨rfl, F', t1, t2, t3⟩
  exact ⟨rfl, TabIn.of_touch h1 h2 h3 h4 h5 t1 t2 t3⟩
theorem find_in (h : TabIn W w p R ks G) (k : ByteArray) (hk : k.size ≤ 140737488351232) {n : Int} {b : Bool} (hl : Looks ks k n b) :
    Calls Try.prog 14 #[p, .string k] w fun e w' => e = .returned (.tuple #[.int .i64 n, .bool b]) ∧ TabIn W w' p R ks G ∧ Apart G w w' := by
  have h' := h
  obtain ⟨F, h1, h2, h3, h4, h5⟩ := h
  refine (find_any h1 k hk hl).mono ?_
  rintro e w' ⟨rfl, hb⟩
  exact ⟨rfl, h'.same hb, Apart.of_below hb h4⟩
theorem len_in (h : TabIn W w p R ks G) : Calls Try.prog 17 #[p] w fun e w' => e = .returned (.int .i64 ks.length) ∧ w = w' := by
  obtain ⟨F, h1, _⟩ := h; exact len_any h1
theorem at_hit (h : TabIn W w p R ks G) (i : Nat) (x : ByteArray) (hx : ks[i]? = some x) : Calls Try.prog 15 #[p, .int .i64 i] w fun e w' => e = .returned (.tuple #[.string x, .bool true]) ∧ w = w' := by
  obtain ⟨F, h1, _⟩ := h; exact at_in h1 i x hx
theorem at_miss (h : TabIn W w p R ks G) (i : Int) (hi : i < 0 ∨ (ks.length : Int) ≤ i) : Calls Try.prog 15 #[p, .int .i64 i] w fun e w' => e = .returned (.tuple #[.string ⟨#[]⟩, .bool false]) ∧ w = w' := by
  obtain ⟨F, h1, _⟩ := h; exact at_out h1 i hi
/-- All: a new row, apart from the table. -/
theorem all_in (h : TabIn W w p R ks G) : Calls Try.prog 16 #[p] w fun e w' => e = .returned (.slice (some ⟨w.heap.size, 0, none⟩) ks.length ks.length) ∧ TabIn W w' p R ks (w.heap.size :: G) ∧ Apart G w w' ∧
      ∀ (i : Nat) (x : ByteArray), ks[i]? = some x → w'.cell? ⟨w.heap.size, i, none⟩ = some (.string x) := by
  have h' := h
  obtain ⟨F, h1, h2, h3, h4, h5⟩ := h
  refine (all_any h1).mono ?_
  rintro e w' ⟨rfl, hb, hl, hc⟩
  refine ⟨rfl, h'.ext hb _ (fun k hk => ?_), Apart.of_below hb h4, hc⟩
  rcases List.mem_cons.1 hk with rfl | hk
  · exact Or.inr ⟨Nat.le_refl _, hl⟩
  · exact Or.inl hk
/-- What a cut tells, and what there is behind it. -/
def Cuts (ks : List ByteArray) (i : Int) (b : Bool) (ks' : List ByteArray) : Prop := (b = false ∧ ks' = ks ∧ (i < 0 ∨ (ks.length : Int) < i)) ∨ (b = true ∧ ∃ n : Nat, i = n ∧ n ≤ ks.length ∧ ks' = ks.take n)
theorem cuts_ex (ks : List ByteArray) (i : Int) : ∃ b ks', Cuts ks i b ks' := by
  by_cases h : i < 0 ∨ (ks.length : Int) < i
  · exact ⟨false, ks, Or.inl ⟨rfl, rfl, h⟩⟩
  · exact ⟨true, _, Or.inr ⟨rfl, i.toNat, by omega, by omega, rfl⟩⟩
theorem cut_in' (h : TabIn W w p R ks G) (i : Int) {b : Bool} {ks' : List ByteArray} (hc : Cuts ks i b ks') :
    Calls Try.prog 13 #[p, .int .i64 i] w fun e w' => e = .returned (.bool b) ∧ TabIn W w' p R ks' G ∧ Apart G w w' := by
  have h' := h
  obtain ⟨F, h1, h2, h3, h4, h5⟩ := h
  rcases hc with ⟨rfl, rfl, hi⟩ | ⟨rfl, n, rfl, hn, rfl⟩
  · refine (cut_out h1 i hi).mono ?_
    rintro e w' ⟨rfl, rfl⟩
    exact ⟨rfl, h', Nat.le_refl _, fun _ _ => rfl⟩
  · by_cases hlt : n < ks.length
    · refine (cut_in h1 n hlt).mono ?_
      rintro e w' ⟨rfl, t1, t2⟩
      exact ⟨rfl, TabIn.of_touch h1 h2 h3 h4 h5 t1 t2 (fun k hk => Or.inl hk)⟩
    · obtain rfl : n = ks.length := by omega
      refine (cut_all h1).mono ?_
      rintro e w' ⟨rfl, t1, t2⟩
      rw [List.take_length]
      exact ⟨rfl, TabIn.of_touch h1 h2 h3 h4 h5 t1 t2 (fun k hk => Or.inl hk)⟩
end
theorem new_in {W w : World} (hb : Below W.heap.size W w) (m : Int) (R : Nat) (hR : (R : Int) = max 1 (min m 65536)) (G : List Nat) (hG : ∀ k ∈ G, k < w.heap.size) :
    Calls Try.prog 10 #[.int .i64 m] w fun e w' => ∃ bt : Nat, e = .returned (.pointer (some ⟨bt, 0, none⟩)) ∧ TabIn W w' (.pointer (some ⟨bt, 0, none⟩)) R [] G ∧ Apart G w w' := by
  refine (new_any m R hR w).mono ?_
  rintro e w' ⟨p, rfl, F, h1, h2, h3⟩
  obtain ⟨bt, rfl⟩ : ∃ bt, p = .pointer (some ⟨bt, 0, none⟩) := by obtain ⟨bt, _, _, _, rfl, _⟩ := h1; exact ⟨bt, rfl⟩
  exact ⟨bt, rfl, ⟨F, h1, fun k hk => Nat.le_trans hb.size (h3 k hk), fun k hk hg => by have := h3 k hk; have := hG k hg; omega, fun k hk => Nat.lt_of_lt_of_le (hG k hk) h2.size, hb.trans (h2.mono hb.size)⟩, Apart.of_below h2 hG⟩

set_option maxHeartbeats 400000 in
theorem awake_any (w : World) : Calls Try.prog 8 #[] w fun e w' => e = .returned (.bool true) ∧ Below w.heap.size w w' := by
  go_enter Try.func8, Try.ntmps8
  (go_wp2_with fail; go_fit (new_in (W := w) (Below.refl _ _) 9 9 (by decide) [] (by simp)); rintro e w1 ⟨bt, rfl, h1, _⟩)
  (go_wp2_with fail; go_fit (put_in h1 ⟨#[97]⟩ (by decide) (n := 0) (b := true) (ks' := [⟨#[97]⟩]) (Or.inr (Or.inr ⟨rfl, rfl, by simp, rfl, by decide⟩))); rintro e w2 ⟨rfl, h2, _⟩)
  (go_wp2_with fail; go_fit (put_in h2 ⟨#[98]⟩ (by decide) (n := 1) (b := true) (ks' := [⟨#[97]⟩, ⟨#[98]⟩]) (Or.inr (Or.inr ⟨rfl, rfl, by simp, rfl, by decide⟩))); rintro e w3 ⟨rfl, h3, _⟩)
  (go_wp2_with fail; go_fit (put_in h3 ⟨#[97]⟩ (by decide) (n := 0) (b := true) (ks' := [⟨#[97]⟩, ⟨#[98]⟩]) (Or.inl ⟨rfl, rfl, 0, rfl, rfl⟩)); rintro e w4 ⟨rfl, h4, _⟩)
  (go_wp2_with fail; go_fit (len_in h4); rintro e w' ⟨rfl, rfl⟩)
  go_wp2
  go_ret
  exact ⟨rfl, h4.below⟩
end Go.Proofs.Ytjpdigdocdppbaa
