import Derived.Test.YtjhoekhfikcanaaHfrai
import Derived.Test.YtjhoekhfikcanaaHfraj
import Derived.Test.YtjhoekhfikcanaaHfraf
import Derived.Test.YtjhoekhfikcanaaHfraa
import Derived.Test.YtjhoekhfikcanaaHfrac
import Derived.Test.YtjhoekhfikcanaaHfrab
import Derived.Lib.Strings
import Derived.Deep.QuietTactic
import Derived.Test.YtjhoekhfikcanaaHfrad
set_option linter.unusedVariables false
set_option linter.unusedSimpArgs false
/- Closed laws over a Binds: what is carried from call to call. -/
namespace Go.Proofs.Ytjhoekhfikcanaa
open Go.RowKit
set_option linter.unusedVariables false

/-- A Binds of the law's own, cells and terms beside it. -/
def KB (W w : World) (p : Value) (N : Nat) (S : List (Int × Tm)) (fs : List (Nat × Nat × Value)) (ts : List (Tm × Value)) : Prop :=
  ∃ F R, IsB (hide (awayB F) w) F w p N R ∧ Sync R S ∧ (∀ k ∈ F, W.heap.size ≤ k) ∧ Below W.heap.size W w ∧ (∀ f ∈ fs, (hide (awayB F) w).cell? ⟨f.1, f.2.1, none⟩ = some f.2.2) ∧ ∀ t ∈ ts, TmV (hide (awayB F) w) t.1 t.2
section
variable {W w w' : World} {p : Value} {N : Nat} {S : List (Int × Tm)} {fs : List (Nat × Nat × Value)} {ts : List (Tm × Value)}
theorem KB.bel (h : KB W w p N S fs ts) : Below W.heap.size W w := by
  obtain ⟨F, R, h1, h2, h3, h4, h5, h6⟩ := h; exact h4
theorem KB.ext (h : KB W w p N S fs ts) (hb : Below w.heap.size w w') : KB W w' p N S fs ts := by
  obtain ⟨F, R, h1, h2, h3, h4, h5, h6⟩ := h
  have hs : Stays (hide (awayB F) w) (hide (awayB F) w') := Stays.below hb fun _ _ h => h
  exact ⟨F, R, (h1.ext hb).rebase, h2, h3, h4.trans (hb.mono h4.size), fun f hf => hs.2 _ _ (h5 f hf), fun t ht => TmV.stay hs _ _ (h6 t ht)⟩
theorem KB.get (h : KB W w p N S fs ts) {b o : Nat} {v : Value} (hf : (b, o, v) ∈ fs) : w.cell? ⟨b, o, none⟩ = some v := by
  obtain ⟨F, R, h1, h2, h3, h4, h5, h6⟩ := h
  exact (Stays.unhide _ _).2 _ _ (h5 _ hf)
theorem KB.tm (h : KB W w p N S fs ts) {x : Tm} {v : Value} (hf : (x, v) ∈ ts) : TmV w x v := by
  obtain ⟨F, R, h1, h2, h3, h4, h5, h6⟩ := h
  exact (h6 _ hf).bare
theorem KB.four (h : KB W w p N S fs ts) {b : Nat} {v0 v1 v2 v3 : Value} (hb : w.heap.size ≤ b) (hx : Below w.heap.size w w') (hc : Box w' b [v0, v1, v2, v3]) : KB W w' p N S ((b, 0, v0) :: (b, 1, v1) :: (b, 2, v2) :: (b, 3, v3) :: fs) ts := by
  obtain ⟨c0, c1, c2, c3, _⟩ := hc.four
  obtain ⟨F, R, h1, h2, h3, h4, h5, h6⟩ := h
  have hs : Stays (hide (awayB F) w) (hide (awayB F) w') := Stays.below hx fun _ _ h => h
  have hn : ¬ b ∈ F := fun hm => by have := h1.lt b hm; omega
  have hh : ∀ j, (hide (awayB F) w').cell? ⟨b, j, none⟩ = w'.cell? ⟨b, j, none⟩ := fun j => hide_cell _ _ _ (by simp [awayB, hn])
  refine ⟨F, R, (h1.ext hx).rebase, h2, h3, h4.trans (hx.mono h4.size), fun f hf => ?_, fun t ht => TmV.stay hs _ _ (h6 t ht)⟩
  rcases List.mem_cons.1 hf with rfl | hf
  · exact (hh 0).trans c0
  rcases List.mem_cons.1 hf with rfl | hf
  · exact (hh 1).trans c1
  rcases List.mem_cons.1 hf with rfl | hf
  · exact (hh 2).trans c2
  rcases List.mem_cons.1 hf with rfl | hf
  · exact (hh 3).trans c3
  · exact hs.2 _ _ (h5 f hf)
theorem KB.addt (h : KB W w p N S fs ts) (hx : Below w.heap.size w w') {x : Tm} {v : Value} (ht : TmV (hide (under w.heap.size) w') x v) : KB W w' p N S fs ((x, v) :: ts) := by
  obtain ⟨F, R, h1, h2, h3, h4, h5, h6⟩ := h
  have hs : Stays (hide (awayB F) w) (hide (awayB F) w') := Stays.below hx fun _ _ h => h
  refine ⟨F, R, (h1.ext hx).rebase, h2, h3, h4.trans (hx.mono h4.size), fun f hf => hs.2 _ _ (h5 f hf), fun t hm => ?_⟩
  rcases List.mem_cons.1 hm with rfl | hm
  · exact TmV.away h1.lt ht
  · exact TmV.stay hs _ _ (h6 t hm)
theorem old_under {w w' : World} (hb : w.heap.size ≤ w'.heap.size) : Old (under w.heap.size) w' := fun k hk => by simp; omega
/-- The same, behind a call that turned it. -/
theorem KB.turned {F F' : List Nat} {R R' S' : List (Int × Tm)} (h1 : IsB (hide (awayB F) w) F w p N R) (h3 : ∀ k ∈ F, W.heap.size ≤ k) (h4 : Below W.heap.size W w) (h5 : ∀ f ∈ fs, (hide (awayB F) w).cell? ⟨f.1, f.2.1, none⟩ = some f.2.2) (h6 : ∀ t ∈ ts, TmV (hide (awayB F) w) t.1 t.2)
    (i : IsB (hide (awayB F) w) F' w' p N R') (s : Sync R' S') (t : Touch F w w') (hin : ∀ k ∈ F', k ∈ F ∨ w.heap.size ≤ k) : KB W w' p N S' fs ts := by
  have hs : Stays (hide (awayB F) w) (hide (awayB F') w') := by
    refine ⟨by rw [hide_size, hide_size]; exact t.size, fun a v hv => ?_⟩
    have n1 : ¬ a.block ∈ F' := fun hm => by rw [i.see.2 a hm] at hv; cases hv
    rw [hide_cell _ _ _ (by simp [awayB, n1])]
    exact i.see.1.2 a v hv
  exact ⟨F', R', i.rebase, s, fun k hk => (hin k hk).elim (h3 k) (fun h => Nat.le_trans h4.size h), Touch.own h4 t h3, fun f hf => hs.2 _ _ (h5 f hf), fun x hx => TmV.stay hs _ _ (h6 x hx)⟩
theorem KB_set (h : KB W w p N S fs ts) (hb : Below w.heap.size w w') {x : Tm} {v : Value} (ht : TmV (hide (under w.heap.size) w') x v) {n : Int} (hn : I64 n) {c : Int} (hc : setB N S n x = c) {S' : List (Int × Tm)} (hS : S' = if c = 0 then (n, x) :: S else S) :
    Calls Try.prog 11 #[p, .int .i64 n, v] w' fun e w'' => e = .returned (.int .i64 c) ∧ KB W w'' p N S' fs ts := by
  obtain ⟨F, R, h1, h2, h3, h4, h5, h6⟩ := h
  have hs : Stays (hide (awayB F) w) (hide (awayB F) w') := Stays.below hb fun _ _ h => h
  have i1 := (h1.ext hb).rebase
  refine (Set_at i1 hn (TmV.away h1.lt ht)).mono ?_
  rintro e w'' ⟨F', R', rfl, i, t, hin, hcase⟩
  have hcc : setB N R n x = c := by rw [h2.setB]; exact hc
  rw [hcc] at hcase ⊢
  refine ⟨rfl, KB.turned i1 h3 (h4.trans (hb.mono h4.size)) (fun f hf => hs.2 _ _ (h5 f hf)) (fun t ht => TmV.stay hs _ _ (h6 t ht)) i ?_ t hin⟩
  rcases hcase with ⟨h0, y, rfl, hy⟩ | ⟨h0, rfl⟩
  · rw [hS, if_pos h0]; exact h2.set hy
  · rw [hS, if_neg h0]; exact h2
theorem KB_whole (h : KB W w p N S fs ts) (hb : Below w.heap.size w w') {x : Tm} {v : Value} (ht : TmV (hide (under w.heap.size) w') x v) {y : Tm} {c : Int} (hc : wholeB N S x = (y, c)) :
    Calls Try.prog 15 #[p, v] w' fun e w'' => ∃ k n s a l q, e = .returned (.tuple #[.agg #[.int .i64 k, .int .i64 n, .string s, .slice a l q], .int .i64 c]) ∧ TmV (hide (under w.heap.size) w'') y (.agg #[.int .i64 k, .int .i64 n, .string s, .slice a l q]) ∧ Below w.heap.size w w'' := by
  obtain ⟨F, R, h1, h2, h3, h4, h5, h6⟩ := h
  have i1 := (h1.ext hb).rebase
  refine (Whole_at i1 (TmV.away h1.lt ht)).mono ?_
  rintro e w'' ⟨r, rfl, hr, b⟩
  rw [h2.wholeB, hc] at hr ⊢
  obtain ⟨k, n, s, a, l, q, rfl, _⟩ := four_of hr
  exact ⟨k, n, s, a, l, q, rfl, TmV.stay (Stays.less fun k hk => by have := hb.size; simp at hk ⊢; omega) _ _ hr, Ext.trans' hb b⟩
theorem KB_has (h : KB W w p N S fs ts) (hb : Below w.heap.size w w') {x : Tm} {v : Value} (ht : TmV (hide (under w.heap.size) w') x v) {n : Int} (hn : I64 n) {M : Nat} (hM : M ≤ 100000) {b : Bool} {c : Nat} (hc : hasB N S n x M = (b, c)) :
    Calls Try.prog 16 #[p, .int .i64 n, v, .int .i64 M] w' fun e w'' => e = .returned (.tuple #[.bool b, .int .i64 c]) ∧ Below w.heap.size w w'' := by
  obtain ⟨F, R, h1, h2, h3, h4, h5, h6⟩ := h
  have i1 := (h1.ext hb).rebase
  have C := Has_at i1 hn (TmV.away h1.lt ht) (most := (M : Int)) (by unfold I64; omega) (by omega)
  rw [Int.toNat_natCast, h2.hasB, hc] at C
  exact C.mono fun e w'' hq => ⟨hq.1, Ext.trans' hb hq.2⟩
theorem KB_no (h : KB W w p N S fs ts) (hb : Below w.heap.size w w') (i : Int) (hi : i < 0 ∨ (S.length : Int) < i) :
    Calls Try.prog 17 #[p, .int .i64 i] w' fun e w'' => e = .returned (.bool false) ∧ w' = w'' := by
  obtain ⟨F, R, h1, h2, h3, h4, h5, h6⟩ := h
  exact Undo_no (h1.ext hb) i (by rw [h2.len]; exact hi)
theorem KB_undo (h : KB W w p N S fs ts) (hb : Below w.heap.size w w') (n m : Nat) (hm : S.length = n + m) :
    Calls Try.prog 17 #[p, .int .i64 n] w' fun e w'' => e = .returned (.bool true) ∧ KB W w'' p N (S.drop m) fs ts := by
  obtain ⟨F, R, h1, h2, h3, h4, h5, h6⟩ := h
  have hs : Stays (hide (awayB F) w) (hide (awayB F) w') := Stays.below hb fun _ _ h => h
  have i1 := (h1.ext hb).rebase
  refine (Undo_yes i1 n m (by rw [h2.len]; exact hm)).mono ?_
  rintro e w'' ⟨rfl, i, t⟩
  exact ⟨rfl, KB.turned i1 h3 (h4.trans (hb.mono h4.size)) (fun f hf => hs.2 _ _ (h5 f hf)) (fun t ht => TmV.stay hs _ _ (h6 t ht)) i (h2.drop m) t (fun k hk => Or.inl hk)⟩
theorem KB_len (h : KB W w p N S fs ts) (hb : Below w.heap.size w w') : Calls Try.prog 20 #[p] w' fun e w'' => e = .returned (.int .i64 N) ∧ w' = w'' := by
  obtain ⟨F, R, h1, h2, h3, h4, h5, h6⟩ := h
  exact Len_at (h1.ext hb)
/-- A variable that stands for nothing, walked. -/
theorem KB_free (h : KB W w p N S fs ts) (hb : Below w.heap.size w w') (n : Nat) (hn : n < N) (hf : getB S n = none) (a : Option Addr) (c : Nat) :
    Calls Try.prog 18 #[p, .agg #[.int .i64 0, .int .i64 n, .string ⟨#[]⟩, .slice a 0 c]] w' fun e w'' => e = .returned (.agg #[.int .i64 0, .int .i64 n, .string ⟨#[]⟩, .slice a 0 c]) ∧ Below w.heap.size w w'' := by
  obtain ⟨F, R, h1, h2, h3, h4, h5, h6⟩ := h
  refine (Walk_free (h1.ext hb) n hn (by have := h2.isSome n; rw [hf] at this; simpa using this) a c).mono ?_
  rintro e w'' ⟨rfl, b⟩
  exact ⟨rfl, Ext.trans' hb b⟩
theorem KB_new {W w : World} {p q : Value} {V w0 : World} {N : Nat} (h : BothI V w0 p q N w) (hb : Below W.heap.size W w0) : KB W w p N [] [] [] := by
  obtain ⟨F, F2, h1, h2, h3, h4, h5, h6⟩ := h
  exact ⟨F, [], h1.rebase, trivial, fun k hk => Nat.le_trans hb.size (h3 k hk), hb.trans (h6.mono hb.size), fun f hf => (by cases hf), fun t ht => (by cases ht)⟩
/-- A term with one leaf. -/
theorem one_hide {D : Nat → Bool} (w : World) (ty : TypeId) {k n : Int} {s : ByteArray} (hk : I64 k) (hn : I64 n) (hs : s.size ≤ BIG) (hD : Old D w) :
    Tms (hide D (w.alloc (.cells #[.int .i64 k, .int .i64 n, .string s, .slice none 0 0] ty))) (.slice (some ⟨w.heap.size, 0, none⟩) 1 1) [.mk k n s []] := by
  obtain ⟨w1, e1, B1, z1, X1⟩ := box_new w #[.int .i64 k, .int .i64 n, .string s, .slice none 0 0] ty
  rw [e1]
  have hc : ∀ j u, [Value.int .i64 k, .int .i64 n, .string s, .slice none 0 0][j]? = some u → (hide D w1).cell? ⟨w.heap.size, j, none⟩ = some u := fun j u hj => by
    rw [hide_cell _ _ _ (hD _ (Nat.le_refl _))]
    exact X1.cells j u hj
  refine ⟨some ⟨w.heap.size, 0, none⟩, 1, rfl, by simp, by unfold maxLen; omega, by unfold BIG; simp, Or.inr ⟨_, 0, rfl, by rw [hide_size]; exact X1.lt, ?_⟩⟩
  rw [TmRow, TmRow]
  exact ⟨⟨_, _, _, _, hc 0 _ rfl, hc 1 _ rfl, hc 2 _ rfl, hc 3 _ rfl, leaf_tm _ hk hn hs⟩, trivial⟩
/-- Comp of one leaf, of two, made since w0. -/
theorem comp_one {w0 : World} (hb : Below w0.heap.size w0 w) (t s : ByteArray) (ht : t.size ≤ BIG) {k n : Int} (hk : I64 k) (hn : I64 n) (hs : s.size ≤ BIG) :
    Calls Try.prog 14 #[.string t, .slice (some ⟨w.heap.size, 0, none⟩) 1 1] (w.alloc (.cells #[.int .i64 k, .int .i64 n, .string s, .slice none 0 0] 31)) fun e w' => ∃ a c, e = .returned (.agg #[.int .i64 2, .int .i64 0, .string t, .slice a 1 c]) ∧ TmV (hide (under w0.heap.size) w') (.mk 2 0 t [.mk k n s []]) (.agg #[.int .i64 2, .int .i64 0, .string t, .slice a 1 c]) ∧ Below w0.heap.size w0 w' := by
  have h1 := one_hide (D := under w0.heap.size) w 31 hk hn hs (old_under hb.size)
  refine (comp_hide t ht (old_under (by have := hb.size; have := (bel1' w (.cells #[.int .i64 k, .int .i64 n, .string s, .slice none 0 0] 31)).size; omega)) h1).mono ?_
  rintro e w' ⟨a, c, rfl, hT, hB⟩
  exact ⟨a, c, rfl, hT, Ext.trans' hb (Ext.trans' (bel1' w _) hB)⟩
theorem comp_two {w0 : World} (hb : Below w0.heap.size w0 w) (t s s' : ByteArray) (ht : t.size ≤ BIG) {k n k' n' : Int} (hk : I64 k) (hn : I64 n) (hs : s.size ≤ BIG) (hk' : I64 k') (hn' : I64 n') (hs' : s'.size ≤ BIG) :
    Calls Try.prog 14 #[.string t, .slice (some ⟨w.heap.size, 0, none⟩) 2 2] (w.alloc (.cells #[.int .i64 k, .int .i64 n, .string s, .slice none 0 0, .int .i64 k', .int .i64 n', .string s', .slice none 0 0] 31)) fun e w' => ∃ a c, e = .returned (.agg #[.int .i64 2, .int .i64 0, .string t, .slice a 2 c]) ∧ TmV (hide (under w0.heap.size) w') (.mk 2 0 t [.mk k n s [], .mk k' n' s' []]) (.agg #[.int .i64 2, .int .i64 0, .string t, .slice a 2 c]) ∧ Below w0.heap.size w0 w' := by
  have h1 := two_hide (D := under w0.heap.size) w 31 hk hn hs hk' hn' hs' (old_under hb.size)
  refine (comp_hide t ht (old_under (by have := hb.size; have := (bel1' w (.cells #[.int .i64 k, .int .i64 n, .string s, .slice none 0 0, .int .i64 k', .int .i64 n', .string s', .slice none 0 0] 31)).size; omega)) h1).mono ?_
  rintro e w' ⟨a, c, rfl, hT, hB⟩
  exact ⟨a, c, rfl, hT, Ext.trans' hb (Ext.trans' (bel1' w _) hB)⟩
end
end Go.Proofs.Ytjhoekhfikcanaa
/- What the closed law of chapter 11 reckons. Nothing here is walked. -/
namespace Go.Proofs.Ytjhoekhfikcanaa

def dblT (n : Int) : Tm := .mk 2 0 ⟨#[100]⟩ [varV n, varV n]
def kS1 : List (Int × Tm) := [(0, .mk 2 0 ⟨#[102]⟩ [varV 1])]
def kS2 : List (Int × Tm) := [(1, varV 2), (0, .mk 2 0 ⟨#[102]⟩ [varV 1])]
def kD : Nat → List (Int × Tm)
  | 0 => kS1
  | j + 1 => ((3 + j : Nat), dblT ((4 + j : Nat) : Int)) :: kD j
theorem kf1 : setB 70 [] 70 (intT 1) = 1 := by kernel_rfl
theorem kf2 : setB 70 [] 0 (varV 70) = 1 := by kernel_rfl
theorem kf3 : setB 70 [] 0 (.mk 9 0 ⟨#[]⟩ []) = 1 := by kernel_rfl
theorem kf4 : setB 70 [] 0 (varV 0) = 5 := by kernel_rfl
theorem kf5 : setB 70 [] 0 (.mk 2 0 ⟨#[102]⟩ [varV 1]) = 0 := by kernel_rfl
theorem kf6 : setB 70 kS1 0 (intT 1) = 8 := by kernel_rfl
theorem kf7 : setB 70 kS1 1 (.mk 2 0 ⟨#[103]⟩ [varV 0]) = 5 := by kernel_rfl
theorem kf8 : setB 70 kS1 1 (varV 2) = 0 := by kernel_rfl
theorem kf9 : wholeB 70 kS2 (varV 0) = (.mk 2 0 ⟨#[102]⟩ [varV 2], 0) := by kernel_rfl
theorem kf10 : hasB 70 kS2 2 (varV 0) 100 = (true, 2) := by kernel_rfl
theorem kf11 : hasB 70 kS2 3 (.mk 2 0 ⟨#[112]⟩ [varV 0, intT 1]) 100 = (false, 4) := by kernel_rfl
theorem kf12 : hasB 70 kS2 3 (.mk 2 0 ⟨#[112]⟩ [varV 0, intT 1]) 2 = (true, 3) := by kernel_rfl
theorem kf13 : getB kS1 1 = none := by kernel_rfl
theorem kf14 : ∀ j, j < 12 → setB 70 (kD j) ((3 + j : Nat) : Int) (dblT ((4 + j : Nat) : Int)) = 0 := by decide +kernel
theorem kf15 : (wholeB 70 (kD 12) (varV 3)).2 = 12 := by kernel_rfl
theorem kf16 : (wholeB 70 (kD 12) (varV 12)).2 = 0 := by kernel_rfl
end Go.Proofs.Ytjhoekhfikcanaa
/- BindKnown's last region, over a frame of letters. -/
namespace Go.Proofs.Ytjhoekhfikcanaa
open Go.RowKit
set_option linter.unusedVariables false

def findReg (n : Nat) : Code → Option Code
  | .region id ops d => if id = n then some (.region id ops d) else none
  | .seq a b => match findReg n a with
    | some c => some c
    | none => findReg n b
  | .block _ c => findReg n c
  | .scope c => findReg n c
  | .loop c => findReg n c
  | .cond _ a b => match findReg n a with
    | some c => some c
    | none => findReg n b
  | _ => none
noncomputable def lastReg : Code := (Try.f3.body.bind (findReg 24)).getD .skip
theorem big0 : (⟨#[]⟩ : ByteArray).size ≤ BIG := by unfold BIG; decide
theorem big1 (c : UInt8) : (⟨#[c]⟩ : ByteArray).size ≤ BIG := by show 1 ≤ BIG; unfold BIG; omega
theorem var_tm (w : World) (n : Int) (h : I64 n) : TmV w (varV n) (.agg #[.int .i64 0, .int .i64 n, .string ⟨#[]⟩, .slice none 0 0]) := leaf_tm w i64_0 h big0
theorem int_tm (w : World) (n : Int) (h : I64 n) : TmV w (intT n) (.agg #[.int .i64 1, .int .i64 n, .string ⟨#[]⟩, .slice none 0 0]) := leaf_tm w i64_1 h big0
theorem good_f2 : goodT (.mk 2 0 ⟨#[102]⟩ [varV 2]) = true := by decide +kernel
theorem good_v1 : goodT (varV 1) = true := by decide +kernel
theorem i64n (n : Int) (h : -1000 ≤ n ∧ n ≤ 1000) : I64 n := by unfold I64; omega
set_option maxHeartbeats 40000000 in
set_option maxRecDepth 100000 in
theorem last_region {K0 : Act → World → Prop} {R0 : Ending → World → Prop} {we : World} {p : Value} {g11 g21 m11 c11 : Nat} {k11 n11 : Int} {s11 : ByteArray} {a11 : Option Addr}
    {y0 y2 y22 y23 y24 y26 y28 y29 y30 y31 y32 y33 y34 y35 y36 y37 y38 y39 y40 y41 y42 y43 y44 y45 y46 y47 y48 y49 y50 y51 y52 y53 y54 y55 y56 y57 y58 y59 y60 y61 y62 y63 y64 y65 y66 y67 y68 y69 y70 y71 y72 y73 y74 y75 y76 y77 y78 y79 y80 y81 y82 y83 y84 y85 y86 y87 y88 y89 y90 y91 y92 y93 y94 y95 y96 y97 y98 y99 y100 y101 y102 y103 y104 y105 y106 y107 y108 y109 y110 y111 y112 y113 y114 y115 y116 y117 y118 y119 y120 y121 y122 y123 y124 y125 y126 y127 y128 y129 y130 y131 y132 y133 y134 y135 y136 y137 y138 y139 y140 y141 y142 y143 y144 y145 y146 y147 y148 y149 y150 y151 y152 y153 y154 y155 y156 y157 y158 y159 y160 y161 y162 y163 y164 y165 y166 y167 y168 y169 y170 y171 y172 y173 y174 y175 y176 y177 y178 y179 y180 y181 y182 y183 y184 y185 y186 y187 y188 y189 y190 y191 y192 y193 y194 y195 y196 y197 y198 y199 y200 y201 y202 y203 y204 y205 y206 y207 y208 y209 y210 y211 y212 y213 : Value}
    (hT11 : TmV we (.mk 2 0 ⟨#[102]⟩ [varV 2]) (.agg #[.int .i64 k11, .int .i64 n11, .string s11, .slice a11 m11 c11]))
    (hLN : ∀ (wq : World), Below we.heap.size we wq → Calls Try.prog 20 #[p] wq fun e w'' => e = .returned (.int .i64 (70 : Nat)) ∧ wq = w'')
    (hc : we.cell? ⟨g11, 0, none⟩ = some (.int .i64 k11) ∧ we.cell? ⟨g11, 1, none⟩ = some (.int .i64 n11) ∧ we.cell? ⟨g11, 2, none⟩ = some (.string s11) ∧ we.cell? ⟨g11, 3, none⟩ = some (.slice a11 m11 c11) ∧ we.cell? ⟨g21, 0, none⟩ = some (.int .i64 0) ∧ we.cell? ⟨g21, 1, none⟩ = some (.int .i64 1) ∧ we.cell? ⟨g21, 2, none⟩ = some (.string ⟨#[]⟩) ∧ we.cell? ⟨g21, 3, none⟩ = some (.slice none 0 0))
    (hQ : ∀ (x126 x127 x128 x129 x130 x131 x132 x133 x134 x135 x136 x137 x138 x139 x140 x141 x142 x143 x144 x145 x146 x147 x148 x149 x150 x151 x152 x153 x154 x155 x156 x157 x158 x159 x160 x161 x162 x163 x164 x165 x166 x167 x168 x169 x170 x171 x172 x173 x174 x175 x176 x177 x178 x179 x180 x181 x182 x183 x184 x185 x186 x187 x188 x189 x190 x191 x192 x193 x194 x195 x196 x197 x198 x199 x200 x201 x202 x203 x204 x205 x206 x207 x208 x209 x210 x211 x212 x213 : Value) (w' : World), Below we.heap.size we w' → K0 ⟨#[.bool true, p, y2, .int .i64 1, .int .i64 1, .int .i64 1, .int .i64 5, .int .i64 0, .int .i64 8, .int .i64 5, .int .i64 0, .pointer (some ⟨g11, 0, none⟩), .int .i64 0, .bool true, .int .i64 2, .bool false, .int .i64 4, .bool true, .int .i64 3, .bool false, .bool true, .pointer (some ⟨g21, 0, none⟩), y22, y23, y24, .int .i64 12, y26, .int .i64 0, y28, y29, y30, y31, y32, y33, y34, y35, y36, y37, y38, y39, y40, y41, y42, y43, y44, y45, y46, y47, y48, y49, y50, y51, y52, y53, y54, y55, y56, y57, y58, y59, y60, y61, y62, y63, y64, y65, y66, y67, y68, y69, y70, y71, y72, y73, y74, y75, y76, y77, y78, y79, y80, y81, y82, y83, y84, y85, y86, y87, y88, y89, y90, y91, y92, y93, y94, y95, y96, y97, y98, y99, y100, y101, y102, y103, y104, y105, y106, y107, y108, y109, y110, y111, y112, y113, y114, y115, y116, y117, y118, y119, y120, y121, y122, y123, y124, y125, x126, x127, x128, x129, x130, x131, x132, x133, x134, x135, x136, x137, x138, x139, x140, x141, x142, x143, x144, x145, x146, x147, x148, x149, x150, x151, x152, x153, x154, x155, x156, x157, x158, x159, x160, x161, x162, x163, x164, x165, x166, x167, x168, x169, x170, x171, x172, x173, x174, x175, x176, x177, x178, x179, x180, x181, x182, x183, x184, x185, x186, x187, x188, x189, x190, x191, x192, x193, x194, x195, x196, x197, x198, x199, x200, x201, x202, x203, x204, x205, x206, x207, x208, x209, x210, x211, x212, x213], []⟩ w') :
    Code.wp Try.prog lastReg (Exit.then K0 (bodyPost Try.prog Try.f3 R0)) ⟨#[y0, p, y2, .int .i64 1, .int .i64 1, .int .i64 1, .int .i64 5, .int .i64 0, .int .i64 8, .int .i64 5, .int .i64 0, .pointer (some ⟨g11, 0, none⟩), .int .i64 0, .bool true, .int .i64 2, .bool false, .int .i64 4, .bool true, .int .i64 3, .bool false, .bool true, .pointer (some ⟨g21, 0, none⟩), y22, y23, y24, .int .i64 12, y26, .int .i64 0, y28, y29, y30, y31, y32, y33, y34, y35, y36, y37, y38, y39, y40, y41, y42, y43, y44, y45, y46, y47, y48, y49, y50, y51, y52, y53, y54, y55, y56, y57, y58, y59, y60, y61, y62, y63, y64, y65, y66, y67, y68, y69, y70, y71, y72, y73, y74, y75, y76, y77, y78, y79, y80, y81, y82, y83, y84, y85, y86, y87, y88, y89, y90, y91, y92, y93, y94, y95, y96, y97, y98, y99, y100, y101, y102, y103, y104, y105, y106, y107, y108, y109, y110, y111, y112, y113, y114, y115, y116, y117, y118, y119, y120, y121, y122, y123, y124, y125, y126, y127, y128, y129, y130, y131, y132, y133, y134, y135, y136, y137, y138, y139, y140, y141, y142, y143, y144, y145, y146, y147, y148, y149, y150, y151, y152, y153, y154, y155, y156, y157, y158, y159, y160, y161, y162, y163, y164, y165, y166, y167, y168, y169, y170, y171, y172, y173, y174, y175, y176, y177, y178, y179, y180, y181, y182, y183, y184, y185, y186, y187, y188, y189, y190, y191, y192, y193, y194, y195, y196, y197, y198, y199, y200, y201, y202, y203, y204, y205, y206, y207, y208, y209, y210, y211, y212, y213], []⟩ we := by
  obtain ⟨z0, z1, z2, z3, z4, z5, z6, z7⟩ := hc
  have HT11 := Lib.hid hT11
  have HLN := Lib.hid hLN
  have HQ := Lib.hid hQ
  clear hT11 hLN hQ
  conv => arg 2; whnf
  simp only [List.append_eq, List.cons_append, List.nil_append]
  refine wp_region_held_drew (S := fun w' => (w'.cell? ⟨g11, 0, none⟩ = some (.int .i64 k11) ∧ w'.cell? ⟨g11, 1, none⟩ = some (.int .i64 n11) ∧ w'.cell? ⟨g11, 2, none⟩ = some (.string s11) ∧ w'.cell? ⟨g11, 3, none⟩ = some (.slice a11 m11 c11) ∧ w'.cell? ⟨g21, 0, none⟩ = some (.int .i64 0) ∧ w'.cell? ⟨g21, 1, none⟩ = some (.int .i64 1) ∧ w'.cell? ⟨g21, 2, none⟩ = some (.string ⟨#[]⟩) ∧ w'.cell? ⟨g21, 3, none⟩ = some (.slice none 0 0)) ∧ Below we.heap.size we w') (by kernel_rfl) ⟨⟨z0, z1, z2, z3, z4, z5, z6, z7⟩, (Below.refl _ _).drew⟩ (fun hHeld => ?_)
  first | (refine held_t (i := 0) hHeld ?_; apply Exists.intro; refine ⟨fun wq hq => ?_, ?_⟩; (focus ((try dsimp only at hq); go_simp; (first | done | with_reducible rfl | fail)))) | refine held_s (i := 0) hHeld ?_ | fail
  first | (refine held_t (i := 1) hHeld ?_; apply Exists.intro; refine ⟨fun wq hq => ?_, ?_⟩; (focus ((try dsimp only at hq); go_simp; (first | done | with_reducible rfl | fail)))) | refine held_s (i := 1) hHeld ?_ | fail
  try simp only [Act.put, List.setIfInBounds_toArray, List.set_cons_zero, List.set_cons_succ]
  first | (refine held_t (i := 2) hHeld ?_; apply Exists.intro; refine ⟨fun wq hq => ?_, ?_⟩; (focus ((try dsimp only at hq); go_simp; (first | done | with_reducible rfl | fail)))) | refine held_s (i := 2) hHeld ?_ | fail
  first | (refine held_t (i := 3) hHeld ?_; apply Exists.intro; refine ⟨fun wq hq => ?_, ?_⟩; (focus ((try dsimp only at hq); go_simp; (first | done | with_reducible rfl | fail)))) | refine held_s (i := 3) hHeld ?_ | fail
  try simp only [Act.put, List.setIfInBounds_toArray, List.set_cons_zero, List.set_cons_succ]
  first | (refine held_t (i := 4) hHeld ?_; apply Exists.intro; refine ⟨fun wq hq => ?_, ?_⟩; (focus ((try dsimp only at hq); go_simp; (first | done | with_reducible rfl | fail)))) | refine held_s (i := 4) hHeld ?_ | fail
  first | (refine held_t (i := 5) hHeld ?_; apply Exists.intro; refine ⟨fun wq hq => ?_, ?_⟩; (focus ((try dsimp only at hq); go_simp; (first | done | with_reducible rfl | fail)))) | refine held_s (i := 5) hHeld ?_ | fail
  try simp only [Act.put, List.setIfInBounds_toArray, List.set_cons_zero, List.set_cons_succ]
  first | (refine held_t (i := 6) hHeld ?_; apply Exists.intro; refine ⟨fun wq hq => ?_, ?_⟩; (focus ((try dsimp only at hq); go_simp; (first | done | with_reducible rfl | fail)))) | refine held_s (i := 6) hHeld ?_ | fail
  first | (refine held_t (i := 7) hHeld ?_; apply Exists.intro; refine ⟨fun wq hq => ?_, ?_⟩; (focus ((try dsimp only at hq); go_simp; (first | done | with_reducible rfl | fail)))) | refine held_s (i := 7) hHeld ?_ | fail
  try simp only [Act.put, List.setIfInBounds_toArray, List.set_cons_zero, List.set_cons_succ]
  first | (refine held_t (i := 8) hHeld ?_; apply Exists.intro; refine ⟨fun wq hq => ?_, ?_⟩; (focus ((try dsimp only at hq); go_simp; (first | done | with_reducible rfl | fail)))) | refine held_s (i := 8) hHeld ?_ | fail
  first | (refine held_t (i := 9) hHeld ?_; apply Exists.intro; refine ⟨fun wq hq => ?_, ?_⟩; (focus ((try dsimp only at hq); go_simp; (first | done | with_reducible rfl | fail)))) | refine held_s (i := 9) hHeld ?_ | fail
  try simp only [Act.put, List.setIfInBounds_toArray, List.set_cons_zero, List.set_cons_succ]
  first | (refine held_t (i := 10) hHeld ?_; apply Exists.intro; refine ⟨fun wq hq => ?_, ?_⟩; (focus ((try dsimp only at hq); go_simp; (first | done | with_reducible rfl | fail)))) | refine held_s (i := 10) hHeld ?_ | fail
  first | (refine held_t (i := 11) hHeld ?_; apply Exists.intro; refine ⟨fun wq hq => ?_, ?_⟩; (focus ((try dsimp only at hq); go_simp; (first | done | with_reducible rfl | fail)))) | refine held_s (i := 11) hHeld ?_ | fail
  try simp only [Act.put, List.setIfInBounds_toArray, List.set_cons_zero, List.set_cons_succ]
  first | (refine held_t (i := 12) hHeld ?_; apply Exists.intro; refine ⟨fun wq hq => ?_, ?_⟩; (focus ((try dsimp only at hq); go_simp; (first | done | with_reducible rfl | fail)))) | refine held_s (i := 12) hHeld ?_ | fail
  first | (refine held_t (i := 13) hHeld ?_; apply Exists.intro; refine ⟨fun wq hq => ?_, ?_⟩; (focus ((try dsimp only at hq); go_simp; (first | done | with_reducible rfl | fail)))) | refine held_s (i := 13) hHeld ?_ | fail
  try simp only [Act.put, List.setIfInBounds_toArray, List.set_cons_zero, List.set_cons_succ]
  first | (refine held_t (i := 14) hHeld ?_; apply Exists.intro; refine ⟨fun wq hq => ?_, ?_⟩; (focus ((try dsimp only at hq); go_simp; (first | done | with_reducible rfl | fail)))) | refine held_s (i := 14) hHeld ?_ | fail
  first | (refine held_t (i := 15) hHeld ?_; apply Exists.intro; refine ⟨fun wq hq => ?_, ?_⟩; (focus ((try dsimp only at hq); go_simp; (first | done | with_reducible rfl | fail)))) | refine held_s (i := 15) hHeld ?_ | fail
  try simp only [Act.put, List.setIfInBounds_toArray, List.set_cons_zero, List.set_cons_succ]
  first | (refine held_t (i := 16) hHeld ?_; apply Exists.intro; refine ⟨fun wq hq => ?_, ?_⟩; (focus ((try dsimp only at hq); go_simp; (first | done | with_reducible rfl | fail)))) | refine held_s (i := 16) hHeld ?_ | fail
  first | (refine held_t (i := 17) hHeld ?_; apply Exists.intro; refine ⟨fun wq hq => ?_, ?_⟩; (focus ((try dsimp only at hq); go_simp; (first | done | with_reducible rfl | fail)))) | refine held_s (i := 17) hHeld ?_ | fail
  try simp only [Act.put, List.setIfInBounds_toArray, List.set_cons_zero, List.set_cons_succ]
  first | (refine held_t (i := 18) hHeld ?_; apply Exists.intro; refine ⟨fun wq hq => ?_, ?_⟩; (focus ((try dsimp only at hq); go_simp; (first | done | with_reducible rfl | fail)))) | refine held_s (i := 18) hHeld ?_ | fail
  first | (refine held_t (i := 19) hHeld ?_; apply Exists.intro; refine ⟨fun wq hq => ?_, ?_⟩; (focus ((try dsimp only at hq); go_simp; (first | done | with_reducible rfl | fail)))) | refine held_s (i := 19) hHeld ?_ | fail
  try simp only [Act.put, List.setIfInBounds_toArray, List.set_cons_zero, List.set_cons_succ]
  first | (refine held_t (i := 20) hHeld ?_; apply Exists.intro; refine ⟨fun wq hq => ?_, ?_⟩; (focus ((try dsimp only at hq); go_simp; (first | done | with_reducible rfl | fail)))) | refine held_s (i := 20) hHeld ?_ | fail
  first | (refine held_t (i := 21) hHeld ?_; apply Exists.intro; refine ⟨fun wq hq => ?_, ?_⟩; (focus ((try dsimp only at hq); go_simp; (first | done | with_reducible rfl | fail)))) | refine held_s (i := 21) hHeld ?_ | fail
  try simp only [Act.put, List.setIfInBounds_toArray, List.set_cons_zero, List.set_cons_succ]
  first | (refine held_t (i := 22) hHeld ?_; apply Exists.intro; refine ⟨fun wq hq => ?_, ?_⟩; (focus ((try dsimp only at hq); go_simp; (first | done | with_reducible rfl | fail)))) | refine held_s (i := 22) hHeld ?_ | fail
  first | (refine held_t (i := 23) hHeld ?_; apply Exists.intro; refine ⟨fun wq hq => ?_, ?_⟩; (focus ((try dsimp only at hq); go_simp; (first | done | with_reducible rfl | fail)))) | refine held_s (i := 23) hHeld ?_ | fail
  try simp only [Act.put, List.setIfInBounds_toArray, List.set_cons_zero, List.set_cons_succ]
  first | (refine held_t (i := 24) hHeld ?_; apply Exists.intro; refine ⟨fun wq hq => ?_, ?_⟩; (focus ((try dsimp only at hq); go_simp; (first | done | with_reducible rfl | fail)))) | refine held_s (i := 24) hHeld ?_ | fail
  first | (refine held_t (i := 25) hHeld ?_; apply Exists.intro; refine ⟨fun wq hq => ?_, ?_⟩; (focus ((try dsimp only at hq); go_simp; (first | done | with_reducible rfl | fail)))) | refine held_s (i := 25) hHeld ?_ | fail
  try simp only [Act.put, List.setIfInBounds_toArray, List.set_cons_zero, List.set_cons_succ]
  first | (refine held_t (i := 26) hHeld ?_; apply Exists.intro; refine ⟨fun wq hq => ?_, ?_⟩; (focus ((try dsimp only at hq); go_simp; (first | done | with_reducible rfl | fail)))) | refine held_s (i := 26) hHeld ?_ | fail
  first | (refine held_t (i := 27) hHeld ?_; apply Exists.intro; refine ⟨fun wq hq => ?_, ?_⟩; (focus ((try dsimp only at hq); go_simp; (first | done | with_reducible rfl | fail)))) | refine held_s (i := 27) hHeld ?_ | fail
  try simp only [Act.put, List.setIfInBounds_toArray, List.set_cons_zero, List.set_cons_succ]
  first | (refine held_t (i := 28) hHeld ?_; apply Exists.intro; refine ⟨fun wq hq => ?_, ?_⟩; (focus ((try dsimp only at hq); go_simp; (first | done | with_reducible rfl | fail)))) | refine held_s (i := 28) hHeld ?_ | fail
  first | (refine held_t (i := 29) hHeld ?_; apply Exists.intro; refine ⟨fun wq hq => ?_, ?_⟩; (focus ((try dsimp only at hq); go_simp; (first | done | with_reducible rfl | fail)))) | refine held_s (i := 29) hHeld ?_ | fail
  try simp only [Act.put, List.setIfInBounds_toArray, List.set_cons_zero, List.set_cons_succ]
  first | (refine held_t (i := 30) hHeld ?_; apply Exists.intro; refine ⟨fun wq hq => ?_, ?_⟩; (focus ((try dsimp only at hq); go_simp; (first | done | with_reducible rfl | fail)))) | refine held_s (i := 30) hHeld ?_ | fail
  first | (refine held_t (i := 31) hHeld ?_; apply Exists.intro; refine ⟨fun wq hq => ?_, ?_⟩; (focus ((try dsimp only at hq); go_simp; (first | done | with_reducible rfl | fail)))) | refine held_s (i := 31) hHeld ?_ | fail
  try simp only [Act.put, List.setIfInBounds_toArray, List.set_cons_zero, List.set_cons_succ]
  first | (refine held_t (i := 32) hHeld ?_; apply Exists.intro; refine ⟨fun wq hq => ?_, ?_⟩; (focus ((try dsimp only at hq); go_simp; (first | done | with_reducible rfl | fail)))) | refine held_s (i := 32) hHeld ?_ | fail
  first | (refine held_t (i := 33) hHeld ?_; apply Exists.intro; refine ⟨fun wq hq => ?_, ?_⟩; (focus ((try dsimp only at hq); go_simp; (first | done | with_reducible rfl | fail)))) | refine held_s (i := 33) hHeld ?_ | fail
  try simp only [Act.put, List.setIfInBounds_toArray, List.set_cons_zero, List.set_cons_succ]
  first | (refine held_t (i := 34) hHeld ?_; apply Exists.intro; refine ⟨fun wq hq => ?_, ?_⟩; (focus ((try dsimp only at hq); go_simp; (first | done | with_reducible rfl | fail)))) | refine held_s (i := 34) hHeld ?_ | fail
  first | (refine held_t (i := 35) hHeld ?_; apply Exists.intro; refine ⟨fun wq hq => ?_, ?_⟩; (focus ((try dsimp only at hq); go_simp; (first | done | with_reducible rfl | fail)))) | refine held_s (i := 35) hHeld ?_ | fail
  try simp only [Act.put, List.setIfInBounds_toArray, List.set_cons_zero, List.set_cons_succ]
  refine held_c 36 fun K hK => ?_
  go_simp
  (go_at_call 13; refine (var_at _ 2).mono ?_; rintro e wp ⟨rfl, h6⟩)
  refine hK.out _ _ (⟨⟨cell_later h6 hHeld.1.1, cell_later h6 hHeld.1.2.1, cell_later h6 hHeld.1.2.2.1, cell_later h6 hHeld.1.2.2.2.1, cell_later h6 hHeld.1.2.2.2.2.1, cell_later h6 hHeld.1.2.2.2.2.2.1, cell_later h6 hHeld.1.2.2.2.2.2.2.1, cell_later h6 hHeld.1.2.2.2.2.2.2.2⟩, Ext.trans' hHeld.2 h6⟩) (fun hHeld => ?_)
  clear hK K
  try simp only [Act.put, List.setIfInBounds_toArray, List.set_cons_zero, List.set_cons_succ]
  refine held_c 37 fun K hK => ?_
  go_simp
  skip
  refine hK.out _ _ (⟨⟨cell_later (bel1' wp (.cells #[.int .i64 0, .int .i64 2, .string ⟨#[]⟩, .slice none 0 0] 31)) hHeld.1.1, cell_later (bel1' wp (.cells #[.int .i64 0, .int .i64 2, .string ⟨#[]⟩, .slice none 0 0] 31)) hHeld.1.2.1, cell_later (bel1' wp (.cells #[.int .i64 0, .int .i64 2, .string ⟨#[]⟩, .slice none 0 0] 31)) hHeld.1.2.2.1, cell_later (bel1' wp (.cells #[.int .i64 0, .int .i64 2, .string ⟨#[]⟩, .slice none 0 0] 31)) hHeld.1.2.2.2.1, cell_later (bel1' wp (.cells #[.int .i64 0, .int .i64 2, .string ⟨#[]⟩, .slice none 0 0] 31)) hHeld.1.2.2.2.2.1, cell_later (bel1' wp (.cells #[.int .i64 0, .int .i64 2, .string ⟨#[]⟩, .slice none 0 0] 31)) hHeld.1.2.2.2.2.2.1, cell_later (bel1' wp (.cells #[.int .i64 0, .int .i64 2, .string ⟨#[]⟩, .slice none 0 0] 31)) hHeld.1.2.2.2.2.2.2.1, cell_later (bel1' wp (.cells #[.int .i64 0, .int .i64 2, .string ⟨#[]⟩, .slice none 0 0] 31)) hHeld.1.2.2.2.2.2.2.2⟩, Ext.trans' hHeld.2 (bel1' wp (.cells #[.int .i64 0, .int .i64 2, .string ⟨#[]⟩, .slice none 0 0] 31))⟩) (fun hHeld => ?_)
  clear hK K
  try simp only [Act.put, List.setIfInBounds_toArray, List.set_cons_zero, List.set_cons_succ]
  refine held_c 38 fun K hK => ?_
  go_simp
  (go_at_call 14; refine (comp_hide (D := fun _ => false) ⟨#[102]⟩ (big1 _) (fun _ _ => rfl) (one_hide (D := fun _ => false) wp 31 (k := 0) (n := 2) (s := ⟨#[]⟩) (i64n _ (by omega)) (i64n _ (by omega)) big0 (fun _ _ => rfl))).mono ?_; rintro e wr' ⟨a', c', rfl, ht, h6⟩; have HT2 := Lib.hid (show TmV wr' (.mk 2 0 ⟨#[102]⟩ [varV 2]) (.agg #[.int .i64 2, .int .i64 0, .string ⟨#[102]⟩, .slice a' 1 c']) from ht.bare); clear ht)
  refine hK.out _ _ (⟨⟨cell_later h6 hHeld.1.1, cell_later h6 hHeld.1.2.1, cell_later h6 hHeld.1.2.2.1, cell_later h6 hHeld.1.2.2.2.1, cell_later h6 hHeld.1.2.2.2.2.1, cell_later h6 hHeld.1.2.2.2.2.2.1, cell_later h6 hHeld.1.2.2.2.2.2.2.1, cell_later h6 hHeld.1.2.2.2.2.2.2.2⟩, Ext.trans' hHeld.2 h6⟩) (fun hHeld => ?_)
  clear hK K
  try simp only [Act.put, List.setIfInBounds_toArray, List.set_cons_zero, List.set_cons_succ]
  refine held_c 39 fun K hK => ?_
  go_simp
  (go_at_call 19; refine (Same_at (TmV.ext hHeld.2 _ _ HT11.out) HT2.out).mono ?_; rintro e ws ⟨rfl, h6⟩; rw [good_f2, same_self])
  refine hK.out _ _ (⟨⟨cell_later h6 hHeld.1.1, cell_later h6 hHeld.1.2.1, cell_later h6 hHeld.1.2.2.1, cell_later h6 hHeld.1.2.2.2.1, cell_later h6 hHeld.1.2.2.2.2.1, cell_later h6 hHeld.1.2.2.2.2.2.1, cell_later h6 hHeld.1.2.2.2.2.2.2.1, cell_later h6 hHeld.1.2.2.2.2.2.2.2⟩, Ext.trans' hHeld.2 h6⟩) (fun hHeld => ?_)
  clear hK K
  try simp only [Act.put, List.setIfInBounds_toArray, List.set_cons_zero, List.set_cons_succ]
  first | (refine held_t (i := 40) hHeld ?_; apply Exists.intro; refine ⟨fun wq hq => ?_, ?_⟩; (focus ((try dsimp only at hq); go_simp; (first | done | with_reducible rfl | fail)))) | refine held_s (i := 40) hHeld ?_ | fail
  first | (refine held_t (i := 41) hHeld ?_; apply Exists.intro; refine ⟨fun wq hq => ?_, ?_⟩; (focus ((try dsimp only at hq); go_simp; (first | done | with_reducible rfl | fail)))) | refine held_s (i := 41) hHeld ?_ | fail
  try simp only [Act.put, List.setIfInBounds_toArray, List.set_cons_zero, List.set_cons_succ]
  first | (refine held_t (i := 42) hHeld ?_; apply Exists.intro; refine ⟨fun wq hq => ?_, ?_⟩; (focus ((try dsimp only at hq); go_simp; (first | done | with_reducible rfl | fail)))) | refine held_s (i := 42) hHeld ?_ | fail
  first | (refine held_t (i := 43) hHeld ?_; apply Exists.intro; refine ⟨fun wq hq => ?_, ?_⟩; (focus ((try dsimp only at hq); go_simp; (first | done | with_reducible rfl | fail)))) | refine held_s (i := 43) hHeld ?_ | fail
  try simp only [Act.put, List.setIfInBounds_toArray, List.set_cons_zero, List.set_cons_succ]
  first | (refine held_t (i := 44) hHeld ?_; apply Exists.intro; refine ⟨fun wq hq => ?_, ?_⟩; (focus ((try dsimp only at hq); go_simp; (first | done | with_reducible rfl | fail)))) | refine held_s (i := 44) hHeld ?_ | fail
  first | (refine held_t (i := 45) hHeld ?_; apply Exists.intro; refine ⟨fun wq hq => ?_, ?_⟩; (focus ((try dsimp only at hq); go_simp; (first | done | with_reducible rfl | fail)))) | refine held_s (i := 45) hHeld ?_ | fail
  try simp only [Act.put, List.setIfInBounds_toArray, List.set_cons_zero, List.set_cons_succ]
  first | (refine held_t (i := 46) hHeld ?_; apply Exists.intro; refine ⟨fun wq hq => ?_, ?_⟩; (focus ((try dsimp only at hq); go_simp; (first | done | with_reducible rfl | fail)))) | refine held_s (i := 46) hHeld ?_ | fail
  first | (refine held_t (i := 47) hHeld ?_; apply Exists.intro; refine ⟨fun wq hq => ?_, ?_⟩; (focus ((try dsimp only at hq); go_simp; (first | done | with_reducible rfl | fail)))) | refine held_s (i := 47) hHeld ?_ | fail
  try simp only [Act.put, List.setIfInBounds_toArray, List.set_cons_zero, List.set_cons_succ]
  first | (refine held_t (i := 48) hHeld ?_; apply Exists.intro; refine ⟨fun wq hq => ?_, ?_⟩; (focus ((try dsimp only at hq); go_simp; (first | done | with_reducible rfl | fail)))) | refine held_s (i := 48) hHeld ?_ | fail
  first | (refine held_t (i := 49) hHeld ?_; apply Exists.intro; refine ⟨fun wq hq => ?_, ?_⟩; (focus ((try dsimp only at hq); go_simp; (first | done | with_reducible rfl | fail)))) | refine held_s (i := 49) hHeld ?_ | fail
  try simp only [Act.put, List.setIfInBounds_toArray, List.set_cons_zero, List.set_cons_succ]
  first | (refine held_t (i := 50) hHeld ?_; apply Exists.intro; refine ⟨fun wq hq => ?_, ?_⟩; (focus ((try dsimp only at hq); go_simp; (first | done | with_reducible rfl | fail)))) | refine held_s (i := 50) hHeld ?_ | fail
  first | (refine held_t (i := 51) hHeld ?_; apply Exists.intro; refine ⟨fun wq hq => ?_, ?_⟩; (focus ((try dsimp only at hq); go_simp; (first | done | with_reducible rfl | fail)))) | refine held_s (i := 51) hHeld ?_ | fail
  try simp only [Act.put, List.setIfInBounds_toArray, List.set_cons_zero, List.set_cons_succ]
  first | (refine held_t (i := 52) hHeld ?_; apply Exists.intro; refine ⟨fun wq hq => ?_, ?_⟩; (focus ((try dsimp only at hq); go_simp; (first | done | with_reducible rfl | fail)))) | refine held_s (i := 52) hHeld ?_ | fail
  first | (refine held_t (i := 53) hHeld ?_; apply Exists.intro; refine ⟨fun wq hq => ?_, ?_⟩; (focus ((try dsimp only at hq); go_simp; (first | done | with_reducible rfl | fail)))) | refine held_s (i := 53) hHeld ?_ | fail
  try simp only [Act.put, List.setIfInBounds_toArray, List.set_cons_zero, List.set_cons_succ]
  first | (refine held_t (i := 54) hHeld ?_; apply Exists.intro; refine ⟨fun wq hq => ?_, ?_⟩; (focus ((try dsimp only at hq); go_simp; (first | done | with_reducible rfl | fail)))) | refine held_s (i := 54) hHeld ?_ | fail
  first | (refine held_t (i := 55) hHeld ?_; apply Exists.intro; refine ⟨fun wq hq => ?_, ?_⟩; (focus ((try dsimp only at hq); go_simp; (first | done | with_reducible rfl | fail)))) | refine held_s (i := 55) hHeld ?_ | fail
  try simp only [Act.put, List.setIfInBounds_toArray, List.set_cons_zero, List.set_cons_succ]
  first | (refine held_t (i := 56) hHeld ?_; apply Exists.intro; refine ⟨fun wq hq => ?_, ?_⟩; (focus ((try dsimp only at hq); go_simp; (first | done | with_reducible rfl | fail)))) | refine held_s (i := 56) hHeld ?_ | fail
  first | (refine held_t (i := 57) hHeld ?_; apply Exists.intro; refine ⟨fun wq hq => ?_, ?_⟩; (focus ((try dsimp only at hq); go_simp; (first | done | with_reducible rfl | fail)))) | refine held_s (i := 57) hHeld ?_ | fail
  try simp only [Act.put, List.setIfInBounds_toArray, List.set_cons_zero, List.set_cons_succ]
  first | (refine held_t (i := 58) hHeld ?_; apply Exists.intro; refine ⟨fun wq hq => ?_, ?_⟩; (focus ((try dsimp only at hq); go_simp; (first | done | with_reducible rfl | fail)))) | refine held_s (i := 58) hHeld ?_ | fail
  first | (refine held_t (i := 59) hHeld ?_; apply Exists.intro; refine ⟨fun wq hq => ?_, ?_⟩; (focus ((try dsimp only at hq); go_simp; (first | done | with_reducible rfl | fail)))) | refine held_s (i := 59) hHeld ?_ | fail
  try simp only [Act.put, List.setIfInBounds_toArray, List.set_cons_zero, List.set_cons_succ]
  first | (refine held_t (i := 60) hHeld ?_; apply Exists.intro; refine ⟨fun wq hq => ?_, ?_⟩; (focus ((try dsimp only at hq); go_simp; (first | done | with_reducible rfl | fail)))) | refine held_s (i := 60) hHeld ?_ | fail
  first | (refine held_t (i := 61) hHeld ?_; apply Exists.intro; refine ⟨fun wq hq => ?_, ?_⟩; (focus ((try dsimp only at hq); go_simp; (first | done | with_reducible rfl | fail)))) | refine held_s (i := 61) hHeld ?_ | fail
  try simp only [Act.put, List.setIfInBounds_toArray, List.set_cons_zero, List.set_cons_succ]
  first | (refine held_t (i := 62) hHeld ?_; apply Exists.intro; refine ⟨fun wq hq => ?_, ?_⟩; (focus ((try dsimp only at hq); go_simp; (first | done | with_reducible rfl | fail)))) | refine held_s (i := 62) hHeld ?_ | fail
  first | (refine held_t (i := 63) hHeld ?_; apply Exists.intro; refine ⟨fun wq hq => ?_, ?_⟩; (focus ((try dsimp only at hq); go_simp; (first | done | with_reducible rfl | fail)))) | refine held_s (i := 63) hHeld ?_ | fail
  try simp only [Act.put, List.setIfInBounds_toArray, List.set_cons_zero, List.set_cons_succ]
  first | (refine held_t (i := 64) hHeld ?_; apply Exists.intro; refine ⟨fun wq hq => ?_, ?_⟩; (focus ((try dsimp only at hq); go_simp; (first | done | with_reducible rfl | fail)))) | refine held_s (i := 64) hHeld ?_ | fail
  first | (refine held_t (i := 65) hHeld ?_; apply Exists.intro; refine ⟨fun wq hq => ?_, ?_⟩; (focus ((try dsimp only at hq); go_simp; (first | done | with_reducible rfl | fail)))) | refine held_s (i := 65) hHeld ?_ | fail
  try simp only [Act.put, List.setIfInBounds_toArray, List.set_cons_zero, List.set_cons_succ]
  first | (refine held_t (i := 66) hHeld ?_; apply Exists.intro; refine ⟨fun wq hq => ?_, ?_⟩; (focus ((try dsimp only at hq); go_simp; (first | done | with_reducible rfl | fail)))) | refine held_s (i := 66) hHeld ?_ | fail
  first | (refine held_t (i := 67) hHeld ?_; apply Exists.intro; refine ⟨fun wq hq => ?_, ?_⟩; (focus ((try dsimp only at hq); go_simp; (first | done | with_reducible rfl | fail)))) | refine held_s (i := 67) hHeld ?_ | fail
  try simp only [Act.put, List.setIfInBounds_toArray, List.set_cons_zero, List.set_cons_succ]
  first | (refine held_t (i := 68) hHeld ?_; apply Exists.intro; refine ⟨fun wq hq => ?_, ?_⟩; (focus ((try dsimp only at hq); go_simp; (first | done | with_reducible rfl | fail)))) | refine held_s (i := 68) hHeld ?_ | fail
  first | (refine held_t (i := 69) hHeld ?_; apply Exists.intro; refine ⟨fun wq hq => ?_, ?_⟩; (focus ((try dsimp only at hq); go_simp; (first | done | with_reducible rfl | fail)))) | refine held_s (i := 69) hHeld ?_ | fail
  try simp only [Act.put, List.setIfInBounds_toArray, List.set_cons_zero, List.set_cons_succ]
  first | (refine held_t (i := 70) hHeld ?_; apply Exists.intro; refine ⟨fun wq hq => ?_, ?_⟩; (focus ((try dsimp only at hq); go_simp; (first | done | with_reducible rfl | fail)))) | refine held_s (i := 70) hHeld ?_ | fail
  first | (refine held_t (i := 71) hHeld ?_; apply Exists.intro; refine ⟨fun wq hq => ?_, ?_⟩; (focus ((try dsimp only at hq); go_simp; (first | done | with_reducible rfl | fail)))) | refine held_s (i := 71) hHeld ?_ | fail
  try simp only [Act.put, List.setIfInBounds_toArray, List.set_cons_zero, List.set_cons_succ]
  refine held_c 72 fun K hK => ?_
  go_simp
  (go_at_call 13; refine (var_at _ 1).mono ?_; rintro e wt ⟨rfl, h6⟩)
  refine hK.out _ _ (⟨⟨cell_later h6 hHeld.1.1, cell_later h6 hHeld.1.2.1, cell_later h6 hHeld.1.2.2.1, cell_later h6 hHeld.1.2.2.2.1, cell_later h6 hHeld.1.2.2.2.2.1, cell_later h6 hHeld.1.2.2.2.2.2.1, cell_later h6 hHeld.1.2.2.2.2.2.2.1, cell_later h6 hHeld.1.2.2.2.2.2.2.2⟩, Ext.trans' hHeld.2 h6⟩) (fun hHeld => ?_)
  clear hK K
  try simp only [Act.put, List.setIfInBounds_toArray, List.set_cons_zero, List.set_cons_succ]
  refine held_c 73 fun K hK => ?_
  go_simp
  (go_at_call 19; refine (Same_at (var_tm _ 1 (i64n _ (by omega))) (var_tm _ 1 (i64n _ (by omega)))).mono ?_; rintro e wu ⟨rfl, h6⟩; rw [good_v1, same_self])
  refine hK.out _ _ (⟨⟨cell_later h6 hHeld.1.1, cell_later h6 hHeld.1.2.1, cell_later h6 hHeld.1.2.2.1, cell_later h6 hHeld.1.2.2.2.1, cell_later h6 hHeld.1.2.2.2.2.1, cell_later h6 hHeld.1.2.2.2.2.2.1, cell_later h6 hHeld.1.2.2.2.2.2.2.1, cell_later h6 hHeld.1.2.2.2.2.2.2.2⟩, Ext.trans' hHeld.2 h6⟩) (fun hHeld => ?_)
  clear hK K
  try simp only [Act.put, List.setIfInBounds_toArray, List.set_cons_zero, List.set_cons_succ]
  first | (refine held_t (i := 74) hHeld ?_; apply Exists.intro; refine ⟨fun wq hq => ?_, ?_⟩; (focus ((try dsimp only at hq); go_simp; (first | done | with_reducible rfl | fail)))) | refine held_s (i := 74) hHeld ?_ | fail
  first | (refine held_t (i := 75) hHeld ?_; apply Exists.intro; refine ⟨fun wq hq => ?_, ?_⟩; (focus ((try dsimp only at hq); go_simp; (first | done | with_reducible rfl | fail)))) | refine held_s (i := 75) hHeld ?_ | fail
  try simp only [Act.put, List.setIfInBounds_toArray, List.set_cons_zero, List.set_cons_succ]
  first | (refine held_t (i := 76) hHeld ?_; apply Exists.intro; refine ⟨fun wq hq => ?_, ?_⟩; (focus ((try dsimp only at hq); go_simp; (first | done | with_reducible rfl | fail)))) | refine held_s (i := 76) hHeld ?_ | fail
  try simp only [Act.put, List.setIfInBounds_toArray, List.set_cons_zero, List.set_cons_succ]
  refine held_c 77 fun K hK => ?_
  go_simp
  (go_at_call 20; refine (HLN.out _ hHeld.2).mono ?_; rintro e wv' ⟨rfl, rfl⟩)
  refine hK.out _ _ (hHeld) (fun hHeld => ?_)
  clear hK K
  try simp only [Act.put, List.setIfInBounds_toArray, List.set_cons_zero, List.set_cons_succ]
  first | (refine held_t (i := 78) hHeld ?_; apply Exists.intro; refine ⟨fun wq hq => ?_, ?_⟩; (focus ((try dsimp only at hq); go_simp; (first | done | with_reducible rfl | fail)))) | refine held_s (i := 78) hHeld ?_ | fail
  first | (refine held_t (i := 79) hHeld ?_; apply Exists.intro; refine ⟨fun wq hq => ?_, ?_⟩; (focus ((try dsimp only at hq); go_simp; (first | done | with_reducible rfl | fail)))) | refine held_s (i := 79) hHeld ?_ | fail
  try simp only [Act.put, List.setIfInBounds_toArray, List.set_cons_zero, List.set_cons_succ]
  first | (refine held_t (i := 80) hHeld ?_; apply Exists.intro; refine ⟨fun wq hq => ?_, ?_⟩; (focus ((try dsimp only at hq); go_simp; (first | done | with_reducible rfl | fail)))) | refine held_s (i := 80) hHeld ?_ | fail
  first | (refine held_t (i := 81) hHeld ?_; apply Exists.intro; refine ⟨fun wq hq => ?_, ?_⟩; (focus ((try dsimp only at hq); go_simp; (first | done | with_reducible rfl | fail)))) | refine held_s (i := 81) hHeld ?_ | fail
  try simp only [Act.put, List.setIfInBounds_toArray, List.set_cons_zero, List.set_cons_succ]
  first | (refine held_t (i := 82) hHeld ?_; apply Exists.intro; refine ⟨fun wq hq => ?_, ?_⟩; (focus ((try dsimp only at hq); go_simp; (first | done | with_reducible rfl | fail)))) | refine held_s (i := 82) hHeld ?_ | fail
  first | (refine held_t (i := 83) hHeld ?_; apply Exists.intro; refine ⟨fun wq hq => ?_, ?_⟩; (focus ((try dsimp only at hq); go_simp; (first | done | with_reducible rfl | fail)))) | refine held_s (i := 83) hHeld ?_ | fail
  try simp only [Act.put, List.setIfInBounds_toArray, List.set_cons_zero, List.set_cons_succ]
  first | (refine held_t (i := 84) hHeld ?_; apply Exists.intro; refine ⟨fun wq hq => ?_, ?_⟩; (focus ((try dsimp only at hq); go_simp; (first | done | with_reducible rfl | fail)))) | refine held_s (i := 84) hHeld ?_ | fail
  first | (refine held_t (i := 85) hHeld ?_; apply Exists.intro; refine ⟨fun wq hq => ?_, ?_⟩; (focus ((try dsimp only at hq); go_simp; (first | done | with_reducible rfl | fail)))) | refine held_s (i := 85) hHeld ?_ | fail
  try simp only [Act.put, List.setIfInBounds_toArray, List.set_cons_zero, List.set_cons_succ]
  first | (refine held_t (i := 86) hHeld ?_; apply Exists.intro; refine ⟨fun wq hq => ?_, ?_⟩; (focus ((try dsimp only at hq); go_simp; (first | done | with_reducible rfl | fail)))) | refine held_s (i := 86) hHeld ?_ | fail
  first | (refine held_t (i := 87) hHeld ?_; apply Exists.intro; refine ⟨fun wq hq => ?_, ?_⟩; (focus ((try dsimp only at hq); go_simp; (first | done | with_reducible rfl | fail)))) | refine held_s (i := 87) hHeld ?_ | fail
  try simp only [Act.put, List.setIfInBounds_toArray, List.set_cons_zero, List.set_cons_succ]
  first | (refine held_t (i := 88) hHeld ?_; apply Exists.intro; refine ⟨fun wq hq => ?_, ?_⟩; (focus ((try dsimp only at hq); go_simp; (first | done | with_reducible rfl | fail)))) | refine held_s (i := 88) hHeld ?_ | fail
  try simp only [Act.put, List.setIfInBounds_toArray, List.set_cons_zero, List.set_cons_succ]
  refine wpAnyH_done (by kernel_rfl) ?_ _
  exact HQ.out _ _ _ _ _ _ _ _ _ _ _ _ _ _ _ _ _ _ _ _ _ _ _ _ _ _ _ _ _ _ _ _ _ _ _ _ _ _ _ _ _ _ _ _ _ _ _ _ _ _ _ _ _ _ _ _ _ _ _ _ _ _ _ _ _ _ _ _ _ _ _ _ _ _ _ _ _ _ _ _ _ _ _ _ _ _ _ _ _ hHeld.2
end Go.Proofs.Ytjhoekhfikcanaa
