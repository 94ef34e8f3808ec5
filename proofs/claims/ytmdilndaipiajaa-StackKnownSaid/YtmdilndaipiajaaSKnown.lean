/- StackKnown: what chapter 4 says of room, of marks; two stacks apart. No condition. -/
import Derived.Test.YtmdilndaipiajaaIaw
import Derived.Test.YtmdilndaipiajaaRows
namespace Go.Proofs.Ytmdilndaipiajaa
open Go.RowKit

/-- Two stacks made since W, apart from each other. -/
def Two (W w : World) (p q : Value) (R S : Nat) (xs zs : List Value) : Prop :=
  ∃ Fp Fq, IsStk 9 50 Fp w p R xs ∧ IsStk 3 52 Fq w q S zs ∧ (∀ k ∈ Fp, W.heap.size ≤ k) ∧ (∀ k ∈ Fq, W.heap.size ≤ k) ∧ (∀ k ∈ Fp, k ∉ Fq) ∧ Below W.heap.size W w
section
variable {W w : World} {p q : Value} {R S : Nat} {xs zs : List Value}
theorem Two.left (h : Two W w p q R S xs zs) : ∃ G, InS W w p R xs G ∧ ∀ w' xs', InS W w' p R xs' G → Apart G w w' → Two W w' p q R S xs' zs := by
  obtain ⟨Fp, Fq, h1, h2, h3, h4, h5, h6⟩ := h
  refine ⟨Fq, ⟨Fp, h1, h3, h5, h2.lt, h6⟩, fun w' xs' hi ha => ?_⟩
  obtain ⟨F', g1, g2, g3, g4, g5⟩ := hi
  exact ⟨F', Fq, g1, h2.keep ha.2, g2, h4, g3, g5⟩
theorem Two.right (h : Two W w p q R S xs zs) : ∃ G, InI W w q S zs G ∧ ∀ w' zs', InI W w' q S zs' G → Apart G w w' → Two W w' p q R S xs zs' := by
  obtain ⟨Fp, Fq, h1, h2, h3, h4, h5, h6⟩ := h
  refine ⟨Fp, ⟨Fq, h2, h4, fun k hk hp => h5 k hp hk, h1.lt, h6⟩, fun w' zs' hi ha => ?_⟩
  obtain ⟨F', g1, g2, g3, g4, g5⟩ := hi
  exact ⟨Fp, F', h1.keep ha.2, g1, h3, g2, fun k hk hq => g3 k hq hk, g5⟩
theorem Two.same {w' : World} (h : Two W w p q R S xs zs) (hb : Below w.heap.size w w') : Two W w' p q R S xs zs := by
  obtain ⟨Fp, Fq, h1, h2, h3, h4, h5, h6⟩ := h
  exact ⟨Fp, Fq, h1.ext hb, h2.ext hb, h3, h4, h5, h6.trans (hb.mono h6.size)⟩
theorem Two.below (h : Two W w p q R S xs zs) : Below W.heap.size W w := by obtain ⟨_, _, _, _, _, _, _, h⟩ := h; exact h
theorem Two.alloc (h : Two W w p q R S xs zs) (o : Obj) : Two W (w.alloc o) p q R S xs zs := h.same ((Below.refl _ _).alloc (Nat.le_refl _) o)
/-- The left one pushes. -/
theorem l_push (h : Two W w p q R S xs zs) (ao : Option Addr) (m c : Nat) (news : List Value) (hl : news.length = m) (hsrc : m = 0 ∨ ∃ ad, ao = some ad ∧ ∀ j u, news[j]? = some u → w.cell? (ad.add j) = some u) (h1c : ∀ u ∈ news, u.oneCell' = true) (hfit : xs.length + m ≤ R) :
    Calls Try.prog 10 #[p, .slice ao m c] w fun e w' => e = .returned (.bool true) ∧ Two W w' p q R S (xs ++ news) zs := by
  obtain ⟨G, h1, h2⟩ := h.left
  exact (push_fitsS h1 ao m c news hl hsrc h1c hfit).mono (fun e w' ⟨he, a, b⟩ => ⟨he, h2 _ _ a b⟩)
theorem l_full (h : Two W w p q R S xs zs) (ao : Option Addr) (m c : Nat) (hm : m ≤ maxLen) (hno : R < xs.length + m) :
    Calls Try.prog 10 #[p, .slice ao m c] w fun e w' => e = .returned (.bool false) ∧ Two W w' p q R S xs zs := by
  obtain ⟨G, h1, h2⟩ := h.left
  exact (push_fullS h1 ao m c hm hno).mono (fun e w' ⟨he, a, b⟩ => ⟨he, h2 _ _ a b⟩)
theorem l_pop {ys : List Value} {x : Value} (h : Two W w p q R S (ys ++ [x]) zs) : Calls Try.prog 11 #[p] w fun e w' => e = .returned (.tuple #[x, .bool true]) ∧ Two W w' p q R S ys zs := by
  obtain ⟨G, h1, h2⟩ := h.left
  exact (pop_hitS h1).mono (fun e w' ⟨he, a, b⟩ => ⟨he, h2 _ _ a b⟩)
theorem l_pop0 (h : Two W w p q R S [] zs) : Calls Try.prog 11 #[p] w fun e w' => e = .returned (.tuple #[.string ⟨#[]⟩, .bool false]) ∧ w = w' := by
  obtain ⟨G, h1, h2⟩ := h.left; exact pop_missS h1
theorem l_top {ys : List Value} {x : Value} (h : Two W w p q R S (ys ++ [x]) zs) : Calls Try.prog 12 #[p] w fun e w' => e = .returned (.tuple #[x, .bool true]) ∧ w = w' := by
  obtain ⟨G, h1, h2⟩ := h.left; exact top_hitS h1
theorem l_top0 (h : Two W w p q R S [] zs) : Calls Try.prog 12 #[p] w fun e w' => e = .returned (.tuple #[.string ⟨#[]⟩, .bool false]) ∧ w = w' := by
  obtain ⟨G, h1, h2⟩ := h.left; exact top_missS h1
theorem l_at (h : Two W w p q R S xs zs) (i : Nat) (x : Value) (hx : xs[i]? = some x) : Calls Try.prog 14 #[p, .int .i64 i] w fun e w' => e = .returned (.tuple #[x, .bool true]) ∧ w = w' := by
  obtain ⟨G, h1, h2⟩ := h.left; exact at_hitS h1 i x hx
theorem l_at0 (h : Two W w p q R S xs zs) (i : Int) (hi : i < 0 ∨ (xs.length : Int) ≤ i) : Calls Try.prog 14 #[p, .int .i64 i] w fun e w' => e = .returned (.tuple #[.string ⟨#[]⟩, .bool false]) ∧ w = w' := by
  obtain ⟨G, h1, h2⟩ := h.left; exact at_missS h1 i hi
theorem l_undo0 (h : Two W w p q R S xs zs) (i : Int) (hi : i < 0 ∨ (xs.length : Int) < i) : Calls Try.prog 13 #[p, .int .i64 i] w fun e w' => e = .returned (.tuple #[.slice none 0 0, .bool false]) ∧ w = w' := by
  obtain ⟨G, h1, h2⟩ := h.left; exact undo_missS h1 i hi
theorem l_undo {ss : List ByteArray} (h : Two W w p q R S (ss.map Value.string) zs) (n m : Nat) (hm : ss.length = n + m) :
    Calls Try.prog 13 #[p, .int .i64 n] w fun e w' => e = .returned (.tuple #[.slice (some ⟨w.heap.size, 0, none⟩) m m, .bool true]) ∧ Two W w' p q R S ((ss.take n).map Value.string) zs := by
  obtain ⟨G, h1, h2⟩ := h.left
  exact (undo_hitS h1 n m hm).mono (fun e w' ⟨he, a, b, _⟩ => ⟨he, h2 _ _ (a.less G (fun k hk => List.mem_cons_of_mem _ hk)) b⟩)
theorem l_mark (h : Two W w p q R S xs zs) : Calls Try.prog 16 #[p] w fun e w' => e = .returned (.int .i64 xs.length) ∧ w = w' := by
  obtain ⟨G, h1, h2⟩ := h.left; exact mark_inS h1
theorem r_push (h : Two W w p q R S xs zs) (ao : Option Addr) (m c : Nat) (news : List Value) (hl : news.length = m) (hsrc : m = 0 ∨ ∃ ad, ao = some ad ∧ ∀ j u, news[j]? = some u → w.cell? (ad.add j) = some u) (h1c : ∀ u ∈ news, u.oneCell' = true) (hfit : zs.length + m ≤ S) :
    Calls Try.prog 15 #[q, .slice ao m c] w fun e w' => e = .returned (.bool true) ∧ Two W w' p q R S xs (zs ++ news) := by
  obtain ⟨G, h1, h2⟩ := h.right
  exact (push_fitsI h1 ao m c news hl hsrc h1c hfit).mono (fun e w' ⟨he, a, b⟩ => ⟨he, h2 _ _ a b⟩)
theorem r_full (h : Two W w p q R S xs zs) (ao : Option Addr) (m c : Nat) (hm : m ≤ maxLen) (hno : S < zs.length + m) :
    Calls Try.prog 15 #[q, .slice ao m c] w fun e w' => e = .returned (.bool false) ∧ Two W w' p q R S xs zs := by
  obtain ⟨G, h1, h2⟩ := h.right
  exact (push_fullI h1 ao m c hm hno).mono (fun e w' ⟨he, a, b⟩ => ⟨he, h2 _ _ a b⟩)
theorem two_new {G : List Nat} (hp : InS W w p R xs []) (hb : Below W.heap.size W w) (m : Int) (S : Nat) (hS : (S : Int) = max 1 (min m 65536)) (_ : G = []) :
    Calls Try.prog 9 #[.int .i64 m] w fun e w' => ∃ bt : Nat, e = .returned (.pointer (some ⟨bt, 0, none⟩)) ∧ Two W w' p (.pointer (some ⟨bt, 0, none⟩)) R S xs [] := by
  obtain ⟨F, h1, h2, h3, h4, h5⟩ := hp
  refine (new_inI hb m S hS F h1.lt).mono ?_
  rintro e w' ⟨bt, rfl, ⟨F', g1, g2, g3, g4, g5⟩, ha⟩
  exact ⟨bt, rfl, F, F', h1.keep ha.2, g1, h2, g2, fun k hk hq => g3 k hq hk, g5⟩
end

set_option maxRecDepth 100000
set_option maxHeartbeats 2000000 in
theorem known_any (W : World) : Calls Try.prog 3 #[] W fun e w' => IsBool W true e w' := by
  go_enter Try.func3, Try.ntmps3
  (go_wp2_with fail; go_fit (awake_any W); rintro e w1 ⟨rfl, hb⟩)
  have HB1 := Lib.hid hb; clear hb
  (go_wp2_with fail; go_fit (new_inS HB1.out 2 2 (by decide) [] (by simp)); rintro e w2 ⟨bp, rfl, h2, _⟩)
  have HP := Lib.hid h2; clear h2
  (go_wp2_with fail; go_fit (two_new (G := []) HP.out HP.out.below (-5) 1 (by decide) rfl); rintro e w3 ⟨bq, rfl, h3⟩)
  have H3 := Lib.hid (h3.alloc (.cells #[.string ⟨#[120]⟩, .string ⟨#[121]⟩, .string ⟨#[122]⟩] 9)); clear h3
  (go_wp2_with fail; go_fit (l_full H3.out (some ⟨w3.heap.size, 0, none⟩) 3 3 (by decide) (by simp)); rintro e w4 ⟨rfl, h4⟩)
  have H4 := Lib.hid (h4.alloc (.cells #[.string ⟨#[120]⟩, .string ⟨#[121]⟩] 9)); clear h4
  (go_wp2_with fail; go_fit (l_push H4.out (some ⟨w4.heap.size, 0, none⟩) 2 2 [.string ⟨#[120]⟩, .string ⟨#[121]⟩] rfl (Or.inr ⟨_, rfl, src_new w4 _ _⟩) (by simp [Value.oneCell']) (by simp)); rintro e w5 ⟨rfl, h5⟩)
  have H5 := Lib.hid h5; clear h5
  (go_wp2_with fail; go_fit (l_push H5.out none 0 0 [] rfl (Or.inl rfl) (by simp) (by simp)); rintro e w6 ⟨rfl, h6⟩)
  have H6 := Lib.hid (show Two W w6 _ _ 2 1 ([.string ⟨#[120]⟩] ++ [.string ⟨#[121]⟩]) [] from h6); clear h6
  (go_wp2_with fail; go_fit (l_pop H6.out); rintro e w7 ⟨rfl, h7⟩)
  have H7 := Lib.hid (show Two W w7 _ _ 2 1 ([] ++ [.string ⟨#[120]⟩]) [] from h7); clear h7
  (go_wp2_with fail; go_fit (l_top H7.out); rintro e w' ⟨rfl, rfl⟩)
  (go_wp2_with fail; go_fit (l_undo0 H7.out 2 (Or.inr (by simp))); rintro e w' ⟨rfl, rfl⟩)
  (go_wp2_with fail; go_fit (l_undo0 H7.out (-1) (Or.inl (by decide))); rintro e w' ⟨rfl, rfl⟩)
  (go_wp2_with fail; go_fit (l_undo (ss := [⟨#[120]⟩]) H7.out 1 0 rfl); rintro e w8 ⟨rfl, h8⟩)
  have H8 := Lib.hid (show Two W w8 _ _ 2 1 ([] ++ [.string ⟨#[120]⟩]) [] from h8); clear h8
  (go_wp2_with fail; go_fit (l_at H8.out 0 (.string ⟨#[120]⟩) rfl); rintro e w' ⟨rfl, rfl⟩)
  (go_wp2_with fail; go_fit (l_at0 H8.out 1 (Or.inr (by simp))); rintro e w' ⟨rfl, rfl⟩)
  (go_wp2_with fail; go_fit (l_pop H8.out); rintro e w9 ⟨rfl, h9⟩)
  have H9 := Lib.hid h9; clear h9
  (go_wp2_with fail; go_fit (l_pop0 H9.out); rintro e w' ⟨rfl, rfl⟩)
  (go_wp2_with fail; go_fit (l_top0 H9.out); rintro e w' ⟨rfl, rfl⟩)
  have H10 := Lib.hid (H9.out.alloc (.cells #[.int .i64 1] 3))
  (go_wp2_with fail; go_fit (r_push H10.out (some ⟨w9.heap.size, 0, none⟩) 1 1 [.int .i64 1] rfl (Or.inr ⟨_, rfl, src_new w9 _ _⟩) (by simp [Value.oneCell']) (by simp)); rintro e w10 ⟨rfl, h11⟩)
  have H11 := Lib.hid (h11.alloc (.cells #[.int .i64 2] 3)); clear h11
  (go_wp2_with fail; go_fit (r_full H11.out (some ⟨w10.heap.size, 0, none⟩) 1 1 (by decide) (by simp)); rintro e w11 ⟨rfl, h12⟩)
  have H12 := Lib.hid h12; clear h12
  (go_wp2_with fail; go_fit (l_mark H12.out); rintro e w' ⟨rfl, rfl⟩)
  go_wp2
  go_ret
  exact ⟨rfl, H12.out.below⟩
namespace stackKnown
open Go.ChangeShapes Go.WideShapes Go.ChangeAt Go.RowKit
theorem own : ownKnob Try.prog.godebug = none := by kernel_rfl
theorem laidOut : laidOutB Try.prog = true := by kernel_rfl
set_option linter.unusedVariables false
set_option maxRecDepth 100000 in
theorem lifted (os : Os) (started : os.Started) (H : Type) (enc : TypeId × Value → H) :
    ReturnsInHanded {} Try.checked os 3 .any (Rows.stackKnownSpec.pre6 enc Try.prog Try.f3 Rows.stackKnownRow.domain false) (Rows.stackKnownSpec.post enc Try.prog Try.f3 false true false false) := by
  refine returnsInHanded_of_change_sized (C := Try.checked) own started (by kernel_rfl) Try.func3
    (ChangeSpec.witness6 (enc := enc) (C := Try.checked) false ⟨#[], #[], []⟩ 8 (by kernel_rfl) (by kernel_rfl) (by kernel_rfl) (by kernel_rfl)) ?_
  intro W base args ds gs before hval0 hW hcnd hsz0 _
  have hval : ∀ (j : Nat) t v, Try.f3.params[j]? = some t → args[j]? = some v → Value.okWide Try.prog W .any base t v := hval0
  have hW' := hW
  obtain ⟨p, q, hA0, hV, rfl, hfz, hnd⟩ := hW
  have hA : DataW.TrodAll enc Try.prog W 0 (fun _ => true) true Try.f3.params.toList args.toList ds p := hA0
  have hsz : (DataW.weightsEach Try.prog (Try.f3.params.toList ++ []) (ds ++ gs)).all (· ≤ reachBytes) = true := hsz0
  rw [Try.params3] at hA hval hsz
  obtain ⟨rfl, rfl, rfl⟩ := trodAll_none hA
  obtain ⟨rfl, rfl⟩ := trodVars_none hV
  clear hA0 hval0 hsz0


  refine (known_any W ).mono fun e W' ⟨he, bel⟩ => ?_
  subst he
  exact ⟨_, rfl, _, _, _, [], _, [], hW', trodAll_mk1 (shut_bool Try.underlying4 _), rfl, rfl, bel.frame _, fun h => by cases h⟩
theorem proved : Rows.StackKnownSaid :=
  OpenClaim.holds_of_wide 3 Try.f3 rfl rfl rfl rfl rfl rfl rfl ⟨rfl, rfl, rfl, rfl, rfl⟩ rfl rfl rfl rfl rfl (by kernel_rfl) Try.func3 (by kernel_rfl)
    (of_decide_eq_true (by kernel_rfl)) (by unfold Func.isWrapper; first | (rw [if_pos (by decide +kernel)]; kernel_rfl) | (rw [if_neg (by decide +kernel)]; exact ⟨rfl, rfl⟩))
    (fun os started H enc _ => lifted os started H enc)
#print axioms proved
end stackKnown

end Go.Proofs.Ytmdilndaipiajaa
