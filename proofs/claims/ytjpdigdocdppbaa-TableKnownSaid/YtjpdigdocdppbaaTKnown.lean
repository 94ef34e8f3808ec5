/- TableKnown: chapter 3's examples and edges: room, cuts, keys of another kind. No condition. -/
import Derived.Test.YtjpdigdocdppbaaPairL
namespace Go.Proofs.Ytjpdigdocdppbaa
open Go.RowKit Go.Maps Go.WideMaps

def kx : ByteArray := ⟨#[120]⟩
def ky : ByteArray := ⟨#[121]⟩
def kz : ByteArray := ⟨#[122]⟩
/-- A put into the table of pairs, beside a table of strings that lies apart. -/
def Two (W w : World) (p q : Value) (R : Nat) (ks : List PairV) (S : Nat) (ls : List ByteArray) : Prop := ∃ F, PTab F w p R ks ∧ (∀ k ∈ F, W.heap.size ≤ k) ∧ TabIn W w q S ls F
theorem two_put {W w : World} {p q : Value} {R S : Nat} {ks : List PairV} {ls : List ByteArray} (h : Two W w p q R ks S ls) (k : PairV) (hk : pok k) {n : Int} {b : Bool} {ks' : List PairV} (hp : Puts R ks k n b ks') :
    Calls Try.prog 11 #[p, pval k] w fun e w' => e = .returned (.tuple #[.int .i64 n, .bool b]) ∧ Two W w' p q R ks' S ls := by
  obtain ⟨F, h1, h2, h3⟩ := h
  refine (pput_any h1 k hk hp).mono ?_
  rintro e w' ⟨rfl, F', t1, t2, t3⟩
  have hlt := t1.lt
  refine ⟨rfl, F', t1, fun k hk => ?_, h3.write F t2 (fun _ h => h) h2 F' (fun k hk => ?_)⟩
  · rcases t3 k hk with hf | hf
    · exact h2 k hf
    · exact Nat.le_trans h3.below.size hf
  · rcases t3 k hk with hf | hf
    · exact Or.inl hf
    · exact Or.inr ⟨hf, hlt k hk⟩
theorem two_new {W w : World} (hb : Below W.heap.size W w) :
    Calls Try.prog 9 #[.int .i64 0] w fun e w' => ∃ bt : Nat, e = .returned (.pointer (some ⟨bt, 0, none⟩)) ∧ ∃ F, PTab F w' (.pointer (some ⟨bt, 0, none⟩)) 1 [] ∧ (∀ k ∈ F, W.heap.size ≤ k) ∧ Below W.heap.size W w' := by
  refine (pnew_in hb 0 1 (by decide)).mono ?_
  rintro e w' ⟨bt, rfl, F, h1, h2, h3⟩
  exact ⟨bt, rfl, F, h1, h2, h3⟩

set_option maxRecDepth 100000
set_option maxHeartbeats 2000000 in
theorem tknown_any (W : World) : Calls Try.prog 3 #[] W fun e w' => IsBool W true e w' := by
  have o12 : pok ⟨1, 2⟩ := ⟨by decide, by decide⟩
  have o21 : pok ⟨2, 1⟩ := ⟨by decide, by decide⟩
  have p1 : Puts 1 ([] : List PairV) ⟨1, 2⟩ 0 true [⟨1, 2⟩] := Or.inr (Or.inr ⟨rfl, rfl, by simp, rfl, by decide⟩)
  have p2 : Puts 1 ([⟨1, 2⟩] : List PairV) ⟨2, 1⟩ 0 false [⟨1, 2⟩] := Or.inr (Or.inl ⟨rfl, rfl, by simp, rfl, by decide⟩)
  have p3 : Puts 1 ([⟨1, 2⟩] : List PairV) ⟨1, 2⟩ 0 true [⟨1, 2⟩] := Or.inl ⟨rfl, rfl, 0, rfl, rfl⟩
  have q1 : Puts 3 [] (⟨#[120]⟩ : ByteArray) 0 true [kx] := Or.inr (Or.inr ⟨rfl, rfl, by simp, rfl, by decide⟩)
  have q2 : Puts 3 [kx] (⟨#[121]⟩ : ByteArray) 1 true [kx, ky] := Or.inr (Or.inr ⟨rfl, rfl, by simp [kx], rfl, by decide⟩)
  have q3 : Puts 3 [kx, ky] (⟨#[122]⟩ : ByteArray) 2 true [kx, ky, kz] := Or.inr (Or.inr ⟨rfl, rfl, by simp [kx, ky], rfl, by decide⟩)
  have c1 : Cuts [kx, ky, kz] 4 false [kx, ky, kz] := Or.inl ⟨rfl, rfl, Or.inr (by decide)⟩
  have c2 : Cuts [kx, ky, kz] (-1) false [kx, ky, kz] := Or.inl ⟨rfl, rfl, Or.inl (by decide)⟩
  have c3 : Cuts [kx, ky, kz] 1 true [kx] := Or.inr ⟨rfl, 1, rfl, by decide, rfl⟩
  have l1 : Looks [kx] (⟨#[121]⟩ : ByteArray) 0 false := Or.inr ⟨rfl, rfl, by simp [kx]⟩
  have q4 : Puts 3 [kx] (⟨#[122]⟩ : ByteArray) 1 true [kx, kz] := Or.inr (Or.inr ⟨rfl, rfl, by simp [kx], rfl, by decide⟩)
  have P1 := Lib.hid p1; have P2 := Lib.hid p2; have P3 := Lib.hid p3; have Q1 := Lib.hid q1; have Q2 := Lib.hid q2; have Q3 := Lib.hid q3; have Q4 := Lib.hid q4
  have C1 := Lib.hid c1; have C2 := Lib.hid c2; have C3 := Lib.hid c3; have L1 := Lib.hid l1
  have O1 := Lib.hid o12; have O2 := Lib.hid o21
  clear p1 p2 p3 q1 q2 q3 q4 c1 c2 c3 l1 o12 o21
  go_enter Try.func3, Try.ntmps3
  (go_wp2_with fail; go_fit (awake_any W); rintro e w1 ⟨rfl, hb⟩)
  have HB1 := Lib.hid hb; clear hb
  (go_wp2_with fail; go_fit (two_new HB1.out); rintro e w2 ⟨bt, rfl, F, h1, h2, h3⟩)
  have HP2 := Lib.hid h1; have HF2 := Lib.hid h2; have HB2 := Lib.hid h3; clear h1 h2 h3
  (go_wp2_with fail; go_fit (new_in HB2.out 3 3 (by decide) F HP2.out.lt); rintro e w3 ⟨bu, rfl, h3, ha3⟩)
  have HT3 : Hid (Two W w3 (.pointer (some ⟨bt, 0, none⟩)) (.pointer (some ⟨bu, 0, none⟩)) 1 [] 3 []) := Lib.hid ⟨F, HP2.out.keep ha3.2, HF2.out, h3⟩
  clear h3 ha3
  (go_wp2_with fail; go_fit (two_put HT3.out ⟨1, 2⟩ O1.out P1.out); rintro e w4 ⟨rfl, h4⟩)
  have HT4 := Lib.hid h4; clear h4
  (go_wp2_with fail; go_fit (two_put HT4.out ⟨2, 1⟩ O2.out P2.out); rintro e w5 ⟨rfl, h5⟩)
  have HT5 := Lib.hid h5; clear h5
  (go_wp2_with fail; go_fit (two_put HT5.out ⟨1, 2⟩ O1.out P3.out); rintro e w6 ⟨rfl, h6⟩)
  have HT6 : Hid (TabIn W w6 (.pointer (some ⟨bu, 0, none⟩)) 3 [] []) := Lib.hid (by obtain ⟨F', _, _, h⟩ := h6; exact h.less [] (by simp))
  clear h6
  (go_wp2_with fail; go_fit (put_in HT6.out ⟨#[120]⟩ (by decide) Q1.out); rintro e w7 ⟨rfl, h7, _⟩)
  have HT7 := Lib.hid h7; clear h7
  (go_wp2_with fail; go_fit (put_in HT7.out ⟨#[121]⟩ (by decide) Q2.out); rintro e w8 ⟨rfl, h8, _⟩)
  have HT8 := Lib.hid h8; clear h8
  (go_wp2_with fail; go_fit (put_in HT8.out ⟨#[122]⟩ (by decide) Q3.out); rintro e w9 ⟨rfl, h9, _⟩)
  have HT9 := Lib.hid h9; clear h9
  (go_wp2_with fail; go_fit (cut_in' HT9.out 4 C1.out); rintro e w10 ⟨rfl, h10, _⟩)
  have HT10 := Lib.hid h10; clear h10
  (go_wp2_with fail; go_fit (cut_in' HT10.out (-1) C2.out); rintro e w11 ⟨rfl, h11, _⟩)
  have HT11 := Lib.hid h11; clear h11
  (go_wp2_with fail; go_fit (cut_in' HT11.out 1 C3.out); rintro e w12 ⟨rfl, h12, _⟩)
  have HT12 := Lib.hid h12; clear h12
  (go_wp2_with fail; go_fit (find_in HT12.out ⟨#[121]⟩ (by decide) L1.out); rintro e w13 ⟨rfl, h13, _⟩)
  have HT13 := Lib.hid h13; clear h13
  (go_wp2_with fail; go_fit (put_in HT13.out ⟨#[122]⟩ (by decide) Q4.out); rintro e w14 ⟨rfl, h14, _⟩)
  have HT14 := Lib.hid h14; clear h14
  (go_wp2_with fail; go_fit (at_hit HT14.out 1 kz rfl); rintro e w' ⟨rfl, rfl⟩)
  (go_wp2_with fail; go_fit (at_miss HT14.out 2 (Or.inr (by decide))); rintro e w' ⟨rfl, rfl⟩)
  (go_wp2_with fail; go_fit (at_miss HT14.out (-1) (Or.inl (by decide))); rintro e w' ⟨rfl, rfl⟩)
  (go_wp2_with fail; go_fit (all_in HT14.out); rintro e w15 ⟨rfl, h15, _, hall⟩)
  have a0 := hall 0 kx rfl
  have a1 := hall 1 kz rfl
  have HT15 := Lib.hid h15
  clear h15 hall
  unfold kx at a0
  unfold kz at a1
  simp only [kx, kz, List.length_cons, List.length_nil]
  go_wp2
  go_ret
  exact ⟨rfl, HT15.out.below⟩
namespace tableKnown
open Go.ChangeShapes Go.WideShapes Go.ChangeAt Go.RowKit
theorem own : ownKnob Try.prog.godebug = none := by kernel_rfl
theorem laidOut : laidOutB Try.prog = true := by kernel_rfl
set_option linter.unusedVariables false
set_option maxRecDepth 100000 in
theorem lifted (os : Os) (started : os.Started) (H : Type) (enc : TypeId × Value → H) :
    ReturnsInHanded {} Try.checked os 3 .any (Rows.tableKnownSpec.pre6 enc Try.prog Try.f3 Rows.tableKnownRow.domain false) (Rows.tableKnownSpec.post enc Try.prog Try.f3 false true false false) := by
  refine returnsInHanded_of_change_sized (C := Try.checked) own started (by kernel_rfl) Try.func3
    (ChangeSpec.witness6 (enc := enc) (C := Try.checked) false ⟨#[], #[], []⟩ 8 (by kernel_rfl) (by kernel_rfl) (by kernel_rfl) (by kernel_rfl)) ?_
  intro W base args ds gs before hval0 hW hcnd hsz0 _
  have hval : ∀ (j : Nat) t v, Try.f3.params[j]? = some t → args[j]? = some v → Value.okWide Try.prog W .any base t v := hval0
  have hW' := hW
  obtain ⟨p, q, hA0, hV, rfl, hfz, hnd⟩ := hW
  have hA : DataW.TrodAll enc Try.prog W 0 (fun _ => true) true Try.f3.params.toList args.toList ds p := hA0
  have hsz : (DataW.weightsEach Try.prog (Try.f3.params.toList ++ []) (ds ++ gs)).all (· ≤ reachBytes) = true := hsz0
  rw [Try.params3] at hA hval hsz
  obtain ⟨rfl, rfl, rfl⟩ := trodAll_none hA
  obtain ⟨rfl, rfl⟩ := trodVars_none hV
  clear hA0 hval0 hsz0


  refine (tknown_any W ).mono fun e W' ⟨he, bel⟩ => ?_
  subst he
  exact ⟨_, rfl, _, _, _, [], _, [], hW', trodAll_mk1 (shut_bool Try.underlying4 _), rfl, rfl, bel.frame _, fun h => by cases h⟩
theorem proved : Rows.TableKnownSaid :=
  OpenClaim.holds_of_wide 3 Try.f3 rfl rfl rfl rfl rfl rfl rfl ⟨rfl, rfl, rfl, rfl, rfl⟩ rfl rfl rfl rfl rfl (by kernel_rfl) Try.func3 (by kernel_rfl)
    (of_decide_eq_true (by kernel_rfl)) (by unfold Func.isWrapper; first | (rw [if_pos (by decide +kernel)]; kernel_rfl) | (rw [if_neg (by decide +kernel)]; exact ⟨rfl, rfl⟩))
    (fun os started H enc _ => lifted os started H enc)
#print axioms proved
end tableKnown

end Go.Proofs.Ytjpdigdocdppbaa
