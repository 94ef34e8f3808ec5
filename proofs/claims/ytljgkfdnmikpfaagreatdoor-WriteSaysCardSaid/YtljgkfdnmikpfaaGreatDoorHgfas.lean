import Derived.Test.YtljgkfdnmikpfaaGreatDoorHgfaq
import Derived.Test.YtljgkfdnmikpfaaGreatDoorHgfar
import Derived.Test.YtljgkfdnmikpfaaGreatDoorHgfah
import Derived.Test.YtljgkfdnmikpfaaGreatDoorHgfap
import Derived.Test.YtljgkfdnmikpfaaGreatDoorHgfaa
import Derived.Lib.ParseIntBTie
import Derived.Lib.ItoaMem
import Derived.Lib.ItoaLen
import Derived.Lib.Strings
import Derived.Test.YtljgkfdnmikpfaaGreatDoorHgfai
import Derived.Deep.RegionHeld3
set_option linter.unusedVariables false
set_option linter.unusedSimpArgs false
/- The document's own token (sizarref1.one): all ways. -/
namespace Go.Proofs.YtljgkfdnmikpfaaGreatDoor
open Go.RowKit
set_option linter.unusedVariables false
set_option maxRecDepth 100000

set_option maxHeartbeats 1000000 in
theorem rone_quote (s : ByteArray) (i : Nat) (w : World) (hi : i < s.size) (hs : s.size ≤ 140737488351232) (hc : s[i] = 39) :
    Calls Tryz.prog 114 #[.string s, .int .i64 i] w fun e w' => e = rquoV i (quoB ((bl s).drop (i + 1))) ∧ Below w.heap.size w w' := by
  have hc' : ∀ h, s[i]'h = 39 := fun _ => hc
  have A : ∀ w, Calls Tryz.prog 151 #[.int .u8 39] w fun e w' => e = .returned (.bool false) ∧ w = w' := fun w => rsmall_any 39 w
  have B : ∀ w, Calls Tryz.prog 152 #[.int .u8 39] w fun e w' => e = .returned (.bool false) ∧ w = w' := fun w => rgreat_any 39 w
  have G : ∀ w, Calls Tryz.prog 154 #[.int .u8 39] w fun e w' => e = .returned (.bool false) ∧ w = w' := fun w => rdigit_any 39 w
  have Q := fun w => rquo_any s i w hi hs
  obtain ⟨X, hX⟩ : ∃ X, rquoV i (quoB ((bl s).drop (i + 1))) = X := ⟨_, rfl⟩
  rw [hX] at Q ⊢
  have hx : ∃ k t n b e, X = roneV k t n b e := by
    rw [← hX]
    cases quoB ((bl s).drop (i + 1)) with
    | none => exact ⟨_, _, _, _, _, rfl⟩
    | some p =>
      by_cases h : p.1.length ≤ 64
      · exact ⟨_, _, _, _, _, rquoV_ok h⟩
      · exact ⟨_, _, _, _, _, rquoV_long h⟩
  obtain ⟨k, t, n, b, e, rfl⟩ := hx
  clear hX hc
  obtain ⟨w1, hw1, hb1, hz1, hx1⟩ := box_new w #[.int .i64 0, .string ⟨#[]⟩, .int .i64 0, .bool false, .int .i64 0] 138
  obtain ⟨r0, r1, r2, r3, r4, rf⟩ := hx1.five
  have HX1 := Lib.hid hx1
  have hz : w.heap.size < w1.heap.size := by omega
  go_enter Tryz.func114, Tryz.ntmps114
  go_wp2_with fail
  (try rw [hw1])
  clear hw1 hz1 hx1
  go_wp2_with (first | (go_at_call 151; go_fit (A _); rintro e w' ⟨rfl, rfl⟩) | (go_at_call 152; go_fit (B _); rintro e w' ⟨rfl, rfl⟩) | (go_at_call 154; go_fit (G _); rintro e w' ⟨rfl, rfl⟩) | (go_at_call 156; refine (Q _).mono ?_; rintro q w2 ⟨rfl, h2⟩; have hb2 := Lib.hid (Ext.trans' hb1 h2); obtain ⟨q0, q1, q2, q3, q4, qf⟩ := (Box.ext HX1.out h2).five; clear h2) | fail)
  refine bodyPost_ret (v := .tuple #[rtokV k t n, .int .i64 b, .int .i64 e]) (by rw [results_cell3 rfl]; go_simp; (try rfl)) rfl ?_
  refine And.intro rfl ?_
  repeat' (first | with_reducible exact hb2.out | with_reducible refine Below.setCell ?_ ?_ _ | exact Nat.le_refl _)
/-- What is answered for the token that stands at a place. -/
def onePost (i : Nat) (x : NextB) (e : Ending) : Prop := match x with
  | .skip _ => True
  | .tok t => e = roneV (t.kind : Int) ⟨t.text.toArray⟩ (t.n : Int) ((i + t.len : Nat) : Int) 0
  | .bad o => ∃ k t n b, e = roneV k t n b (if o then 3 else 2)
theorem take_ex (s : ByteArray) (i k : Nat) : s.extract i (i + k) = ⟨(((bl s).drop i).take k).toArray⟩ := (take_ext s i k).symm
theorem wrd (c : UInt8) : wordB c = (smallB c || greatB c || digitB c) := rfl
theorem sg_not : ∀ c, (!(smallB c) || !(greatB c)) = true := u8_all (g := fun _ => true) (by decide +kernel)
set_option maxHeartbeats 1000000 in
theorem rone_any (s : ByteArray) (i : Nat) (w : World) (hi : i < s.size) (hs : s.size ≤ 140737488351232) (hns : ∀ k, nextC s[i] ((bl s).drop (i + 1)) ≠ .skip k) :
    Calls Tryz.prog 114 #[.string s, .int .i64 i] w fun e w' => onePost i (nextC s[i] ((bl s).drop (i + 1))) e ∧ Below w.heap.size w w' := by
  have hd : (bl s).drop i = s[i] :: (bl s).drop (i + 1) := drop_at (l := bl s) hi
  have htk : ∀ p : UInt8 → Bool, p s[i] = true → twK p (bl s) i = (((bl s).drop (i + 1)).takeWhile p).length + 1 := fun p hp => tw_in (l := bl s) hi hp
  have hE : endK (bl s) i = (s[i] == 46 && endB ((bl s).drop (i + 1))) := endK_at (l := bl s) hi
  have hlen : (bl s).length = s.size := bl_len s
  unfold nextC at hns ⊢
  by_cases h1 : blankB s[i] = true
  · rw [if_pos h1] at hns; exact absurd rfl (hns 1)
  rw [if_neg h1]
  rw [if_neg h1] at hns
  by_cases h2 : (s[i] == 37) = true
  · rw [if_pos h2] at hns; exact absurd rfl (hns _)
  rw [if_neg h2]
  clear hns
  by_cases h3 : smallB s[i] = true
  · have hg : greatB s[i] = false := by have := sg_not s[i]; rw [h3] at this; simpa using this
    have ht := htk wordB (by rw [wrd, h3]; rfl)
    rw [if_pos h3, ← ht, ← hd]
    unfold nameB
    by_cases h64 : twK wordB (bl s) i ≤ 64
    · rw [if_pos (decide_eq_true h64)]
      refine (rone_small s i w hi hs h3 hg rfl (by omega)).mono ?_
      rintro e w' ⟨rfl, hb⟩
      refine ⟨?_, hb⟩
      show _ = roneV _ _ _ _ _
      rw [take_ex]
      rfl
    · rw [if_neg (by simpa using h64)]
      refine (rone_long s i w hi hs h3 hg rfl (by omega)).mono ?_
      rintro e w' ⟨rfl, hb⟩
      exact ⟨⟨_, _, _, _, rfl⟩, hb⟩
  have h3' : smallB s[i] = false := by simpa using h3
  rw [if_neg h3]
  by_cases h4 : greatB s[i] = true
  · have ht := htk wordB (by rw [wrd, h4]; simp)
    rw [if_pos h4, ← ht, ← hd]
    refine (rone_great s i w hi hs h3' h4 rfl).mono ?_
    rintro e w' ⟨rfl, hb⟩
    refine ⟨?_, hb⟩
    show _ = roneV _ _ _ _ _
    rw [take_ex]
    rfl
  have h4' : greatB s[i] = false := by simpa using h4
  rw [if_neg h4]
  by_cases h5 : digitB s[i] = true
  · have ht := htk digitB h5
    rw [if_pos h5, ← ht, ← hd]
    have hD := fun x e h => rone_digit s i w hi hs h3' h4' h5 rfl (x := x) (e := e) h
    have hnum : numR (bl (s.extract i (i + twK digitB (bl s) i))) = numR (((bl s).drop i).take (twK digitB (bl s) i)) := by rw [take_ex]
    rw [hnum] at hD
    unfold numR at hD
    by_cases hm : numB (((bl s).drop i).take (twK digitB (bl s) i)) ≤ 9223372036854775807
    · rw [if_pos (decide_eq_true hm)]
      rw [if_pos hm] at hD
      refine (hD _ _ rfl).mono ?_
      rintro e w' ⟨rfl, hb⟩
      exact ⟨rfl, hb⟩
    · rw [if_neg (by simpa using hm)]
      rw [if_neg hm] at hD
      refine (hD _ _ rfl).mono ?_
      rintro e w' ⟨rfl, hb⟩
      exact ⟨⟨_, _, _, _, rfl⟩, hb⟩
  have h5' : digitB s[i] = false := by simpa using h5
  rw [if_neg h5]
  by_cases h6 : (s[i] == 39) = true
  · rw [if_pos h6]
    refine (rone_quote s i w hi hs (eq_of_beq h6)).mono ?_
    rintro e w' ⟨rfl, hb⟩
    refine ⟨?_, hb⟩
    cases quoB ((bl s).drop (i + 1)) with
    | none => exact ⟨_, _, _, _, rfl⟩
    | some p =>
      simp only
      by_cases h : p.1.length ≤ 64
      · rw [if_pos (decide_eq_true h)]
        show rquoV i (some (p.1, p.2)) = roneV _ _ _ _ _
        rw [rquoV_ok h, show i + 1 + p.2 = i + (p.2 + 1) by omega]
        rfl
      · rw [if_neg (by simpa using h)]
        show ∃ k t n b, rquoV i (some (p.1, p.2)) = _
        rw [rquoV_long h]
        exact ⟨_, _, _, _, rfl⟩
  rw [if_neg h6]
  by_cases h7 : (s[i] == 46 && endB ((bl s).drop (i + 1))) = true
  · rw [if_pos h7]
    refine (rone_end s i w hi hs (eq_of_beq (Bool.and_eq_true _ _ ▸ h7).1) (by rw [hE]; exact h7)).mono ?_
    rintro e w' ⟨rfl, hb⟩
    exact ⟨rfl, hb⟩
  have h7' : endK (bl s) i = false := by rw [hE]; simpa using h7
  rw [if_neg h7]
  by_cases h8 : symB s[i] = true
  · have hr : restB s[i] = true := by have := sym_rest s[i]; rw [h8] at this; simpa using this
    rw [if_pos h8, ← hd]
    have hk : symRun ((bl s).drop i) = symK (bl s) i := rfl
    rw [hk]
    unfold nameB
    by_cases h64 : symK (bl s) i ≤ 64
    · rw [if_pos (decide_eq_true h64)]
      refine (rone_sym s i w hi hs hr h7' h8 rfl (by omega)).mono ?_
      rintro e w' ⟨rfl, hb⟩
      refine ⟨?_, hb⟩
      show _ = roneV _ _ _ _ _
      rw [take_ex]
      rfl
    · rw [if_neg (by simpa using h64)]
      refine (rone_symlong s i w hi hs hr h7' h8 rfl (by omega)).mono ?_
      rintro e w' ⟨rfl, hb⟩
      exact ⟨⟨_, _, _, _, rfl⟩, hb⟩
  have h8' : symB s[i] = false := by simpa using h8
  rw [if_neg h8]
  have fin1 : ∀ κ : Nat, ∀ {e : Ending}, e = roneV (κ : Int) (s.extract i (i + 1)) 0 ((i : Int) + 1) 0 → onePost i (tokB κ ((s[i] :: (bl s).drop (i + 1)).take 1) 0 1 (s[i] :: (bl s).drop (i + 1))) e := fun κ e he => by
    rw [he, take_ex, hd]
    rfl
  by_cases h9 : (s[i] == 59 || s[i] == 33) = true
  · rw [if_pos h9]
    unfold nameB
    rw [if_pos (by decide)]
    rcases (Bool.or_eq_true _ _ ▸ h9) with h | h
    · refine (rone_59 s i w hi hs (eq_of_beq h)).mono ?_
      rintro e w' ⟨he, hb⟩
      exact ⟨fin1 1 he, hb⟩
    · refine (rone_33 s i w hi hs (eq_of_beq h)).mono ?_
      rintro e w' ⟨he, hb⟩
      exact ⟨fin1 1 he, hb⟩
  rw [if_neg h9]
  have hhead : ((bl s).drop (i + 1)).head? = (bl s)[i + 1]? := List.head?_drop
  have fin2 : ∀ {e : Ending}, e = roneV 1 (s.extract i (i + 2)) 0 ((i : Int) + 2) 0 → onePost i (tokB 1 ((s[i] :: (bl s).drop (i + 1)).take 2) 0 2 (s[i] :: (bl s).drop (i + 1))) e := fun he => by
    rw [he, take_ex, hd]
    rfl
  by_cases h10 : ((s[i] == 91 && ((bl s).drop (i + 1)).head? == some 93) || (s[i] == 123 && ((bl s).drop (i + 1)).head? == some 125)) = true
  · rw [if_pos h10]
    unfold nameB
    rw [if_pos (by decide)]
    rw [hhead] at h10
    rcases (Bool.or_eq_true _ _ ▸ h10) with h | h
    · have h' := (Bool.and_eq_true _ _ ▸ h : _ ∧ _)
      obtain ⟨q1, q2⟩ := List.getElem?_eq_some_iff.1 (eq_of_beq h'.2)
      refine (rone_91_pair s i w hi hs (eq_of_beq h'.1) q1 q2).mono ?_
      rintro e w' ⟨he, hb⟩
      exact ⟨fin2 he, hb⟩
    · have h' := (Bool.and_eq_true _ _ ▸ h : _ ∧ _)
      obtain ⟨q1, q2⟩ := List.getElem?_eq_some_iff.1 (eq_of_beq h'.2)
      refine (rone_123_pair s i w hi hs (eq_of_beq h'.1) q1 q2).mono ?_
      rintro e w' ⟨he, hb⟩
      exact ⟨fin2 he, hb⟩
  rw [if_neg h10]
  have mk1 : ∀ {e : Ending}, e = roneV 5 (s.extract i (i + 1)) 0 ((i : Int) + 1) 0 → onePost i (tokB 5 [s[i]] 0 1 (s[i] :: (bl s).drop (i + 1))) e := fun he => fin1 5 he
  by_cases h11 : [40, 41, 91, 93, 123, 125, 44, 124].contains s[i] = true
  · rw [if_pos h11]
    have hm := List.contains_iff_mem.1 h11
    have two : ∀ n : UInt8, (∀ h2 : s.size ≤ i + 1, Calls Tryz.prog 114 #[.string s, .int .i64 i] w fun e w' => e = roneV 5 (s.extract i (i + 1)) 0 (i + 1) 0 ∧ Below w.heap.size w w') →
        (∀ (h2 : i + 1 < s.size) (hd : (((s[i + 1]).toNat : Int) == (n.toNat : Int)) = false), Calls Tryz.prog 114 #[.string s, .int .i64 i] w fun e w' => e = roneV 5 (s.extract i (i + 1)) 0 (i + 1) 0 ∧ Below w.heap.size w w') →
        ¬ (bl s)[i + 1]? = some n → Calls Tryz.prog 114 #[.string s, .int .i64 i] w fun e w' => e = roneV 5 (s.extract i (i + 1)) 0 (i + 1) 0 ∧ Below w.heap.size w w' := fun n ha hb hx => by
      by_cases h2 : i + 1 < s.size
      · refine hb h2 (beq_false_of_ne fun e => hx ?_)
        rw [List.getElem?_eq_getElem (l := bl s) h2]
        exact congrArg some (i64_u8 e)
      · exact ha (by omega)
    have all : Calls Tryz.prog 114 #[.string s, .int .i64 i] w fun e w' => e = roneV 5 (s.extract i (i + 1)) 0 (i + 1) 0 ∧ Below w.heap.size w w' := by
      simp only [List.mem_cons, List.not_mem_nil, or_false] at hm
      rcases hm with h | h | h | h | h | h | h | h
      · exact rone_40 s i w hi hs h
      · exact rone_41 s i w hi hs h
      · refine two 93 (fun h2 => rone_91_last s i w hi hs h h2) (fun h2 h3 => rone_91_next s i w hi hs h h2 h3) fun e => h10 ?_
        rw [hhead, e, h]; rfl
      · exact rone_93 s i w hi hs h
      · refine two 125 (fun h2 => rone_123_last s i w hi hs h h2) (fun h2 h3 => rone_123_next s i w hi hs h h2 h3) fun e => h10 ?_
        rw [hhead, e, h]; rfl
      · exact rone_125 s i w hi hs h
      · exact rone_44 s i w hi hs h
      · exact rone_124 s i w hi hs h
    refine all.mono ?_
    rintro e w' ⟨he, hb⟩
    exact ⟨mk1 he, hb⟩
  rw [if_neg h11]
  have hr : restB s[i] = true := by
    unfold restB
    rw [h3', h4', h5']
    have a1 : ¬ s[i] = 39 := fun e => h6 (by rw [e]; rfl)
    have a2 : ¬ s[i] = 59 := fun e => h9 (by rw [e]; rfl)
    have a3 : ¬ s[i] = 33 := fun e => h9 (by rw [e]; rfl)
    have a4 : ¬ s[i] ∈ [40, 41, 91, 93, 123, 125, 44, 124] := fun e => h11 (List.contains_iff_mem.2 e)
    simp only [List.mem_cons, List.not_mem_nil, or_false, not_or] at a4
    simp [a1, a2, a3, a4]
  refine (rone_none s i w hi hs hr h7' h8').mono ?_
  rintro e w' ⟨rfl, hb⟩
  exact ⟨⟨_, _, _, _, rfl⟩, hb⟩
end Go.Proofs.YtljgkfdnmikpfaaGreatDoor
/- The document's own Cut (sizarref1): the tokens, as chapter 6 says. -/
namespace Go.Proofs.YtljgkfdnmikpfaaGreatDoor
open Go.RowKit
set_option linter.unusedVariables false
set_option maxRecDepth 100000

theorem open_tok {κ k : Nat} {text : List UInt8} {n : Nat} {s : List UInt8} {t : TokB} (h : tokB κ text n k s = .tok t) : t.opens = openB (s.drop t.len) := by
  unfold tokB at h; cases h; rfl
theorem open_name {k : Nat} {s : List UInt8} {t : TokB} (h : nameB k s = .tok t) : t.opens = openB (s.drop t.len) := by
  unfold nameB at h
  split at h
  · exact open_tok h
  · cases h
theorem next_open {c : UInt8} {r : List UInt8} {t : TokB} (h : nextC c r = .tok t) : t.opens = openB ((c :: r).drop t.len) := by
  unfold nextC at h
  by_cases h1 : blankB c = true
  · rw [if_pos h1] at h; cases h
  rw [if_neg h1] at h
  by_cases h2 : (c == 37) = true
  · rw [if_pos h2] at h; cases h
  rw [if_neg h2] at h
  by_cases h3 : smallB c = true
  · rw [if_pos h3] at h; exact open_name h
  rw [if_neg h3] at h
  by_cases h4 : greatB c = true
  · rw [if_pos h4] at h; exact open_tok h
  rw [if_neg h4] at h
  by_cases h5 : digitB c = true
  · rw [if_pos h5] at h
    split at h
    · exact open_tok h
    · cases h
  rw [if_neg h5] at h
  by_cases h6 : (c == 39) = true
  · rw [if_pos h6] at h
    cases hq : quoB r with
    | none => rw [hq] at h; cases h
    | some p =>
      rw [hq] at h
      simp only at h
      by_cases hp : p.1.length ≤ 64
      · rw [if_pos (decide_eq_true hp)] at h; exact open_tok h
      · rw [if_neg (by simpa using hp)] at h; cases h
  rw [if_neg h6] at h
  by_cases h7 : (c == 46 && endB r) = true
  · rw [if_pos h7] at h; exact open_tok h
  rw [if_neg h7] at h
  by_cases h8 : symB c = true
  · rw [if_pos h8] at h; exact open_name h
  rw [if_neg h8] at h
  by_cases h9 : (c == 59 || c == 33) = true
  · rw [if_pos h9] at h; exact open_name h
  rw [if_neg h9] at h
  by_cases h10 : ((c == 91 && r.head? == some 93) || (c == 123 && r.head? == some 125)) = true
  · rw [if_pos h10] at h; exact open_name h
  rw [if_neg h10] at h
  by_cases h11 : [40, 41, 91, 93, 123, 125, 44, 124].contains c = true
  · rw [if_pos h11] at h; exact open_tok h
  · rw [if_neg h11] at h; cases h
theorem skip_line {c : UInt8} {r : List UInt8} (hb : blankB c = false) (h : c = 37) : nextC c r = .skip ((r.takeWhile lineB).length + 1) := by
  unfold nextC
  rw [if_neg (by simp [hb]), if_pos (by rw [h]; rfl)]
  rfl
theorem skip_not {c : UInt8} {r : List UInt8} (hb : blankB c = false) (h : (c == 37) = false) : ∀ k, nextC c r ≠ .skip k := by
  rcases next_pos c r with ⟨j, hj, h3⟩ | ⟨u, h2, _⟩ | ⟨o, h2⟩
  · intro k hk
    have := passK_stop (l := c :: r) (k := 0) (by simp) hb h
    unfold passK at this
    rw [List.drop_zero, passF_skip hj h3] at this
    omega
  · intro k hk; rw [h2] at hk; cases hk
  · intro k hk; rw [h2] at hk; cases hk
def RowT1 (w : World) (base : Nat) (v : Value) (l : List (TokB × Nat)) : Prop := w.ownsRow base 138 5 v l.length (l.flatMap tCells)
def rcutPost (W : World) (s : ByteArray) (X : CutR) (e : Ending) (w' : World) : Prop :=
  (match X with
    | .ok l => ∃ (ao : Option Addr) (cv : Nat), e = .returned (.tuple #[.slice ao l.length cv, .int .i64 (s.size : Int), .int .i64 0]) ∧ RowT1 w' W.heap.size (.slice ao l.length cv) l
    | .bad p o => e = .returned (.tuple #[.slice none 0 0, .int .i64 (p : Int), .int .i64 (if o then 3 else 2)])) ∧ Below W.heap.size W w'
set_option maxHeartbeats 4000000 in
theorem rcut_any (s : ByteArray) (w : World) (hs : s.size ≤ 140737488351232) : Calls Tryz.prog 77 #[.string s] w (rcutPost w s (cutB (bl s))) := by
  obtain ⟨X, hX⟩ : ∃ X, cutB (bl s) = X := ⟨_, rfl⟩
  rw [hX]
  by_cases hbig : 4096 < s.size
  · have hx : X = .bad 4096 true := by rw [← hX]; unfold cutB; rw [if_pos (show 4096 < (bl s).length from hbig)]
    subst hx
    clear hX
    go_enter Tryz.func77, Tryz.ntmps77
    go_wp2
    go_ret3
    exact ⟨rfl, Below.refl _ _⟩
  have hx : cutF [] 0 (bl s) = X := by rw [← hX]; unfold cutB; rw [if_neg (show ¬ 4096 < (bl s).length from hbig)]
  clear hX
  have HX0 := Lib.hid hx
  clear hx
  obtain ⟨i0, hi0, hz0, hs0, hb0⟩ := info_parts infoTokR
  go_enter Tryz.func77, Tryz.ntmps77
  go_wp2_with fail
  go_loopw [5, 6] (fun o v wr => ∃ (k : Nat) (ao : Option Addr) (cv : Nat) (acc : List (TokB × Nat)), k ≤ s.size ∧ v = .int .i64 k ∧ o = .slice ao acc.length cv ∧ acc.length ≤ 1024 ∧ Hid (RowT1 wr w.heap.size o acc) ∧ Hid (Below w.heap.size w wr) ∧
      Hid (cutF acc k ((bl s).drop k) = X)) (fun _ v _ => s.size - (intOf v).toNat)
  case atStart => exact ⟨0, none, 0, [], Nat.zero_le _, rfl, rfl, by simp, Lib.hid (World.ownsRow_nil _ _ _ _), Lib.hid (Below.refl _ _), HX0⟩
  case round =>
    obtain ⟨k, ao, cv, acc, hk, rfl, rfl, hacc, HR, HB, HC⟩ := hrel
    by_cases hlt : k < s.size
    · have hd : (bl s).drop k = s[k] :: (bl s).drop (k + 1) := drop_at (l := bl s) hlt
      have hC := HC.out
      rw [hd] at hC
      obtain ⟨c, hc⟩ : ∃ c, s[k] = c := ⟨_, rfl⟩
      have hc' : ∀ h, s[k]'h = c := fun _ => hc
      have BL := fun w => rblank_any c w
      cases hbl : blankB c
      · rw [hbl] at BL
        cases h37 : (c == 37)
        · have hv : ((c.toNat : Int) == 37) = false := beq_false_of_ne fun e => by rw [show c = 37 from i64_u8 (by rw [e]; rfl)] at h37; exact absurd h37 (by decide)
          have hns := skip_not (r := (bl s).drop (k + 1)) hbl h37
          rw [← hc] at hns
          have T := rone_any s k wr hlt hs hns
          cases hn : nextC s[k] ((bl s).drop (k + 1)) with
          | skip j => exact absurd hn (hns j)
          | bad o =>
            rw [hn] at T
            rw [cutF_bad hn] at hC
            subst hC
            clear HC HX0 hd hn hns hbl h37 hc
            cases o
            · (go_wp2_with fail; go_fit (BL _); rintro e w' ⟨rfl, rfl⟩)
              (go_wp2_with fail; go_fit (T); rintro e w1 ⟨⟨κ, tt, n, b, rfl⟩, b1⟩)
              obtain ⟨w2, hw2, hb2, hz2, hx2⟩ := box_new w1 #[.int .i64 κ, .string tt, .int .i64 n, .bool false, .int .i64 0] 138
              have HB2 := Lib.hid (Ext.trans' HB.out (Ext.trans' b1 hb2))
              have HW2 := Lib.hid hw2
              clear b1 hb2 hz2 hx2 hw2
              go_upto_region 12 with fail
              rw [HW2.out]
              go_wp2
              go_ret3
              exact ⟨rfl, HB2.out⟩
            · (go_wp2_with fail; go_fit (BL _); rintro e w' ⟨rfl, rfl⟩)
              (go_wp2_with fail; go_fit (T); rintro e w1 ⟨⟨κ, tt, n, b, rfl⟩, b1⟩)
              obtain ⟨w2, hw2, hb2, hz2, hx2⟩ := box_new w1 #[.int .i64 κ, .string tt, .int .i64 n, .bool false, .int .i64 0] 138
              have HB2 := Lib.hid (Ext.trans' HB.out (Ext.trans' b1 hb2))
              have HW2 := Lib.hid hw2
              clear b1 hb2 hz2 hx2 hw2
              go_upto_region 12 with fail
              rw [HW2.out]
              go_wp2
              go_ret3
              exact ⟨rfl, HB2.out⟩
          | tok t =>
            have hnl := next_len s[k] ((bl s).drop (k + 1))
            rw [hn, List.length_drop, bl_len] at hnl
            have hnl' : t.len ≤ s.size - (k + 1) + 1 := hnl
            have hpos : 1 ≤ t.len := by
              rcases next_pos s[k] ((bl s).drop (k + 1)) with ⟨j, h, _⟩ | ⟨u, h, hu⟩ | ⟨o, h⟩
              · rw [hn] at h; cases h
              · rw [hn] at h; cases h; exact hu
              · rw [hn] at h; cases h
            rw [hn] at T
            replace T : Calls Tryz.prog 114 #[.string s, .int .i64 k] wr fun e w' => e = roneV (t.kind : Int) ⟨t.text.toArray⟩ (t.n : Int) ((k + t.len : Nat) : Int) 0 ∧ Below wr.heap.size wr w' := T
            by_cases hf : acc.length = 1024
            · rw [cutF_full hn hf] at hC
              subst hC
              clear HC HX0 hd hn hns hbl h37 hc hnl hnl' hpos
              (go_wp2_with fail; go_fit (BL _); rintro e w' ⟨rfl, rfl⟩)
              (go_wp2_with fail; go_fit (T); rintro e w1 ⟨rfl, b1⟩)
              obtain ⟨w2, hw2, hb2, hz2, hx2⟩ := box_new w1 #[.int .i64 (t.kind : Int), .string ⟨t.text.toArray⟩, .int .i64 (t.n : Int), .bool false, .int .i64 0] 138
              have HB2 := Lib.hid (Ext.trans' HB.out (Ext.trans' b1 hb2))
              have HW2 := Lib.hid hw2
              clear b1 hb2 hz2 hx2 hw2
              go_upto_region 12 with fail
              rw [HW2.out]
              go_wp2
              go_ret3
              exact ⟨rfl, HB2.out⟩
            · have hop := next_open hn
              rw [← hd, List.drop_drop] at hop
              rw [cutF_tok hn hpos hf, ← hd, List.drop_drop] at hC
              have hkl : k + t.len ≤ s.size := by omega
              have hoa := open_at s (k + t.len) hkl
              rw [← hop] at hoa
              generalize hbk : k + t.len = b at T hC hoa hkl
              have hkb : k < b := by omega
              have HC2 := Lib.hid hC
              obtain ⟨κ, tt, n, ln, o⟩ := t
              replace hoa : OpenAt s b o := hoa
              have HOA := Lib.hid hoa
              have hac : acc.length < 1024 := by omega
              clear hC HC HX0 hd hn hns hbl h37 hc hnl hnl' hpos hop hf hbk hoa hacc
              (go_wp2_with fail; go_fit (BL _); rintro e w' ⟨rfl, rfl⟩)
              (go_wp2_with fail; go_fit (T); rintro e w1 ⟨rfl, b1⟩)
              have HR1 := Lib.hid (row_ext HR.out b1)
              have HB1 := Lib.hid (Ext.trans' HB.out b1)
              have hsz1 : w.heap.size ≤ w1.heap.size := HB1.out.size
              obtain ⟨w2, hw2, hb2, hz2, hx2⟩ := box_new w1 #[.int .i64 (κ : Int), .string ⟨tt.toArray⟩, .int .i64 (n : Int), .bool false, .int .i64 0] 138
              have HW2 := Lib.hid hw2
              have hl2 : w1.heap.size < w2.heap.size := by omega
              have HX2 := Lib.hid hx2
              obtain ⟨r0, r1, r2, r3, r4, rf⟩ := hx2.five
              have HB2 := Lib.hid hb2
              clear b1 HR HB hw2 hx2 hb2
              go_upto_region 14 with fail
              rw [HW2.out]
              rcases HOA.out with ⟨hbe, rfl⟩ | ⟨hlt2, ho⟩
              · have hbe' : s.size ≤ b := by omega
                clear hbe
                go_upto_region 18 with fail
                have hb3 : Below w1.heap.size w1 ((w2.setCell ⟨w1.heap.size, 4, none⟩ (.int .i64 k)).setCell ⟨w1.heap.size, 3, none⟩ (.bool false)) := (HB2.out.setCell (p := ⟨w1.heap.size, 4, none⟩) (Nat.le_refl _) _).setCell (p := ⟨w1.heap.size, 3, none⟩) (Nat.le_refl _) _
                have hx3 : Box ((w2.setCell ⟨w1.heap.size, 4, none⟩ (.int .i64 k)).setCell ⟨w1.heap.size, 3, none⟩ (.bool false)) w1.heap.size [.int .i64 (κ : Int), .string ⟨tt.toArray⟩, .int .i64 (n : Int), .bool false, .int .i64 k] := (HX2.out.set (k := 4) (by show 4 < 5; omega)).set (k := 3) (by show 3 < 5; omega)
                generalize (w2.setCell ⟨w1.heap.size, 4, none⟩ (.int .i64 k)).setCell ⟨w1.heap.size, 3, none⟩ (.bool false) = w3 at hb3 hx3 ⊢
                have hz3 := hx3.lt
                clear r0 r1 r2 r3 r4 rf
                obtain ⟨r0, r1, r2, r3, r4, rf⟩ := hx3.five
                have HR3 := Lib.hid (row_ext HR1.out hb3)
                have HB3 := Lib.hid (Ext.trans' HB1.out hb3)
                clear hx3 hb3
                go_wp2_with (at_builtin; refine wpList_append_k rfl _ _ 130 rfl w.heap.size 138 i0 (.agg #[.int .i64 0, .string ⟨#[]⟩, .int .i64 0, .bool false, .int .i64 0]) 5 48 Tryz.underlying130 hi0 hz0 hs0 (by decide) hb0 rfl (.slice ao acc.length cv) acc.length (acc.flatMap tCells) rfl (HR3.out.alloc _) (some ⟨w3.heap.size, 0, none⟩) 1 1 (tCells (⟨κ, tt, n, ln, false⟩, k)) rfl rfl (Or.inr ⟨_, rfl, fun j u hu => cell_new w3 (tCells (⟨κ, tt, n, ln, false⟩, k)).toArray _ j u hu⟩) (fun u hu => tCells_one [(⟨κ, tt, n, ln, false⟩, k)] u (by simpa using hu)) (by unfold maxLen; omega) (by omega) (by first | omega | (simp; omega)) (acc.length + 1) ((acc ++ [((⟨κ, tt, n, ln, false⟩, k) : TokB × Nat)] : List (TokB × Nat)).flatMap tCells) rfl (by rw [List.flatMap_append]; rfl) ?_; intro a7 c7 w7 hown7 hgrow7 hat7)
                go_roundw
                case rel =>
                  refine ⟨b, a7, c7, acc ++ [(⟨κ, tt, n, ln, false⟩, k)], hkl, rfl, by rw [List.length_append]; rfl, by rw [List.length_append, List.length_singleton]; omega, Lib.hid ?_, Lib.hid ?_, HC2⟩
                  · unfold RowT1
                    rw [List.length_append]
                    exact hown7
                  · exact (Ext.trans' HB3.out (bel1' w3 _)).grown hgrow7 (by simp; omega) (fun q hq => (HR3.out.lt q hq).1)
                case measure => simp [intOf]; omega
              · cases o
                · have hlt3 := Lib.hid hlt2
                  go_upto_region 18 with fail
                  have hb3 : Below w1.heap.size w1 ((w2.setCell ⟨w1.heap.size, 4, none⟩ (.int .i64 k)).setCell ⟨w1.heap.size, 3, none⟩ (.bool false)) := (HB2.out.setCell (p := ⟨w1.heap.size, 4, none⟩) (Nat.le_refl _) _).setCell (p := ⟨w1.heap.size, 3, none⟩) (Nat.le_refl _) _
                  have hx3 : Box ((w2.setCell ⟨w1.heap.size, 4, none⟩ (.int .i64 k)).setCell ⟨w1.heap.size, 3, none⟩ (.bool false)) w1.heap.size [.int .i64 (κ : Int), .string ⟨tt.toArray⟩, .int .i64 (n : Int), .bool false, .int .i64 k] := (HX2.out.set (k := 4) (by show 4 < 5; omega)).set (k := 3) (by show 3 < 5; omega)
                  generalize (w2.setCell ⟨w1.heap.size, 4, none⟩ (.int .i64 k)).setCell ⟨w1.heap.size, 3, none⟩ (.bool false) = w3 at hb3 hx3 ⊢
                  have hz3 := hx3.lt
                  clear r0 r1 r2 r3 r4 rf
                  obtain ⟨r0, r1, r2, r3, r4, rf⟩ := hx3.five
                  have HR3 := Lib.hid (row_ext HR1.out hb3)
                  have HB3 := Lib.hid (Ext.trans' HB1.out hb3)
                  clear hx3 hb3
                  go_wp2_with (at_builtin; refine wpList_append_k rfl _ _ 130 rfl w.heap.size 138 i0 (.agg #[.int .i64 0, .string ⟨#[]⟩, .int .i64 0, .bool false, .int .i64 0]) 5 48 Tryz.underlying130 hi0 hz0 hs0 (by decide) hb0 rfl (.slice ao acc.length cv) acc.length (acc.flatMap tCells) rfl (HR3.out.alloc _) (some ⟨w3.heap.size, 0, none⟩) 1 1 (tCells (⟨κ, tt, n, ln, false⟩, k)) rfl rfl (Or.inr ⟨_, rfl, fun j u hu => cell_new w3 (tCells (⟨κ, tt, n, ln, false⟩, k)).toArray _ j u hu⟩) (fun u hu => tCells_one [(⟨κ, tt, n, ln, false⟩, k)] u (by simpa using hu)) (by unfold maxLen; omega) (by omega) (by first | omega | (simp; omega)) (acc.length + 1) ((acc ++ [((⟨κ, tt, n, ln, false⟩, k) : TokB × Nat)] : List (TokB × Nat)).flatMap tCells) rfl (by rw [List.flatMap_append]; rfl) ?_; intro a7 c7 w7 hown7 hgrow7 hat7)
                  go_roundw
                  case rel =>
                    refine ⟨b, a7, c7, acc ++ [(⟨κ, tt, n, ln, false⟩, k)], hkl, rfl, by rw [List.length_append]; rfl, by rw [List.length_append, List.length_singleton]; omega, Lib.hid ?_, Lib.hid ?_, HC2⟩
                    · unfold RowT1
                      rw [List.length_append]
                      exact hown7
                    · exact (Ext.trans' HB3.out (bel1' w3 _)).grown hgrow7 (by simp; omega) (fun q hq => (HR3.out.lt q hq).1)
                  case measure => simp [intOf]; omega
                · have ho' := eq_of_beq ho
                  clear ho
                  go_upto_region 18 with fail
                  have hb3 : Below w1.heap.size w1 ((w2.setCell ⟨w1.heap.size, 4, none⟩ (.int .i64 k)).setCell ⟨w1.heap.size, 3, none⟩ (.bool true)) := (HB2.out.setCell (p := ⟨w1.heap.size, 4, none⟩) (Nat.le_refl _) _).setCell (p := ⟨w1.heap.size, 3, none⟩) (Nat.le_refl _) _
                  have hx3 : Box ((w2.setCell ⟨w1.heap.size, 4, none⟩ (.int .i64 k)).setCell ⟨w1.heap.size, 3, none⟩ (.bool true)) w1.heap.size [.int .i64 (κ : Int), .string ⟨tt.toArray⟩, .int .i64 (n : Int), .bool true, .int .i64 k] := (HX2.out.set (k := 4) (by show 4 < 5; omega)).set (k := 3) (by show 3 < 5; omega)
                  generalize (w2.setCell ⟨w1.heap.size, 4, none⟩ (.int .i64 k)).setCell ⟨w1.heap.size, 3, none⟩ (.bool true) = w3 at hb3 hx3 ⊢
                  have hz3 := hx3.lt
                  clear r0 r1 r2 r3 r4 rf
                  obtain ⟨r0, r1, r2, r3, r4, rf⟩ := hx3.five
                  have HR3 := Lib.hid (row_ext HR1.out hb3)
                  have HB3 := Lib.hid (Ext.trans' HB1.out hb3)
                  clear hx3 hb3
                  go_wp2_with (at_builtin; refine wpList_append_k rfl _ _ 130 rfl w.heap.size 138 i0 (.agg #[.int .i64 0, .string ⟨#[]⟩, .int .i64 0, .bool false, .int .i64 0]) 5 48 Tryz.underlying130 hi0 hz0 hs0 (by decide) hb0 rfl (.slice ao acc.length cv) acc.length (acc.flatMap tCells) rfl (HR3.out.alloc _) (some ⟨w3.heap.size, 0, none⟩) 1 1 (tCells (⟨κ, tt, n, ln, true⟩, k)) rfl rfl (Or.inr ⟨_, rfl, fun j u hu => cell_new w3 (tCells (⟨κ, tt, n, ln, true⟩, k)).toArray _ j u hu⟩) (fun u hu => tCells_one [(⟨κ, tt, n, ln, true⟩, k)] u (by simpa using hu)) (by unfold maxLen; omega) (by omega) (by first | omega | (simp; omega)) (acc.length + 1) ((acc ++ [((⟨κ, tt, n, ln, true⟩, k) : TokB × Nat)] : List (TokB × Nat)).flatMap tCells) rfl (by rw [List.flatMap_append]; rfl) ?_; intro a7 c7 w7 hown7 hgrow7 hat7)
                  go_roundw
                  case rel =>
                    refine ⟨b, a7, c7, acc ++ [(⟨κ, tt, n, ln, true⟩, k)], hkl, rfl, by rw [List.length_append]; rfl, by rw [List.length_append, List.length_singleton]; omega, Lib.hid ?_, Lib.hid ?_, HC2⟩
                    · unfold RowT1
                      rw [List.length_append]
                      exact hown7
                    · exact (Ext.trans' HB3.out (bel1' w3 _)).grown hgrow7 (by simp; omega) (fun q hq => (HR3.out.lt q hq).1)
                  case measure => simp [intOf]; omega
        · obtain rfl : c = 37 := eq_of_beq h37
          have hline := skip_line (r := (bl s).drop (k + 1)) hbl rfl
          obtain ⟨T, hT⟩ : ∃ T, k + twK lineB (bl s) k = T := ⟨_, rfl⟩
          have htw := tw_in (l := bl s) (p := lineB) (k := k) hlt (by show lineB s[k] = true; rw [hc]; rfl)
          have hle := tw_max lineB (bl s) k hk
          rw [cutF_skip (k := twK lineB (bl s) k) (by rw [hc, hline, htw]; rfl) (by omega), ← hd, List.drop_drop, hT] at hC
          have HC2 := Lib.hid hC
          have hTs : T ≤ s.size := by rw [← hT]; exact hle
          have hkT : k < T := by omega
          have HT := Lib.hid hT
          clear hC HC HX0 hd hline htw hle hbl h37 hT
          (go_wp2_with fail; go_fit (BL _); rintro e w' ⟨rfl, rfl⟩)
          go_wp2_with fail
          go_loop [6] (fun v => ∃ j : Nat, j ≤ s.size ∧ v = .int .i64 j ∧ Hid (j + twK lineB (bl s) j = T)) (fun v => s.size - (intOf v).toNat)
          case atStart => exact ⟨k, hk, rfl, HT⟩
          case round =>
            obtain ⟨j, hj, rfl, HJ⟩ := hrel
            by_cases hjl : j < s.size
            · have hln := (line_eq s[j]).symm
              cases hp : lineB s[j]
              · rw [hp] at hln
                have hjT := HJ.out
                rw [tw_out (l := bl s) (p := lineB) (k := j) hjl hp] at hjT
                obtain rfl : j = T := by omega
                clear hp HJ HT hjT
                go_wp2
                go_roundw
                case rel => exact ⟨j, ao, cv, acc, hj, rfl, rfl, hacc, HR, HB, HC2⟩
                case measure => simp [intOf]; omega
              · rw [hp] at hln
                have he := tw_in (l := bl s) (p := lineB) (k := j) hjl hp
                have HE := Lib.hid he
                clear hp he
                go_wp2
                go_round
                case rel => exact ⟨j + 1, by omega, by go_num, Lib.hid (by have := HJ.out; rw [HE.out] at this; omega)⟩
                case measure => simp [intOf]; omega
            · have hjT := HJ.out
              rw [tw_end (l := bl s) (p := lineB) (k := j) (show s.size ≤ j by omega)] at hjT
              obtain rfl : j = T := by omega
              clear HJ HT hjT
              go_wp2
              go_roundw
              case rel => exact ⟨j, ao, cv, acc, hj, rfl, rfl, hacc, HR, HB, HC2⟩
              case measure => simp [intOf]; omega
      · rw [hbl] at BL
        rw [cutF_skip (k := 1) (by rw [hc]; unfold nextC; rw [if_pos hbl]) (Nat.le_refl _), ← hd, List.drop_drop] at hC
        have HC2 := Lib.hid hC
        clear hC HC HX0 hd hbl
        (go_wp2_with fail; go_fit (BL _); rintro e w' ⟨rfl, rfl⟩)
        go_wp2
        go_roundw
        case rel => exact ⟨k + 1, ao, cv, acc, by omega, by go_num, rfl, hacc, HR, HB, HC2⟩
        case measure => simp [intOf]; omega
    · have hkk : k = s.size := by omega
      have hC := HC.out
      rw [List.drop_eq_nil_of_le (by rw [bl_len]; omega), cutF_nil] at hC
      subst hC
      clear HC HX0
      go_wp2
      go_ret3
      exact ⟨⟨_, _, rfl, HR.out⟩, HB.out⟩
end Go.Proofs.YtljgkfdnmikpfaaGreatDoor
/- The document's own Plain and Quote (sizarref1), at every name. -/
namespace Go.Proofs.YtljgkfdnmikpfaaGreatDoor
open Go.RowKit
set_option linter.unusedVariables false
set_option maxRecDepth 100000

theorem rcut_ok {s : ByteArray} {l : List (TokB × Nat)} {w : World} (hs : s.size ≤ 140737488351232) (h : cutB (bl s) = .ok l) :
    Calls Tryz.prog 77 #[.string s] w fun e w' => ∃ (ao : Option Addr) (cv : Nat), e = .returned (.tuple #[.slice ao l.length cv, .int .i64 (s.size : Int), .int .i64 0]) ∧ Toks w' (.slice ao l.length cv) l ∧ Below w.heap.size w w' := by
  have := rcut_any s w hs
  rw [h] at this
  refine this.mono ?_
  rintro e w' ⟨⟨ao, cv, rfl, hr⟩, hb⟩
  exact ⟨ao, cv, rfl, Elems.owned tCells_len hr, hb⟩
theorem rcut_bad {s : ByteArray} {p : Nat} {o : Bool} {w : World} (hs : s.size ≤ 140737488351232) (h : cutB (bl s) = .bad p o) :
    Calls Tryz.prog 77 #[.string s] w fun e w' => e = .returned (.tuple #[.slice none 0 0, .int .i64 (p : Int), .int .i64 (if o then 3 else 2)]) ∧ Below w.heap.size w w' := by
  have := rcut_any s w hs
  rw [h] at this
  exact this
set_option maxHeartbeats 1600000 in
theorem rplain_any (s : ByteArray) (w : World) (hs : s.size ≤ 140737488351232) : Calls Tryz.prog 141 #[.string s] w fun e w' => e = .returned (.bool (plainB (bl s))) ∧ Below w.heap.size w w' := by
  have no : ∀ X, cutB (bl s) = X → (∀ t p, X = .ok [(t, p)] → ¬ (t.kind = 1 ∧ t.text = bl s)) → plainB (bl s) = false := fun X hX h => by
    cases hp : plainB (bl s) with
    | false => rfl
    | true =>
      obtain ⟨t, h1, h2⟩ := plain_yes hp
      exact absurd h2 (h t 0 (hX.symm.trans h1))
  cases hX : cutB (bl s) with
  | bad p o =>
    rw [no _ hX (fun t p h => by cases h)]
    have C := fun w => @rcut_bad s p o w hs hX
    clear no hX
    cases o
    · go_enter Tryz.func141, Tryz.ntmps141
      (go_wp2_with fail; go_fit (C _); rintro e w1 ⟨rfl, b1⟩)
      go_wp2
      go_ret
      exact ⟨rfl, b1⟩
    · go_enter Tryz.func141, Tryz.ntmps141
      (go_wp2_with fail; go_fit (C _); rintro e w1 ⟨rfl, b1⟩)
      go_wp2
      go_ret
      exact ⟨rfl, b1⟩
  | ok l =>
    have C := fun w => @rcut_ok s l w hs hX
    by_cases h1 : l.length = 1
    · obtain ⟨⟨t, p⟩, rfl⟩ := List.length_eq_one_iff.1 h1
      have hno := no _ hX
      clear no
      have hyes := fun a b => plain_no hX (t := t) (p := p) a b
      clear hX h1
      have C' : ∀ w, Calls Tryz.prog 77 #[.string s] w fun e w' => ∃ (ao : Option Addr) (cv : Nat), e = .returned (.tuple #[.slice ao 1 cv, .int .i64 (s.size : Int), .int .i64 0]) ∧ Toks w' (.slice ao 1 cv) [(t, p)] ∧ Below w.heap.size w w' := C
      clear C
      by_cases hk : t.kind = 1
      · by_cases ht : t.text = bl s
        · rw [hyes hk ht]
          have HT := Lib.hid (show (t.text == s.toList) = true by rw [Lib.toList_data, ht]; exact beq_self_eq_true _)
          clear hno hyes ht
          go_enter Tryz.func141, Tryz.ntmps141
          (go_wp2_with fail; go_fit (C' _); rintro e w1 ⟨ao, cv, rfl, ht1, b1⟩)
          obtain ⟨b, off, rfl, hb, c0, c1, c2, c3, c4⟩ := ht1.cells (k := 0) (x := (t, p)) rfl
          simp only [Nat.zero_mul, Nat.add_zero] at c0 c1 c2 c3 c4
          simp only [hk] at c0
          go_wp2
          go_ret
          exact ⟨ret_bool HT.out, b1⟩
        · rw [hno (fun t' p' e h => by cases e; exact ht h.2)]
          have HT := Lib.hid (show (t.text == s.toList) = false by rw [Lib.toList_data]; exact beq_false_of_ne ht)
          clear hno hyes ht
          go_enter Tryz.func141, Tryz.ntmps141
          (go_wp2_with fail; go_fit (C' _); rintro e w1 ⟨ao, cv, rfl, ht1, b1⟩)
          obtain ⟨b, off, rfl, hb, c0, c1, c2, c3, c4⟩ := ht1.cells (k := 0) (x := (t, p)) rfl
          simp only [Nat.zero_mul, Nat.add_zero] at c0 c1 c2 c3 c4
          simp only [hk] at c0
          go_wp2
          go_ret
          exact ⟨ret_bool HT.out, b1⟩
      · rw [hno (fun t' p' e h => by cases e; exact hk h.1)]
        have hk' : ((t.kind : Int) == 1) = false := by
          apply beq_false_of_ne
          intro e
          exact hk (by omega)
        clear hno hyes hk
        obtain ⟨z, hz⟩ : ∃ z : Int, (t.kind : Int) = z := ⟨_, rfl⟩
        go_enter Tryz.func141, Tryz.ntmps141
        (go_wp2_with fail; go_fit (C' _); rintro e w1 ⟨ao, cv, rfl, ht1, b1⟩)
        obtain ⟨b, off, rfl, hb, c0, c1, c2, c3, c4⟩ := ht1.cells (k := 0) (x := (t, p)) rfl
        simp only [Nat.zero_mul, Nat.add_zero] at c0 c1 c2 c3 c4
        simp only [hz] at c0 hk'
        clear hz
        go_wp2
        go_ret
        exact ⟨rfl, b1⟩
    · rw [no _ hX (fun t p h => by cases h; simp at h1)]
      clear no hX
      have h1' : ((l.length : Int) == 1) = false := by
        apply beq_false_of_ne
        intro e
        exact h1 (by omega)
      generalize hn : l.length = n at C h1'
      clear hn h1
      go_enter Tryz.func141, Tryz.ntmps141
      (go_wp2_with fail; go_fit (C _); rintro e w1 ⟨ao, cv, rfl, ht1, b1⟩)
      go_wp2
      go_ret
      exact ⟨rfl, b1⟩
/-- What stands for a byte in quotes. -/
theorem esc_is : ∀ c, (if c == 10 then mayQ c && escQ c == [92, 110] else if c == 9 then mayQ c && escQ c == [92, 116] else if c == 92 || c == 39 then mayQ c && escQ c == [92, c] else if shownB c then mayQ c && escQ c == [c] else !mayQ c) = true := u8_all (g := fun _ => true) (by decide +kernel)
set_option maxHeartbeats 4000000 in
theorem rquote_any (s : ByteArray) (w : World) (hs : s.size ≤ 140737488351232) : Calls Tryz.prog 101 #[.string s] w fun e w' => e = .returned (.string ⟨(quoteB (bl s)).toArray⟩) ∧ Below w.heap.size w w' := by
  have P := fun w => rplain_any s w hs
  obtain ⟨Q, hQ0⟩ : ∃ Q, quoteB (bl s) = Q := ⟨_, rfl⟩
  cases hp : plainB (bl s)
  · rw [hp] at P
    by_cases hbig : 64 < s.size
    · rw [quote_long (show 64 < (bl s).length from hbig)]
      clear hp hQ0
      go_enter Tryz.func101, Tryz.ntmps101
      (go_wp2_with fail; go_fit (P _); rintro e w1 ⟨rfl, b1⟩)
      go_wp2
      go_ret
      exact ⟨rfl, b1⟩
    have hQ : quoteB (bl s) = if (bl s).all mayQ then 39 :: ((bl s).flatMap escQ ++ [39]) else [] := by
      unfold quoteB
      rw [if_neg (by rw [hp]; simp)]
      have : decide ((bl s).length ≤ 64) = true := decide_eq_true (show s.size ≤ 64 by omega)
      rw [this, Bool.true_and]
    generalize quoteB (bl s) = Q at hQ hQ0
    have HQ := Lib.hid hQ
    clear hp hQ hQ0
    go_enter Tryz.func101, Tryz.ntmps101
    (go_wp2_with fail; go_fit (P _); rintro e w1 ⟨rfl, b1⟩)
    have B1 := Lib.hid b1
    clear b1
    go_wp2_with fail
    go_loop [3, 4] (fun o v => ∃ (k : Nat) (t : ByteArray), k ≤ s.size ∧ v = .int .i64 k ∧ o = .string t ∧ t.size ≤ 2 * k + 1 ∧
        Hid (bl t = 39 :: ((bl s).take k).flatMap escQ ∧ ((bl s).take k).all mayQ = true)) (fun _ v => s.size - (intOf v).toNat)
    case atStart => exact ⟨0, ⟨#[39]⟩, Nat.zero_le _, rfl, rfl, Nat.le_refl _, Lib.hid ⟨rfl, rfl⟩⟩
    case round =>
      obtain ⟨k, t, hk, rfl, rfl, htk, HL⟩ := hrel
      by_cases hlt : k < s.size
      · have hlk : (bl s).take (k + 1) = (bl s).take k ++ [s[k]] := by
          rw [List.take_add_one, List.getElem?_eq_getElem (show k < (bl s).length from hlt)]
          rfl
        have hxs : bl (s.extract k (k + 1)) = [s[k]] := ext_one s k hlt
        have hzs : (s.extract k (k + 1)).size = 1 := by simp; omega
        obtain ⟨c, hc⟩ : ∃ c, s[k] = c := ⟨_, rfl⟩
        have hc' : ∀ h, s[k]'h = c := fun _ => hc
        rw [hc] at hlk hxs
        have hez := esc_is c
        have step : ∀ q : ByteArray, mayQ c = true → escQ c = bl q → Hid (bl (t ++ q) = 39 :: ((bl s).take (k + 1)).flatMap escQ ∧ ((bl s).take (k + 1)).all mayQ = true) := fun q hm hq => Lib.hid ⟨by
          rw [hlk, List.flatMap_append, List.flatMap_singleton, hq, bl_app, HL.out.1, List.cons_append], by rw [hlk, List.all_append, HL.out.2]; simp [hm]⟩
        have hz1 : ¬ 9223372036854775807 < t.size + 2 := by omega
        have hz2 : ¬ 9223372036854775807 < t.size + 1 := by omega
        have hz3 : ¬ 9223372036854775807 < t.size + 1 + 1 := by omega
        cases h10 : (c == 10)
        · have v10 : ((c.toNat : Int) == 10) = false := beq_false_of_ne fun e => by rw [show c = 10 from i64_u8 (by rw [e]; rfl)] at h10; exact absurd h10 (by decide)
          rw [h10, if_neg (by decide)] at hez
          cases h9 : (c == 9)
          · have v9 : ((c.toNat : Int) == 9) = false := beq_false_of_ne fun e => by rw [show c = 9 from i64_u8 (by rw [e]; rfl)] at h9; exact absurd h9 (by decide)
            rw [h9, if_neg (by decide)] at hez
            cases hsl : (c == 92 || c == 39)
            · rw [Bool.or_eq_false_iff] at hsl
              have v92 : ((c.toNat : Int) == 92) = false := beq_false_of_ne fun e => by rw [show c = 92 from i64_u8 (by rw [e]; rfl)] at hsl; exact absurd hsl.1 (by decide)
              have v39 : ((c.toNat : Int) == 39) = false := beq_false_of_ne fun e => by rw [show c = 39 from i64_u8 (by rw [e]; rfl)] at hsl; exact absurd hsl.2 (by decide)
              rw [hsl.1, hsl.2, Bool.or_self, if_neg (by decide)] at hez
              have hsh := shown_eq c
              cases hl : decide (32 ≤ (c.toNat : Int))
              · have hl' : (c.toNat : Int) < 32 := by simpa using hl
                rw [hl, Bool.false_and] at hsh
                rw [hsh, if_neg (by decide)] at hez
                have HF : Hid ((bl s).all mayQ = false) := Lib.hid (by
                  rw [List.all_eq_false]
                  exact ⟨(bl s)[k]'hlt, List.getElem_mem _, by show ¬ mayQ s[k] = true; rw [hc]; simpa using hez⟩)
                clear hez step hsl hsh hl h9 h10 hxs hlk hc HL
                go_wp2
                go_ret
                exact ⟨by rw [HQ.out, HF.out]; rfl, B1.out⟩
              · have hl' : 32 ≤ (c.toNat : Int) := by simpa using hl
                rw [hl, Bool.true_and] at hsh
                cases hm : decide ((c.toNat : Int) ≤ 126)
                · have hm' : 126 < (c.toNat : Int) := by simpa using hm
                  rw [hm] at hsh
                  rw [hsh, if_neg (by decide)] at hez
                  have HF : Hid ((bl s).all mayQ = false) := Lib.hid (by
                    rw [List.all_eq_false]
                    exact ⟨(bl s)[k]'hlt, List.getElem_mem _, by show ¬ mayQ s[k] = true; rw [hc]; simpa using hez⟩)
                  clear hez step hsl hsh hl hm h9 h10 hxs hlk hc HL
                  go_wp2
                  go_ret
                  exact ⟨by rw [HQ.out, HF.out]; rfl, B1.out⟩
                · have hm' : (c.toNat : Int) ≤ 126 := by simpa using hm
                  rw [hm] at hsh
                  rw [hsh, if_pos rfl, Bool.and_eq_true] at hez
                  have HN := step (s.extract k (k + 1)) hez.1 (by rw [hxs]; exact eq_of_beq hez.2)
                  have hzz : (t ++ s.extract k (k + 1)).size ≤ 2 * (k + 1) + 1 := by rw [ByteArray.size_append, hzs]; omega
                  have hz4 : ¬ 9223372036854775807 < t.size + (s.extract k (k + 1)).size := by rw [hzs]; omega
                  obtain ⟨t', ht'⟩ : ∃ t', t ++ s.extract k (k + 1) = t' := ⟨_, rfl⟩
                  rw [ht'] at HN hzz
                  have HT' := Lib.hid ht'
                  clear hez step hsl hsh hl hm h9 h10 hxs hlk hc HL ht' hzs
                  go_wp2
                  go_round
                  case rel => exact ⟨k + 1, t', by omega, by go_num, by rw [← HT'.out], hzz, HN⟩
                  case measure => simp [intOf]; omega
            · have hcc : c = 92 ∨ c = 39 := by
                rcases (Bool.or_eq_true _ _ ▸ hsl) with h | h
                · exact Or.inl (eq_of_beq h)
                · exact Or.inr (eq_of_beq h)
              rw [hsl, if_pos rfl, Bool.and_eq_true] at hez
              have HN := step ((⟨#[92]⟩ : ByteArray) ++ s.extract k (k + 1)) hez.1 (by rw [bl_app, hxs]; exact eq_of_beq hez.2)
              rw [← ByteArray.append_assoc] at HN
              have hz5 : (t ++ (⟨#[92]⟩ : ByteArray)).size = t.size + 1 := by rw [ByteArray.size_append]; rfl
              have hz4 : ¬ 9223372036854775807 < (t ++ (⟨#[92]⟩ : ByteArray)).size + (s.extract k (k + 1)).size := by rw [hzs, hz5]; omega
              have hzz : ((t ++ (⟨#[92]⟩ : ByteArray)) ++ s.extract k (k + 1)).size ≤ 2 * (k + 1) + 1 := by rw [ByteArray.size_append, hzs, hz5]; omega
              obtain ⟨t', ht'⟩ : ∃ t', (t ++ (⟨#[92]⟩ : ByteArray)) ++ s.extract k (k + 1) = t' := ⟨_, rfl⟩
              rw [ht'] at HN hzz
              have HT' := Lib.hid ht'
              clear hez step hsl h9 h10 hxs hlk hc HL ht' hzs hz5
              rcases hcc with rfl | rfl
              · go_wp2
                go_round
                case rel => exact ⟨k + 1, t', by omega, by go_num, by rw [← HT'.out], hzz, HN⟩
                case measure => simp [intOf]; omega
              · go_wp2
                go_round
                case rel => exact ⟨k + 1, t', by omega, by go_num, by rw [← HT'.out], hzz, HN⟩
                case measure => simp [intOf]; omega
          · obtain rfl : c = 9 := eq_of_beq h9
            have HN := step ⟨#[92, 116]⟩ rfl rfl
            obtain ⟨t', ht'⟩ : ∃ t', t ++ (⟨#[92, 116]⟩ : ByteArray) = t' := ⟨_, rfl⟩
            have hzz : t'.size ≤ 2 * (k + 1) + 1 := by rw [← ht', ByteArray.size_append]; show t.size + 2 ≤ _; omega
            rw [ht'] at HN
            have HT' := Lib.hid ht'
            clear hez step h9 h10 hxs hlk hc HL ht' hzs
            go_wp2
            go_round
            case rel => exact ⟨k + 1, t', by omega, by go_num, by rw [← HT'.out], hzz, HN⟩
            case measure => simp [intOf]; omega
        · obtain rfl : c = 10 := eq_of_beq h10
          have HN := step ⟨#[92, 110]⟩ rfl rfl
          obtain ⟨t', ht'⟩ : ∃ t', t ++ (⟨#[92, 110]⟩ : ByteArray) = t' := ⟨_, rfl⟩
          have hzz : t'.size ≤ 2 * (k + 1) + 1 := by rw [← ht', ByteArray.size_append]; show t.size + 2 ≤ _; omega
          rw [ht'] at HN
          have HT' := Lib.hid ht'
          clear hez step h10 hxs hlk hc HL ht' hzs
          go_wp2
          go_round
          case rel => exact ⟨k + 1, t', by omega, by go_num, by rw [← HT'.out], hzz, HN⟩
          case measure => simp [intOf]; omega
      · obtain rfl : k = s.size := by omega
        have htk2 : (bl s).take s.size = bl s := List.take_of_length_le (by rw [bl_len]; exact Nat.le_refl _)
        have hz2 : ¬ 9223372036854775807 < t.size + 1 := by omega
        have HL2 := HL.out
        rw [htk2] at HL2
        have HF := Lib.hid (show (t ++ (⟨#[39]⟩ : ByteArray)) = ⟨Q.toArray⟩ from bl_inj (by
          rw [bl_app, HL2.1, HQ.out, HL2.2]
          rfl))
        clear HL HL2 htk2
        go_wp2
        go_ret
        exact ⟨ret_str HF.out, B1.out⟩
  · rw [hp] at P
    have hQ : quoteB (bl s) = bl s := by unfold quoteB; rw [if_pos hp]
    rw [hQ]
    clear hQ hQ0 hp
    go_enter Tryz.func101, Tryz.ntmps101
    (go_wp2_with fail; go_fit (P _); rintro e w1 ⟨rfl, b1⟩)
    go_wp2
    go_ret
    exact ⟨rfl, b1⟩
end Go.Proofs.YtljgkfdnmikpfaaGreatDoor
/- The text of a number, and its reading, as plain functions. -/
namespace Go.Proofs.YtljgkfdnmikpfaaGreatDoor
open Go.RowKit
def isDig (c : UInt8) : Bool := !decide ((c.toNat : Int) < 48) && !decide (57 < (c.toNat : Int))
end Go.Proofs.YtljgkfdnmikpfaaGreatDoor
/- The document's own reckonings, as plain functions, beside the exact ones. -/
namespace Go.Proofs.YtljgkfdnmikpfaaGreatDoor
open Go.RowKit
set_option linter.unusedVariables false
theorem all_cons {c : UInt8} {r : List UInt8} (h : (c :: r).all isDig = true) : isDig c = true ∧ r.all isDig = true := by
  rw [List.all_cons, Bool.and_eq_true] at h; exact h
/-- A number's digits, the last one behind. -/
theorem dec_big {u : Nat} (h : 10 ≤ u) : Lib.decDigits u = Lib.decDigits (u / 10) ++ [UInt8.ofNat (48 + u % 10)] := by
  rw [Lib.decDigits, dif_neg (by omega)]
theorem dec_small {u : Nat} (h : u < 10) : Lib.decDigits u = [UInt8.ofNat (48 + u)] := by
  rw [Lib.decDigits, dif_pos h]
theorem itoa_big_neg {n : Int} (h : n ≤ -10) : Lib.itoa n = Lib.itoa (n.tdiv 10) ++ [UInt8.ofNat (48 - n.tmod 10).toNat] := by
  obtain ⟨u, rfl⟩ : ∃ u : Nat, n = -(u : Int) := ⟨n.natAbs, by omega⟩
  have h1 : (-(u : Int)).tdiv 10 = -((u / 10 : Nat) : Int) := by
    rw [Int.neg_tdiv]; rfl
  have h2 : (-(u : Int)).tmod 10 = -((u % 10 : Nat) : Int) := by
    rw [Int.neg_tmod]; rfl
  rw [h1, h2]
  unfold Lib.itoa
  rw [if_pos (by omega), if_pos (by omega)]
  simp only [Int.natAbs_neg, Int.natAbs_natCast]
  rw [dec_big (by omega)]
  have e : (48 - -((u % 10 : Nat) : Int)).toNat = 48 + u % 10 := by omega
  rw [e]; rfl
theorem itoa_big_pos {n : Int} (h : 10 ≤ n) : Lib.itoa n = Lib.itoa (n.tdiv 10) ++ [UInt8.ofNat (48 + n.tmod 10).toNat] := by
  obtain ⟨u, rfl⟩ : ∃ u : Nat, n = (u : Int) := ⟨n.natAbs, by omega⟩
  have h1 : (u : Int).tdiv 10 = ((u / 10 : Nat) : Int) := rfl
  have h2 : (u : Int).tmod 10 = ((u % 10 : Nat) : Int) := rfl
  rw [h1, h2]
  unfold Lib.itoa
  rw [if_neg (by omega), if_neg (by omega)]
  simp only [Int.toNat_natCast]
  rw [dec_big (by omega)]
  have e : (48 + ((u % 10 : Nat) : Int)).toNat = 48 + u % 10 := by omega
  rw [e]
theorem itoa_small_neg {n : Int} (h : n < 0) (h' : -10 < n) : Lib.itoa n = [45, UInt8.ofNat (48 - n).toNat] := by
  unfold Lib.itoa
  rw [if_pos h, dec_small (by omega)]
  have e : (48 - n).toNat = 48 + n.natAbs := by omega
  rw [e]
theorem itoa_small_pos {n : Int} (h : 0 ≤ n) (h' : n < 10) : Lib.itoa n = [UInt8.ofNat (48 + n).toNat] := by
  unfold Lib.itoa
  rw [if_neg (by omega), dec_small (by omega)]
  have e : (48 + n).toNat = 48 + n.toNat := by omega
  rw [e]
end Go.Proofs.YtljgkfdnmikpfaaGreatDoor
/- The document's own Num (sizarref1): every number's digits. -/
namespace Go.Proofs.YtljgkfdnmikpfaaGreatDoor
open Go.RowKit Go.Shelf
set_option linter.unusedVariables false
set_option maxRecDepth 100000

def numS (n : Int) : ByteArray := baS (Lib.itoa n)
theorem numS_size {n : Int} (hn : R n) : (numS n).size ≤ 21 := by
  have h := Lib.itoa_length_le n hn.1 hn.2
  show (Lib.itoa n).toArray.size ≤ 21
  simpa using h
theorem nbel1 {w w1 : World} (h : Below w.drew.heap.size w.drew w1) (o : Obj) : Below w.heap.size w (w1.alloc o) :=
  (Ext.trans' ((Below.refl _ _).drew) h).alloc (by have := h.size; exact this) o
theorem nbel2 {w w1 : World} {o : Obj} (h : Below (w.drew.alloc o).heap.size (w.drew.alloc o) w1) : Below w.heap.size w w1 :=
  Ext.trans' ((Below.refl _ _).drew) (Ext.trans' ((Below.refl _ _).alloc (Nat.le_refl _) o) h)
theorem rnum_small_pos {n : Int} {w : World} (h0 : 0 ≤ n) (h1 : n < 10) : Calls Tryz.prog 104 #[.int .i64 n] w fun e w' => e = .returned (.string (numS n)) ∧ Below w.heap.size w w' := by
  have K := fun W => conv1r_new W (48 + n) (by omega) (by omega)
  have e : numS n = ⟨#[UInt8.ofNat (48 + n).toNat]⟩ := by unfold numS baS; rw [itoa_small_pos h0 h1]
  rw [e]
  generalize UInt8.ofNat (48 + n).toNat = c at K
  go_enter Tryz.func104, Tryz.ntmps104
  go_wp2
  go_ret
  exact ⟨rfl, (Below.refl _ _).alloc (Nat.le_refl _) _⟩
theorem rnum_small_neg {n : Int} {w : World} (h0 : n < 0) (h1 : -10 < n) : Calls Tryz.prog 104 #[.int .i64 n] w fun e w' => e = .returned (.string (numS n)) ∧ Below w.heap.size w w' := by
  have K := fun W => conv1r_new W (48 - n) (by omega) (by omega)
  have e : numS n = ⟨#[45, UInt8.ofNat (48 - n).toNat]⟩ := by unfold numS baS; rw [itoa_small_neg h0 h1]
  rw [e]
  generalize UInt8.ofNat (48 - n).toNat = c at K
  go_enter Tryz.func104, Tryz.ntmps104
  go_wp2
  go_ret
  exact ⟨rfl, (Below.refl _ _).alloc (Nat.le_refl _) _⟩
theorem ncat1 (s : ByteArray) (c : UInt8) : bl (s ++ ⟨#[c]⟩) = bl s ++ [c] := by simp [bl]
set_option maxHeartbeats 1000000 in
theorem rnum_big_pos {n : Int} {w : World} (hn : R n) (h1 : 10 ≤ n) (ih : ∀ w, Calls Tryz.prog 104 #[.int .i64 (n.tdiv 10)] w fun e w' => e = .returned (.string (numS (n.tdiv 10))) ∧ Below w.heap.size w w') : Calls Tryz.prog 104 #[.int .i64 n] w fun e w' => e = .returned (.string (numS n)) ∧ Below w.heap.size w w' := by
  have e := itoa_big_pos h1
  have d := wrap_in (tdiv_R (b := 10) hn (by decide) (by decide))
  have hs := numS_size (tdiv_R (b := 10) hn (by decide) (by decide))
  have hfin : numS (n.tdiv 10) ++ ⟨#[UInt8.ofNat (48 + n.tmod 10).toNat]⟩ = numS n := bl_inj (by rw [ncat1]; exact e.symm)
  rw [← hfin]
  clear e hfin
  have m0 := Int.tmod_nonneg (a := n) 10 (by omega)
  have m1 := Int.tmod_lt_of_pos n (b := 10) (by decide)
  obtain ⟨m, hm⟩ : ∃ m, n.tmod 10 = m := ⟨_, rfl⟩
  obtain ⟨q, hq⟩ : ∃ q, n.tdiv 10 = q := ⟨_, rfl⟩
  rw [hm] at m0 m1 ⊢
  rw [hq] at d ih hs ⊢
  generalize numS q = s at ih hs ⊢
  have k1 : IntKind.i64.wrap (48 + m) = 48 + m := wrap_in (by unfold R; omega)
  have k2 : IntKind.u8.wrap (48 + m) = 48 + m := by rw [IntKind.wrap_u8]; omega
  have K := fun W => conv1r_new W (48 + m) (by omega) (by omega)
  have K2 := fun W b => conv1r W b (48 + m) (by omega) (by omega)
  have C : ∀ W : World, (W.alloc (.cells #[.int .u8 (48 + m)] 5)).cell? ⟨W.heap.size, 0, none⟩ = some (.int .u8 (48 + m)) := fun W => by rw [World.cell?_alloc_at _ _ _ _ rfl]; rfl
  generalize UInt8.ofNat (48 + m).toNat = c at *
  go_enter Tryz.func104, Tryz.ntmps104
  go_wp2_with fail
  go_region_with (first | (go_at_call 104; go_fit (ih _); rintro e w1 ⟨rfl, b1⟩; try have hc := cell_later b1 (C _)))
  all_goals
    go_wp2
    go_ret
    refine ⟨rfl, ?_⟩
    first | exact nbel1 b1 _ | exact nbel2 b1
set_option maxHeartbeats 1000000 in
theorem rnum_big_neg {n : Int} {w : World} (hn : R n) (h1 : n ≤ -10) (ih : ∀ w, Calls Tryz.prog 104 #[.int .i64 (n.tdiv 10)] w fun e w' => e = .returned (.string (numS (n.tdiv 10))) ∧ Below w.heap.size w w') : Calls Tryz.prog 104 #[.int .i64 n] w fun e w' => e = .returned (.string (numS n)) ∧ Below w.heap.size w w' := by
  have e := itoa_big_neg h1
  have d := wrap_in (tdiv_R (b := 10) hn (by decide) (by decide))
  have hs := numS_size (tdiv_R (b := 10) hn (by decide) (by decide))
  have hfin : numS (n.tdiv 10) ++ ⟨#[UInt8.ofNat (48 - n.tmod 10).toNat]⟩ = numS n := bl_inj (by rw [ncat1]; exact e.symm)
  rw [← hfin]
  clear e hfin
  have m0 : n.tmod 10 ≤ 0 := by
    have h2 := Int.tmod_nonneg (a := -n) 10 (by omega)
    rw [Int.neg_tmod] at h2; omega
  have m1 := Int.lt_tmod_of_pos n (b := 10) (by decide)
  obtain ⟨m, hm⟩ : ∃ m, n.tmod 10 = m := ⟨_, rfl⟩
  obtain ⟨q, hq⟩ : ∃ q, n.tdiv 10 = q := ⟨_, rfl⟩
  rw [hm] at m0 m1 ⊢
  rw [hq] at d ih hs ⊢
  generalize numS q = s at ih hs ⊢
  have k1 : IntKind.i64.wrap (48 - m) = 48 - m := wrap_in (by unfold R; omega)
  have k2 : IntKind.u8.wrap (48 - m) = 48 - m := by rw [IntKind.wrap_u8]; omega
  have K := fun W => conv1r_new W (48 - m) (by omega) (by omega)
  have K2 := fun W b => conv1r W b (48 - m) (by omega) (by omega)
  have C : ∀ W : World, (W.alloc (.cells #[.int .u8 (48 - m)] 5)).cell? ⟨W.heap.size, 0, none⟩ = some (.int .u8 (48 - m)) := fun W => by rw [World.cell?_alloc_at _ _ _ _ rfl]; rfl
  generalize UInt8.ofNat (48 - m).toNat = c at *
  go_enter Tryz.func104, Tryz.ntmps104
  go_wp2_with fail
  go_region_with (first | (go_at_call 104; go_fit (ih _); rintro e w1 ⟨rfl, b1⟩; try have hc := cell_later b1 (C _)))
  all_goals
    go_wp2
    go_ret
    refine ⟨rfl, ?_⟩
    first | exact nbel1 b1 _ | exact nbel2 b1
theorem rnum_at : ∀ (k : Nat) (n : Int) (w : World), R n → n.natAbs < k → Calls Tryz.prog 104 #[.int .i64 n] w fun e w' => e = .returned (.string (numS n)) ∧ Below w.heap.size w w'
  | 0, n, w, _, h => by omega
  | k + 1, n, w, hn, h => by
    have hd : (n.tdiv 10).natAbs = n.natAbs / 10 := by rw [Int.natAbs_tdiv]; rfl
    by_cases h1 : 10 ≤ n
    · exact rnum_big_pos hn h1 (fun w => rnum_at k _ w (tdiv_R hn (by decide) (by decide)) (by omega))
    · by_cases h2 : n ≤ -10
      · exact rnum_big_neg hn h2 (fun w => rnum_at k _ w (tdiv_R hn (by decide) (by decide)) (by omega))
      · by_cases h3 : 0 ≤ n
        · exact rnum_small_pos h3 (by omega)
        · exact rnum_small_neg (by omega) (by omega)
/-- The digits as they are written. -/
theorem rnumW_itoa {n : Int} (hn : R n) : numW n = Lib.itoa n := by
  unfold R at hn
  unfold numW Lib.itoa digW
  by_cases h : n < 0
  · rw [if_pos h, if_pos h, digF_eq 24 _ (by omega)]
  · rw [if_neg h, if_neg h, digF_eq 24 _ (by omega)]
theorem rnum_nc {n : Int} (hn : R n) : NC numW n := fun w => by
  have h := rnum_at (n.natAbs + 1) n w hn (Nat.lt_succ_self _)
  unfold numS at h
  rw [← rnumW_itoa hn] at h
  exact h
theorem rquote_qc {s : ByteArray} (hs : s.size ≤ 140737488351232) : QC (fun s => quoteB (bl s)) s := fun w => rquote_any s w hs
end Go.Proofs.YtljgkfdnmikpfaaGreatDoor
/- What the law's texts read as, and how they are written: pure, and the law's text at every text of which that is known. -/
namespace Go.Proofs.YtljgkfdnmikpfaaGreatDoor
open Go.RowKit Go.Shelf
set_option linter.unusedVariables false
set_option maxRecDepth 100000

abbrev qB : ByteArray → List UInt8 := fun s => quoteB (bl s)
theorem pnumW_len {n : Int} (h : R n) : (numW n).length ≤ 21 := by
  rw [rnumW_itoa h]
  exact Lib.itoa_length_le n h.1 h.2
end Go.Proofs.YtljgkfdnmikpfaaGreatDoor
