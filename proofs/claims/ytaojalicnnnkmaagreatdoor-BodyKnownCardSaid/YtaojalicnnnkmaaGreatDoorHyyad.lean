import Derived.Test.YtaojalicnnnkmaaGreatDoorHyyac
import Derived.Shelf.Small.Strs
import Derived.Shelf.Strconv.Itoa0
import Derived.Shelf.Strconv.ParseIntEmpty
import Derived.Shelf.LaysM
import Derived.Shelf.Strconv.Clone
import Derived.Shelf.Strconv.SyntaxError
import Derived.Shelf.LaysC
import Derived.Shelf.Strconv.ToError
import Derived.Shelf.Strconv.Lower
import Derived.Shelf.Strconv.ParseUint10
import Derived.Shelf.Strconv.ParseUint10Empty
import Derived.Shelf.Strconv.ParseUint10Any
import Derived.Shelf.Strconv.ParseInt10
import Derived.Shelf.Strconv.RangeError
import Derived.Shelf.Strconv.ToErrorRange
import Derived.Shelf.Strconv.ParseUintEmpty
import Derived.Shelf.Strconv.ParseUint10b64
import Derived.Shelf.Strconv.ParseUint10b32
import Derived.Shelf.Strconv.ParseUint10b16
import Derived.Shelf.Strconv.ParseUint10b8
import Derived.Shelf.Strconv.ParseUint10At
import Derived.Shelf.Strconv.ParseInt10At64
import Derived.Shelf.Strconv.ParseInt10At32
import Derived.Shelf.Strconv.ParseInt10At16
import Derived.Shelf.Strconv.ParseInt10At8
import Derived.Shelf.Strconv.ParseInt10All
import Derived.Shelf.Strconv.ParseIntPublic10
import Derived.Shelf.Strconv.ErrVarParseInt
import Derived.Shelf.Strings.Search1
import Derived.Shelf.Strings.Prefix
import Derived.Test.YtaojalicnnnkmaaGreatDoorProg
import Derived.Test.YtaojalicnnnkmaaGreatDoorHyyaa
import Derived.Test.YtaojalicnnnkmaaGreatDoorRows
import Derived.Lib.ParseIntBTie
import Derived.Laws.IdiomStrings
import Derived.Stop.Joined
import Derived.Lib.AtoiErrMem
import Derived.Lib.SmallJoins
set_option linter.unusedVariables false
set_option linter.unusedSimpArgs false
/- Letter by letter: a whole text, its tokens or where it is refused; what is passed over ahead of a token. Nothing here is walked. -/
namespace Go.Proofs.YtaojalicnnnkmaaGreatDoor

inductive CutR where
  | ok (l : List (TokB × Nat))
  | bad (pl : Nat) (over : Bool)

def cutW : Nat → List (TokB × Nat) → Nat → List UInt8 → CutR
  | _, acc, _, [] => .ok acc
  | 0, _, p, _ :: _ => .bad p true
  | n + 1, acc, p, c :: r =>
    match nextC c r with
    | .skip k => cutW n acc (p + k) ((c :: r).drop k)
    | .tok t => if acc.length = 1024 then .bad p true else cutW n (acc ++ [(t, p)]) (p + t.len) ((c :: r).drop t.len)
    | .bad o => .bad p o
def cutF (acc : List (TokB × Nat)) (p : Nat) (s : List UInt8) : CutR := cutW s.length acc p s
def cutB (s : List UInt8) : CutR := if 4096 < s.length then .bad 4096 true else cutF [] 0 s

def passL : Nat → List UInt8 → Nat
  | _, [] => 0
  | 0, _ :: _ => 0
  | n + 1, c :: r => match nextC c r with
    | .skip k => k + passL n ((c :: r).drop k)
    | _ => 0
def passF (s : List UInt8) : Nat := passL s.length s

theorem sym_pos {c : UInt8} {r : List UInt8} (h : symB c = true) (he : ¬ (c == 46 && endB r) = true) : 1 ≤ symRun (c :: r) := by
  rw [symRun, h]
  simp only [Bool.not_eq_true] at he
  rw [he]
  simp
theorem name_pos {k : Nat} {s : List UInt8} (hk : 1 ≤ k) : (∃ t, nameB k s = .tok t ∧ 1 ≤ t.len) ∨ nameB k s = .bad true := by
  unfold nameB
  split
  · exact Or.inl ⟨_, rfl, hk⟩
  · exact Or.inr rfl
/-- What stands next takes at least one byte. -/
theorem next_pos (c : UInt8) (r : List UInt8) : (∃ k, nextC c r = .skip k ∧ 1 ≤ k) ∨ (∃ t, nextC c r = .tok t ∧ 1 ≤ t.len) ∨ ∃ o, nextC c r = .bad o := by
  have nm : ∀ (k : Nat), 1 ≤ k → (∃ j, nameB k (c :: r) = .skip j ∧ 1 ≤ j) ∨ (∃ t, nameB k (c :: r) = .tok t ∧ 1 ≤ t.len) ∨ ∃ o, nameB k (c :: r) = .bad o := fun k hk => by
    rcases name_pos (s := c :: r) hk with h | h
    · exact Or.inr (Or.inl h)
    · exact Or.inr (Or.inr ⟨_, h⟩)
  unfold nextC
  by_cases h1 : blankB c = true
  · rw [if_pos h1]; exact Or.inl ⟨_, rfl, Nat.le_refl _⟩
  rw [if_neg h1]
  by_cases h2 : (c == 37) = true
  · rw [if_pos h2]; exact Or.inl ⟨_, rfl, Nat.le_add_left _ _⟩
  rw [if_neg h2]
  by_cases h3 : smallB c = true
  · rw [if_pos h3]; exact nm _ (Nat.le_add_left _ _)
  rw [if_neg h3]
  by_cases h4 : greatB c = true
  · rw [if_pos h4]; exact Or.inr (Or.inl ⟨_, rfl, Nat.le_add_left _ _⟩)
  rw [if_neg h4]
  by_cases h5 : digitB c = true
  · rw [if_pos h5]
    split
    · exact Or.inr (Or.inl ⟨_, rfl, Nat.le_add_left _ _⟩)
    · exact Or.inr (Or.inr ⟨_, rfl⟩)
  rw [if_neg h5]
  by_cases h6 : (c == 39) = true
  · rw [if_pos h6]
    cases hq : quoB r with
    | none => exact Or.inr (Or.inr ⟨_, rfl⟩)
    | some p =>
      simp only
      split
      · exact Or.inr (Or.inl ⟨_, rfl, Nat.le_add_left _ _⟩)
      · exact Or.inr (Or.inr ⟨_, rfl⟩)
  rw [if_neg h6]
  by_cases h7 : (c == 46 && endB r) = true
  · rw [if_pos h7]; exact Or.inr (Or.inl ⟨_, rfl, Nat.le_refl _⟩)
  rw [if_neg h7]
  by_cases h8 : symB c = true
  · rw [if_pos h8]; exact nm _ (sym_pos h8 h7)
  rw [if_neg h8]
  by_cases h9 : (c == 59 || c == 33) = true
  · rw [if_pos h9]; exact nm _ (Nat.le_refl _)
  rw [if_neg h9]
  by_cases h10 : ((c == 91 && r.head? == some 93) || (c == 123 && r.head? == some 125)) = true
  · rw [if_pos h10]; exact nm _ (by omega)
  rw [if_neg h10]
  by_cases h11 : [40, 41, 91, 93, 123, 125, 44, 124].contains c = true
  · rw [if_pos h11]; exact Or.inr (Or.inl ⟨_, rfl, Nat.le_refl _⟩)
  rw [if_neg h11]
  exact Or.inr (Or.inr ⟨_, rfl⟩)
theorem drop_lt {c : UInt8} {r : List UInt8} {k n : Nat} (hk : 1 ≤ k) (hn : (c :: r).length ≤ n + 1) : ((c :: r).drop k).length ≤ n := by
  rw [List.length_drop]; omega
theorem cut_fuel : ∀ (n m : Nat) (acc : List (TokB × Nat)) (p : Nat) (s : List UInt8), s.length ≤ n → s.length ≤ m → cutW n acc p s = cutW m acc p s
  | n, m, acc, p, [], _, _ => by cases n <;> cases m <;> rfl
  | 0, m, acc, p, c :: r, hn, _ => by simp at hn
  | n + 1, 0, acc, p, c :: r, _, hm => by simp at hm
  | n + 1, m + 1, acc, p, c :: r, hn, hm => by
    rw [cutW, cutW]
    rcases next_pos c r with ⟨k, h, hk⟩ | ⟨t, h, hk⟩ | ⟨o, h⟩
    · rw [h]; exact cut_fuel n m _ _ _ (drop_lt hk hn) (drop_lt hk hm)
    · rw [h]; simp only; rw [cut_fuel n m _ _ _ (drop_lt hk hn) (drop_lt hk hm)]
    · rw [h]
theorem pass_fuel : ∀ (n m : Nat) (s : List UInt8), s.length ≤ n → s.length ≤ m → passL n s = passL m s
  | n, m, [], _, _ => by cases n <;> cases m <;> rfl
  | 0, m, c :: r, hn, _ => by simp at hn
  | n + 1, 0, c :: r, _, hm => by simp at hm
  | n + 1, m + 1, c :: r, hn, hm => by
    rw [passL, passL]
    rcases next_pos c r with ⟨k, h, hk⟩ | ⟨t, h, hk⟩ | ⟨o, h⟩
    · rw [h]; simp only; rw [pass_fuel n m _ (drop_lt hk hn) (drop_lt hk hm)]
    · rw [h]
    · rw [h]
theorem cutF_nil (acc : List (TokB × Nat)) (p : Nat) : cutF acc p [] = .ok acc := rfl
theorem cutF_skip {acc : List (TokB × Nat)} {p k : Nat} {c : UInt8} {r : List UInt8} (h : nextC c r = .skip k) (hk : 1 ≤ k) : cutF acc p (c :: r) = cutF acc (p + k) ((c :: r).drop k) := by
  unfold cutF
  rw [List.length_cons, cutW, h]
  exact cut_fuel _ _ _ _ _ (drop_lt hk (Nat.le_refl _)) (Nat.le_refl _)
theorem cutF_tok {acc : List (TokB × Nat)} {p : Nat} {c : UInt8} {r : List UInt8} {t : TokB} (h : nextC c r = .tok t) (hk : 1 ≤ t.len) (ha : acc.length ≠ 1024) : cutF acc p (c :: r) = cutF (acc ++ [(t, p)]) (p + t.len) ((c :: r).drop t.len) := by
  unfold cutF
  rw [List.length_cons, cutW, h]
  simp only
  rw [if_neg ha]
  exact cut_fuel _ _ _ _ _ (drop_lt hk (Nat.le_refl _)) (Nat.le_refl _)
theorem cutF_full {acc : List (TokB × Nat)} {p : Nat} {c : UInt8} {r : List UInt8} {t : TokB} (h : nextC c r = .tok t) (ha : acc.length = 1024) : cutF acc p (c :: r) = .bad p true := by
  unfold cutF
  rw [List.length_cons, cutW, h]
  simp only
  rw [if_pos ha]
theorem cutF_bad {acc : List (TokB × Nat)} {p : Nat} {c : UInt8} {r : List UInt8} {o : Bool} (h : nextC c r = .bad o) : cutF acc p (c :: r) = .bad p o := by
  unfold cutF
  rw [List.length_cons, cutW, h]
theorem passF_skip {k : Nat} {c : UInt8} {r : List UInt8} (h : nextC c r = .skip k) (hk : 1 ≤ k) : passF (c :: r) = k + passF ((c :: r).drop k) := by
  unfold passF
  rw [List.length_cons, passL, h]
  simp only
  rw [pass_fuel _ _ _ (drop_lt hk (Nat.le_refl _)) (Nat.le_refl _)]
theorem passF_stop {c : UInt8} {r : List UInt8} (h : ∀ k, nextC c r ≠ .skip k) : passF (c :: r) = 0 := by
  unfold passF
  rw [List.length_cons, passL]
  split
  · rename_i k hk; exact absurd hk (h k)
  · rfl
/-- What is passed over, no text is behind or a token: and nothing of the answer changes. -/
theorem pass_cut : ∀ (n : Nat) (s : List UInt8), s.length ≤ n → passF s ≤ s.length ∧ (∀ acc p, cutF acc p s = cutF acc (p + passF s) (s.drop (passF s))) ∧ ∀ c r, s.drop (passF s) = c :: r → ∀ k, nextC c r ≠ .skip k
  | _, [], _ => ⟨Nat.le_refl _, fun _ _ => rfl, fun c r h => by simp at h⟩
  | 0, c :: r, h => by simp at h
  | n + 1, c :: r, hn => by
    have hlen := next_len c r
    rcases next_pos c r with ⟨k, h, hk⟩ | ⟨t, h, hk⟩ | ⟨o, h⟩
    · rw [h] at hlen
      have hk2 : k ≤ (c :: r).length := hlen
      obtain ⟨i1, i2, i3⟩ := pass_cut n ((c :: r).drop k) (drop_lt hk hn)
      rw [passF_skip h hk]
      refine ⟨?_, fun acc p => ?_, fun c' r' h' => ?_⟩
      · rw [List.length_drop] at i1; omega
      · rw [cutF_skip h hk, i2, List.drop_drop, Nat.add_assoc]
      · rw [← List.drop_drop] at h'; exact i3 c' r' h'
    · have e : passF (c :: r) = 0 := passF_stop (fun k' => by rw [h]; intro e; cases e)
      rw [e]
      refine ⟨Nat.zero_le _, fun _ _ => rfl, fun c' r' h' => ?_⟩
      rw [List.drop_zero] at h'; cases h'
      rw [h]; intro k e; cases e
    · have e : passF (c :: r) = 0 := passF_stop (fun k' => by rw [h]; intro e; cases e)
      rw [e]
      refine ⟨Nat.zero_le _, fun _ _ => rfl, fun c' r' h' => ?_⟩
      rw [List.drop_zero] at h'; cases h'
      rw [h]; intro k e; cases e
/-- All is well just where there are tokens, and not too many. -/
theorem cut_lex : ∀ (n : Nat) (acc : List (TokB × Nat)) (p : Nat) (s : List UInt8) (l : List (TokB × Nat)), acc.length ≤ 1024 →
    (cutW n acc p s = .ok l ↔ ∃ x, lexL n p s = some x ∧ l = acc ++ x ∧ acc.length + x.length ≤ 1024)
  | n, acc, p, [], l, ha => by
    rw [lex_nil]
    have e : cutW n acc p [] = .ok acc := by cases n <;> rfl
    rw [e]
    constructor
    · intro h; cases h; exact ⟨[], rfl, by simp, by simpa using ha⟩
    · rintro ⟨x, hx, rfl, _⟩; cases hx; simp
  | 0, acc, p, c :: r, l, ha => by
    constructor
    · intro h; cases h
    · rintro ⟨x, hx, _⟩; cases hx
  | n + 1, acc, p, c :: r, l, ha => by
    rw [cutW, lexL]
    cases h : nextC c r with
    | skip k => exact cut_lex n acc _ _ l ha
    | bad o => simp
    | tok t =>
      simp only
      by_cases hf : acc.length = 1024
      · rw [if_pos hf]
        constructor
        · intro h; cases h
        · rintro ⟨x, hx, rfl, hl⟩
          obtain ⟨y, _, rfl⟩ := Option.map_eq_some_iff.1 hx
          simp at hl
          omega
      · rw [if_neg hf, cut_lex n (acc ++ [(t, p)]) _ _ l (by simp; omega)]
        constructor
        · rintro ⟨x, hx, rfl, hl⟩
          exact ⟨(t, p) :: x, by rw [hx]; rfl, by simp, by simp at hl ⊢; omega⟩
        · rintro ⟨x, hx, rfl, hl⟩
          obtain ⟨y, hy, rfl⟩ := Option.map_eq_some_iff.1 hx
          exact ⟨y, hy, by simp, by simp at hl ⊢; omega⟩
theorem cutB_ok {s : List UInt8} {l : List (TokB × Nat)} : cutB s = .ok l ↔ s.length ≤ 4096 ∧ lexL s.length 0 s = some l ∧ l.length ≤ 1024 := by
  unfold cutB
  by_cases h : 4096 < s.length
  · rw [if_pos h]
    constructor
    · intro h; cases h
    · rintro ⟨h1, _⟩; omega
  · rw [if_neg h]
    unfold cutF
    rw [cut_lex _ _ _ _ _ (Nat.zero_le _)]
    constructor
    · rintro ⟨x, hx, rfl, hl⟩
      exact ⟨by omega, by simpa using hx, by simpa using hl⟩
    · rintro ⟨_, hx, hl⟩
      exact ⟨l, hx, by simp, by simpa using hl⟩
end Go.Proofs.YtaojalicnnnkmaaGreatDoor
/- The shelf's contracts at this program, laid by the kit's tool. -/
namespace Go.Proofs
open Go.Shelf
def Tryz.lays137_ren : Go.Shelf.Ren := ⟨fun | 137 => 104 | 217 => 126 | 266 => 131 | n => n, fun | 9 => 9 | 5 => 5 | 3 => 3 | n => n, fun | n => n⟩
theorem Tryz.lays137 : Go.Proofs.Lays.n137 Tryz.prog Tryz.lays137_ren := {
  mixed := by kernel_rfl
  f137 := Tryz.func104.trans (congrArg some (by kernel_rfl))
  f217 := Tryz.func126.trans (congrArg some (by kernel_rfl))
  f266 := Tryz.func131.trans (congrArg some (by kernel_rfl))
  t3 := Tryz.underlying3
  a3 := Tryz.isAgg3
  z3 := Tryz.sizeOf3
  v3 := Tryz.zeroValue3
  t5 := Tryz.underlying5
  a5 := Tryz.isAgg5
  z5 := Tryz.sizeOf5
  v5 := Tryz.zeroValue5
  t9 := Tryz.underlying9
  a9 := Tryz.isAgg9
  z9 := Tryz.sizeOf9
  v9 := Tryz.zeroValue9 }
open Go.RowKit in
/-- strings.IndexByte: "IndexByte returns the index of the first instance of c in s, or -1 if c is not present in s.": IT RETURNS 'Lib.indexByte s c'; the world is as it was. (LAID: no walk: one application.) -/
theorem Tryz.strings_IndexByte (s : ByteArray) (c : Int) (w : World) :
    Calls Tryz.prog 104 #[.string s, .int .u8 c] w fun e w' => e = .returned (.int .i64 (Lib.indexByte s.data.toList c.toNat.toUInt8)) ∧ w' = w := Any.strings_IndexByte Tryz.lays137 s c w
def Tryz.laysC174_ren : Go.Shelf.Ren := ⟨fun | 174 => 114 | 247 => 128 | 245 => 129 | 287 => 132 | 279 => 133 | 280 => 134 | 281 => 135 | 282 => 136 | 321 => 138 | 322 => 139 | 316 => 140 | 171 => 142 | 205 => 141 | 243 => 144 | 246 => 145 | 283 => 146 | 284 => 147 | 285 => 148 | 286 => 149 | 129 => 151 | 317 => 150 | 318 => 152 | 319 => 153 | 320 => 154 | 337 => 155 | 338 => 156 | n => n, fun | 9 => 9 | 3 => 3 | 2 => 2 | 75 => 171 | 85 => 172 | 4 => 4 | 167 => 188 | 5 => 5 | 53 => 163 | 175 => 189 | 46 => 191 | 168 => 192 | 37 => 167 | 0 => 0 | 210 => 201 | 21 => 21 | 127 => 205 | 145 => 208 | 143 => 206 | 171 => 210 | 173 => 213 | 212 => 217 | 51 => 218 | 20 => 20 | 213 => 219 | 232 => 223 | 233 => 224 | 80 => 225 | n => n, fun | 15 => 1 | 16 => 2 | 17 => 3 | 18 => 4 | 19 => 5 | n => n⟩
theorem Tryz.laysC174 : Go.Proofs.LaysC.n174 Tryz.prog Tryz.laysC174_ren := {
  mixed := by kernel_rfl
  f129 := Tryz.func151.trans (congrArg some (by kernel_rfl))
  f171 := Tryz.func142.trans (congrArg some (by kernel_rfl))
  f174 := Tryz.func114.trans (congrArg some (by kernel_rfl))
  f205 := Tryz.func141.trans (congrArg some (by kernel_rfl))
  f243 := Tryz.func144.trans (congrArg some (by kernel_rfl))
  f245 := Tryz.func129.trans (congrArg some (by kernel_rfl))
  f246 := Tryz.func145.trans (congrArg some (by kernel_rfl))
  f247 := Tryz.func128.trans (congrArg some (by kernel_rfl))
  f279 := Tryz.func133.trans (congrArg some (by kernel_rfl))
  f280 := Tryz.func134.trans (congrArg some (by kernel_rfl))
  f281 := Tryz.func135.trans (congrArg some (by kernel_rfl))
  f282 := Tryz.func136.trans (congrArg some (by kernel_rfl))
  f283 := Tryz.func146.trans (congrArg some (by kernel_rfl))
  f284 := Tryz.func147.trans (congrArg some (by kernel_rfl))
  f285 := Tryz.func148.trans (congrArg some (by kernel_rfl))
  f286 := Tryz.func149.trans (congrArg some (by kernel_rfl))
  f287 := Tryz.func132.trans (congrArg some (by kernel_rfl))
  f316 := Tryz.func140.trans (congrArg some (by kernel_rfl))
  f317 := Tryz.func150.trans (congrArg some (by kernel_rfl))
  f318 := Tryz.func152.trans (congrArg some (by kernel_rfl))
  f319 := Tryz.func153.trans (congrArg some (by kernel_rfl))
  f320 := Tryz.func154.trans (congrArg some (by kernel_rfl))
  f321 := Tryz.func138.trans (congrArg some (by kernel_rfl))
  f322 := Tryz.func139.trans (congrArg some (by kernel_rfl))
  f337 := Tryz.func155.trans (congrArg some (by kernel_rfl))
  f338 := Tryz.func156.trans (congrArg some (by kernel_rfl))
  t0 := Tryz.underlying0
  a0 := Tryz.isAgg0
  z0 := Tryz.sizeOf0
  v0 := Tryz.zeroValue0
  t2 := Tryz.underlying2
  a2 := Tryz.isAgg2
  z2 := Tryz.sizeOf2
  v2 := Tryz.zeroValue2
  t3 := Tryz.underlying3
  a3 := Tryz.isAgg3
  z3 := Tryz.sizeOf3
  v3 := Tryz.zeroValue3
  t4 := Tryz.underlying4
  a4 := Tryz.isAgg4
  z4 := Tryz.sizeOf4
  v4 := Tryz.zeroValue4
  t5 := Tryz.underlying5
  a5 := Tryz.isAgg5
  z5 := Tryz.sizeOf5
  v5 := Tryz.zeroValue5
  t9 := Tryz.underlying9
  a9 := Tryz.isAgg9
  z9 := Tryz.sizeOf9
  v9 := Tryz.zeroValue9
  t20 := Tryz.underlying20
  a20 := Tryz.isAgg20
  z20 := Tryz.sizeOf20
  v20 := Tryz.zeroValue20
  t21 := Tryz.underlying21
  a21 := Tryz.isAgg21
  z21 := Tryz.sizeOf21
  v21 := Tryz.zeroValue21
  t37 := Tryz.underlying167
  a37 := Tryz.isAgg167
  z37 := Tryz.sizeOf167
  v37 := Tryz.zeroValue167
  t46 := Tryz.underlying191
  a46 := Tryz.isAgg191
  z46 := Tryz.sizeOf191
  v46 := Tryz.zeroValue191
  t51 := Tryz.underlying218
  a51 := Tryz.isAgg218
  z51 := Tryz.sizeOf218
  v51 := Tryz.zeroValue218
  t53 := Tryz.underlying163
  a53 := Tryz.isAgg163
  z53 := Tryz.sizeOf163
  v53 := Tryz.zeroValue163
  t75 := Tryz.underlying171
  a75 := Tryz.isAgg171
  z75 := Tryz.sizeOf171
  v75 := Tryz.zeroValue171
  t85 := Tryz.underlying172
  a85 := Tryz.isAgg172
  z85 := Tryz.sizeOf172
  v85 := Tryz.zeroValue172
  t127 := Tryz.underlying205
  a127 := Tryz.isAgg205
  z127 := Tryz.sizeOf205
  v127 := Tryz.zeroValue205
  t143 := Tryz.underlying206
  a143 := Tryz.isAgg206
  z143 := Tryz.sizeOf206
  v143 := Tryz.zeroValue206
  t145 := Tryz.underlying208
  a145 := Tryz.isAgg208
  z145 := Tryz.sizeOf208
  v145 := Tryz.zeroValue208
  t167 := Tryz.underlying188
  a167 := Tryz.isAgg188
  z167 := Tryz.sizeOf188
  v167 := Tryz.zeroValue188
  t168 := Tryz.underlying192
  a168 := Tryz.isAgg192
  z168 := Tryz.sizeOf192
  v168 := Tryz.zeroValue192
  t171 := Tryz.underlying210
  a171 := Tryz.isAgg210
  z171 := Tryz.sizeOf210
  v171 := Tryz.zeroValue210
  t173 := Tryz.underlying213
  a173 := Tryz.isAgg213
  z173 := Tryz.sizeOf213
  v173 := Tryz.zeroValue213
  t175 := Tryz.underlying189
  a175 := Tryz.isAgg189
  z175 := Tryz.sizeOf189
  v175 := Tryz.zeroValue189
  t210 := Tryz.underlying201
  a210 := Tryz.isAgg201
  z210 := Tryz.sizeOf201
  v210 := Tryz.zeroValue201
  t212 := Tryz.underlying217
  a212 := Tryz.isAgg217
  z212 := Tryz.sizeOf217
  v212 := Tryz.zeroValue217
  t213 := Tryz.underlying219
  a213 := Tryz.isAgg219
  z213 := Tryz.sizeOf219
  t232 := Tryz.underlying223
  a232 := Tryz.isAgg223
  z232 := Tryz.sizeOf223
  v232 := Tryz.zeroValue223
  t233 := Tryz.underlying224
  a233 := Tryz.isAgg224
  z233 := Tryz.sizeOf224
  v233 := Tryz.zeroValue224
  g15 := by kernel_rfl
  g16 := by kernel_rfl
  g17 := by kernel_rfl
  g18 := by kernel_rfl
  g19 := by kernel_rfl
  t80 := Tryz.underlying225
  a80 := Tryz.isAgg225
  z80 := Tryz.sizeOf225
  v80 := Tryz.zeroValue225
  i0 := by kernel_rfl
  i2 := by kernel_rfl
  i3 := by kernel_rfl
  i4 := by kernel_rfl
  i5 := by kernel_rfl
  i9 := by kernel_rfl
  i20 := by kernel_rfl
  i21 := by kernel_rfl
  i37 := by kernel_rfl
  i46 := by kernel_rfl
  i51 := by kernel_rfl
  i53 := by kernel_rfl
  i75 := by kernel_rfl
  i80 := by kernel_rfl
  i85 := by kernel_rfl
  i127 := by kernel_rfl
  i143 := by kernel_rfl
  i145 := by kernel_rfl
  i167 := by kernel_rfl
  i168 := by kernel_rfl
  i171 := by kernel_rfl
  i173 := by kernel_rfl
  i175 := by kernel_rfl
  i210 := by kernel_rfl
  i212 := by kernel_rfl
  i232 := by kernel_rfl
  i233 := by kernel_rfl
  m15 := by kernel_rfl
  m16 := by kernel_rfl
  m17 := by kernel_rfl
  m18 := by kernel_rfl
  m19 := by kernel_rfl
  c0 := by kernel_rfl
  c2 := by kernel_rfl
  c3 := by kernel_rfl
  c4 := by kernel_rfl
  c5 := by kernel_rfl
  c9 := by kernel_rfl
  c20 := by kernel_rfl
  c21 := by kernel_rfl
  c37 := by kernel_rfl
  c46 := by kernel_rfl
  c51 := by kernel_rfl
  c53 := by kernel_rfl
  c75 := by kernel_rfl
  c80 := by kernel_rfl
  c85 := by kernel_rfl
  c127 := by kernel_rfl
  c143 := by kernel_rfl
  c145 := by kernel_rfl
  c167 := by kernel_rfl
  c168 := by kernel_rfl
  c171 := by kernel_rfl
  c173 := by kernel_rfl
  c175 := by kernel_rfl
  c210 := by kernel_rfl
  c212 := by kernel_rfl
  c213 := by kernel_rfl
  c232 := by kernel_rfl
  c233 := by kernel_rfl }
open Go.RowKit in
/-- strconv.ParseInt(s, 10, 64), AT EVERY STRING THAT SPELLS AN int64 ('Lib.parseIntB 64 s.data.toList = .ok v'): v, AND NO ERROR. (LAID: no walk: one application.) -/
theorem Tryz.strconv_ParseInt_10_at64_ok (s : ByteArray) (hmax : s.size ≤ 9223372036854775806) (v : Int) (h : Lib.parseIntB 64 s.data.toList = .ok v) (w : World) :
    Calls Tryz.prog 114 #[.string s, .int .i64 10, .int .i64 64] w fun e w' => e = .returned (.tuple #[.int .i64 v, .nilIface]) ∧ (w' = w ∨ ∃ t, w' = Lib.bytesWorld w 5 t) := Any.strconv_ParseInt_10_at64_ok Tryz.laysC174 s hmax v h w
open Go.RowKit in
open Go.RowKit in
theorem Tryz.strconv_ParseInt_10_at64_range_var (s : ByteArray) (hlim : s.size ≤ 281474976710656) (h : Lib.parseIntB 64 s.data.toList = .range) (tp : TypeId) (p : Value) (w : World) (hvar : w.var? Tryz.prog "strconv.ErrRange" = some #[.iface tp p]) :
    Calls Tryz.prog 114 #[.string s, .int .i64 10, .int .i64 64] w fun e w' => ∃ N, e = .returned (.tuple #[.int .i64 (Lib.intSat 64 s.data.toList), .iface 192 (.pointer (some ⟨N, 0, none⟩))]) ∧ w.heap.size ≤ N ∧ w'.heap[N]? = some (.cells #[.string ⟨#[80, 97, 114, 115, 101, 73, 110, 116]⟩, .string s, .iface tp p] 201 (0, 0)) ∧ Below w.heap.size w w' := Any.strconv_ParseInt_10_at64_range_var Tryz.laysC174 s hlim h tp p w hvar
def Tryz.lays99_ren : Go.Shelf.Ren := ⟨fun | 99 => 111 | 206 => 127 | n => n, fun | 9 => 9 | 4 => 4 | 3 => 3 | n => n, fun | n => n⟩
theorem Tryz.lays99 : Go.Proofs.Lays.n99 Tryz.prog Tryz.lays99_ren := {
  mixed := by kernel_rfl
  f99 := Tryz.func111.trans (congrArg some (by kernel_rfl))
  f206 := Tryz.func127.trans (congrArg some (by kernel_rfl))
  t3 := Tryz.underlying3
  a3 := Tryz.isAgg3
  z3 := Tryz.sizeOf3
  v3 := Tryz.zeroValue3
  t4 := Tryz.underlying4
  a4 := Tryz.isAgg4
  z4 := Tryz.sizeOf4
  v4 := Tryz.zeroValue4
  t9 := Tryz.underlying9
  a9 := Tryz.isAgg9
  z9 := Tryz.sizeOf9
  v9 := Tryz.zeroValue9 }
open Go.RowKit Go.Lib in
/-- strings.HasPrefix: "HasPrefix reports whether the string s begins with prefix.": IT RETURNS 'Lib.hasPrefix s prefix'; the world is as it was. (LAID: no walk: one application.) -/
theorem Tryz.strings_HasPrefix (s p : ByteArray) (w : World) :
    Calls Tryz.prog 111 #[.string s, .string p] w fun e w' => e = .returned (.bool (Lib.hasPrefix s.data.toList p.data.toList)) ∧ w' = w := Any.strings_HasPrefix Tryz.lays99 s p w
end Go.Proofs
/- Package lex: its small functions on bytes. -/
namespace Go.Proofs.YtaojalicnnnkmaaGreatDoor
open Go.RowKit

theorem u8_all {f g : UInt8 → Bool} (h : ((List.range 256).all fun n => f (UInt8.ofNat n) == g (UInt8.ofNat n)) = true) (c : UInt8) : f c = g c := by
  have h1 := List.all_eq_true.1 h c.toNat (List.mem_range.2 c.toNat_lt)
  have e : UInt8.ofNat c.toNat = c := by simp
  rw [e] at h1
  exact eq_of_beq h1
theorem small_eq : ∀ c, smallB c = (decide (97 ≤ (c.toNat : Int)) && decide ((c.toNat : Int) ≤ 122)) := u8_all (by decide +kernel)
theorem great_eq : ∀ c, greatB c = ((decide (65 ≤ (c.toNat : Int)) && decide ((c.toNat : Int) ≤ 90)) || ((c.toNat : Int) == 95)) := u8_all (by decide +kernel)
theorem digit_eq : ∀ c, digitB c = (decide (48 ≤ (c.toNat : Int)) && decide ((c.toNat : Int) ≤ 57)) := u8_all (by decide +kernel)
def shownB (c : UInt8) : Bool := decide (32 ≤ c) && decide (c ≤ 126)
theorem shown_eq : ∀ c, shownB c = (decide (32 ≤ (c.toNat : Int)) && decide ((c.toNat : Int) ≤ 126)) := u8_all (by decide +kernel)
def lineB (c : UInt8) : Bool := c != 10
theorem line_eq : ∀ c, lineB c = ((c.toNat : Int) != 10) := u8_all (by decide +kernel)
def soloB (c : UInt8) : Bool := c == 59 || c == 33
def markB (c : UInt8) : Bool := [40, 41, 91, 93, 123, 125, 44, 124].contains c
def amongB (l : List UInt8) (c : UInt8) : Bool := decide (0 ≤ Lib.indexByte l c)
theorem among_blank : ∀ c, amongB [32, 9, 10, 13] c = blankB c := u8_all (by decide +kernel)
theorem among_sym : ∀ c, amongB [43, 45, 42, 47, 92, 94, 60, 62, 61, 126, 58, 46, 63, 64, 35, 38, 36] c = symB c := u8_all (by decide +kernel)
theorem among_solo : ∀ c, amongB [59, 33] c = soloB c := u8_all (by decide +kernel)
theorem among_mark : ∀ c, amongB [40, 41, 91, 93, 123, 125, 44, 124] c = markB c := u8_all (by decide +kernel)

theorem small_any (c : UInt8) (w : World) : Calls Tryz.prog 105 #[.int .u8 c.toNat] w fun e w' => e = .returned (.bool (smallB c)) ∧ w = w' := by
  go_enter Tryz.func105, Tryz.ntmps105
  go_wp2
  all_goals go_ret
  all_goals exact ⟨ret_bool (by rw [small_eq]; simp_all; try omega), rfl⟩
theorem great_any (c : UInt8) (w : World) : Calls Tryz.prog 107 #[.int .u8 c.toNat] w fun e w' => e = .returned (.bool (greatB c)) ∧ w = w' := by
  have hg := great_eq c
  cases h1 : decide (65 ≤ (c.toNat : Int)) <;> cases h2 : decide ((c.toNat : Int) ≤ 90) <;> cases h3 : ((c.toNat : Int) == 95)
  all_goals
    rw [h1, h2, h3] at hg
    have HG := Lib.hid hg
    clear hg
    simp only [decide_eq_true_eq, decide_eq_false_iff_not] at h1 h2
    go_enter Tryz.func107, Tryz.ntmps107
    go_wp2
    go_ret
    exact ⟨ret_bool (by rw [HG.out]; rfl), rfl⟩
theorem digit_any (c : UInt8) (w : World) : Calls Tryz.prog 108 #[.int .u8 c.toNat] w fun e w' => e = .returned (.bool (digitB c)) ∧ w = w' := by
  go_enter Tryz.func108, Tryz.ntmps108
  go_wp2
  all_goals go_ret
  all_goals exact ⟨ret_bool (by rw [digit_eq]; simp_all; try omega), rfl⟩
theorem shown_any (c : UInt8) (w : World) : Calls Tryz.prog 113 #[.int .u8 c.toNat] w fun e w' => e = .returned (.bool (shownB c)) ∧ w = w' := by
  go_enter Tryz.func113, Tryz.ntmps113
  go_wp2
  all_goals go_ret
  all_goals exact ⟨ret_bool (by rw [shown_eq]; simp_all; try omega), rfl⟩
theorem line_any (c : UInt8) (w : World) : Calls Tryz.prog 92 #[.int .u8 c.toNat] w fun e w' => e = .returned (.bool (lineB c)) ∧ w = w' := by
  go_enter Tryz.func92, Tryz.ntmps92
  go_wp2
  all_goals go_ret
  all_goals exact ⟨ret_bool (by rw [line_eq]), rfl⟩
theorem word_any (c : UInt8) (w : World) : Calls Tryz.prog 106 #[.int .u8 c.toNat] w fun e w' => e = .returned (.bool (wordB c)) ∧ w = w' := by
  have hw : wordB c = (smallB c || greatB c || digitB c) := rfl
  have HW := Lib.hid hw
  clear hw
  have A := fun w => small_any c w
  have B := fun w => great_any c w
  have D := fun w => digit_any c w
  generalize smallB c = x at A HW
  generalize greatB c = y at B HW
  generalize digitB c = z at D HW
  cases x
  · cases y
    · go_enter Tryz.func106, Tryz.ntmps106
      go_wp2_with (first | (go_at_call 105; go_fit (A _); rintro e w' ⟨rfl, rfl⟩) | (go_at_call 107; go_fit (B _); rintro e w' ⟨rfl, rfl⟩) | (go_at_call 108; go_fit (D _); rintro e w' ⟨rfl, rfl⟩))
      go_ret
      exact ⟨ret_bool (by rw [HW.out]; rfl), rfl⟩
    · go_enter Tryz.func106, Tryz.ntmps106
      go_wp2_with (first | (go_at_call 105; go_fit (A _); rintro e w' ⟨rfl, rfl⟩) | (go_at_call 107; go_fit (B _); rintro e w' ⟨rfl, rfl⟩) | (go_at_call 108; go_fit (D _); rintro e w' ⟨rfl, rfl⟩))
      go_ret
      exact ⟨ret_bool (by rw [HW.out]; rfl), rfl⟩
  · go_enter Tryz.func106, Tryz.ntmps106
    go_wp2_with (first | (go_at_call 105; go_fit (A _); rintro e w' ⟨rfl, rfl⟩) | (go_at_call 107; go_fit (B _); rintro e w' ⟨rfl, rfl⟩) | (go_at_call 108; go_fit (D _); rintro e w' ⟨rfl, rfl⟩))
    go_ret
    exact ⟨ret_bool (by rw [HW.out]; rfl), rfl⟩
theorem among_any (t : ByteArray) (c : UInt8) (w : World) : Calls Tryz.prog 90 #[.string t, .int .u8 c.toNat] w fun e w' => e = .returned (.bool (amongB (bl t) c)) ∧ w = w' := by
  have I := fun w => (Tryz.strings_IndexByte t c.toNat w)
  have e : (Int.toNat (c.toNat : Int)).toUInt8 = c := by simp
  simp only [e] at I
  have hi : amongB (bl t) c = decide (0 ≤ Lib.indexByte t.data.toList c) := rfl
  have HI := Lib.hid hi
  clear hi
  generalize Lib.indexByte t.data.toList c = z at I HI
  by_cases hz : 0 ≤ z
  all_goals
    go_enter Tryz.func90, Tryz.ntmps90
    go_wp2_with (go_at_call 104; go_fit (I _); rintro e w' ⟨rfl, rfl⟩)
    go_ret
    exact ⟨ret_bool (by rw [HI.out] <;> simp [hz]), rfl⟩
theorem blank_any (c : UInt8) (w : World) : Calls Tryz.prog 90 #[.string ⟨#[32, 9, 10, 13]⟩, .int .u8 c.toNat] w fun e w' => e = .returned (.bool (blankB c)) ∧ w = w' := by
  rw [← among_blank]; exact among_any ⟨#[32, 9, 10, 13]⟩ c w
theorem sym_any (c : UInt8) (w : World) : Calls Tryz.prog 90 #[.string ⟨#[43, 45, 42, 47, 92, 94, 60, 62, 61, 126, 58, 46, 63, 64, 35, 38, 36]⟩, .int .u8 c.toNat] w fun e w' => e = .returned (.bool (symB c)) ∧ w = w' := by
  rw [← among_sym]; exact among_any ⟨#[43, 45, 42, 47, 92, 94, 60, 62, 61, 126, 58, 46, 63, 64, 35, 38, 36]⟩ c w
theorem solo_any (c : UInt8) (w : World) : Calls Tryz.prog 90 #[.string ⟨#[59, 33]⟩, .int .u8 c.toNat] w fun e w' => e = .returned (.bool (soloB c)) ∧ w = w' := by
  rw [← among_solo]; exact among_any ⟨#[59, 33]⟩ c w
theorem mark_any (c : UInt8) (w : World) : Calls Tryz.prog 90 #[.string ⟨#[40, 41, 91, 93, 123, 125, 44, 124]⟩, .int .u8 c.toNat] w fun e w' => e = .returned (.bool (markB c)) ∧ w = w' := by
  rw [← among_mark]; exact among_any ⟨#[40, 41, 91, 93, 123, 125, 44, 124]⟩ c w
theorem prefix_any (s p : ByteArray) (w : World) : Calls Tryz.prog 111 #[.string s, .string p] w fun e w' => e = .returned (.bool (Lib.hasPrefix (bl s) (bl p))) ∧ w = w' :=
  (Tryz.strings_HasPrefix s p w).mono fun _ _ h => ⟨h.1, h.2.symm⟩

/-- How many bytes of a kind stand from a place on. -/
def twK (p : UInt8 → Bool) (l : List UInt8) (k : Nat) : Nat := ((l.drop k).takeWhile p).length
theorem tw_in {p : UInt8 → Bool} {l : List UInt8} {k : Nat} (h : k < l.length) (hp : p l[k] = true) : twK p l k = twK p l (k + 1) + 1 := by
  unfold twK
  rw [List.drop_eq_getElem_cons h, List.takeWhile_cons, if_pos hp]
  rfl
theorem tw_out {p : UInt8 → Bool} {l : List UInt8} {k : Nat} (h : k < l.length) (hp : p l[k] = false) : twK p l k = 0 := by
  unfold twK
  rw [List.drop_eq_getElem_cons h, List.takeWhile_cons, if_neg (by simp [hp])]
  rfl
theorem tw_end {p : UInt8 → Bool} {l : List UInt8} {k : Nat} (h : l.length ≤ k) : twK p l k = 0 := by
  unfold twK
  rw [List.drop_eq_nil_of_le h]; rfl
end Go.Proofs.YtaojalicnnnkmaaGreatDoor
/- Package lex: as many bytes of a kind as follow; what is passed over; the end. -/
namespace Go.Proofs.YtaojalicnnnkmaaGreatDoor
open Go.RowKit

theorem run_word (s : ByteArray) (i : Nat) (w : World) (hi : i ≤ s.size) (hs : s.size ≤ 140737488351232) : Calls Tryz.prog 91 #[.string s, .int .i64 i, .func (.func 106) #[] #[]] w fun e w' => e = .returned (.int .i64 ((i + twK wordB (bl s) i : Nat) : Int)) ∧ w = w' := by
  have hT : ∃ T, i + twK wordB (bl s) i = T := ⟨_, rfl⟩
  obtain ⟨T, hT⟩ := hT
  rw [hT]
  have HT := Lib.hid hT
  clear hT
  go_enter Tryz.func91, Tryz.ntmps91
  go_wp2
  go_loop [1] (fun v => ∃ k : Nat, k ≤ s.size ∧ v = .int .i64 k ∧ k + twK wordB (bl s) k = T) (fun v => s.size - (intOf v).toNat)
  case atStart => exact ⟨i, hi, rfl, HT.out⟩
  case round =>
    obtain ⟨k, hk, rfl, hkT⟩ := hrel
    have HK := Lib.hid hkT
    clear hkT
    by_cases hlt : k < s.size
    · cases hp : wordB s[k]
      · have he := tw_out (l := bl s) (p := wordB) (k := k) hlt hp
        have HE := Lib.hid he
        clear he
        go_wp2_with (go_at_call 106; go_fit (word_any _ _); rintro e w' ⟨rfl, rfl⟩)
        go_ret
        exact ⟨ret_int (by have := HK.out; rw [HE.out] at this; omega), rfl⟩
      · have he := tw_in (l := bl s) (p := wordB) (k := k) hlt hp
        have HE := Lib.hid he
        clear he
        go_wp2_with (go_at_call 106; go_fit (word_any _ _); rintro e w' ⟨rfl, rfl⟩)
        go_round
        case rel => exact ⟨k + 1, by omega, by go_num, by have := HK.out; rw [HE.out] at this; omega⟩
        case measure => simp [intOf]; omega
    · have he := tw_end (l := bl s) (p := wordB) (k := k) (show s.size ≤ k by omega)
      have HE := Lib.hid he
      clear he
      go_wp2
      go_ret
      exact ⟨ret_int (by have := HK.out; rw [HE.out] at this; omega), rfl⟩
theorem run_digit (s : ByteArray) (i : Nat) (w : World) (hi : i ≤ s.size) (hs : s.size ≤ 140737488351232) : Calls Tryz.prog 91 #[.string s, .int .i64 i, .func (.func 108) #[] #[]] w fun e w' => e = .returned (.int .i64 ((i + twK digitB (bl s) i : Nat) : Int)) ∧ w = w' := by
  have hT : ∃ T, i + twK digitB (bl s) i = T := ⟨_, rfl⟩
  obtain ⟨T, hT⟩ := hT
  rw [hT]
  have HT := Lib.hid hT
  clear hT
  go_enter Tryz.func91, Tryz.ntmps91
  go_wp2
  go_loop [1] (fun v => ∃ k : Nat, k ≤ s.size ∧ v = .int .i64 k ∧ k + twK digitB (bl s) k = T) (fun v => s.size - (intOf v).toNat)
  case atStart => exact ⟨i, hi, rfl, HT.out⟩
  case round =>
    obtain ⟨k, hk, rfl, hkT⟩ := hrel
    have HK := Lib.hid hkT
    clear hkT
    by_cases hlt : k < s.size
    · cases hp : digitB s[k]
      · have he := tw_out (l := bl s) (p := digitB) (k := k) hlt hp
        have HE := Lib.hid he
        clear he
        go_wp2_with (go_at_call 108; go_fit (digit_any _ _); rintro e w' ⟨rfl, rfl⟩)
        go_ret
        exact ⟨ret_int (by have := HK.out; rw [HE.out] at this; omega), rfl⟩
      · have he := tw_in (l := bl s) (p := digitB) (k := k) hlt hp
        have HE := Lib.hid he
        clear he
        go_wp2_with (go_at_call 108; go_fit (digit_any _ _); rintro e w' ⟨rfl, rfl⟩)
        go_round
        case rel => exact ⟨k + 1, by omega, by go_num, by have := HK.out; rw [HE.out] at this; omega⟩
        case measure => simp [intOf]; omega
    · have he := tw_end (l := bl s) (p := digitB) (k := k) (show s.size ≤ k by omega)
      have HE := Lib.hid he
      clear he
      go_wp2
      go_ret
      exact ⟨ret_int (by have := HK.out; rw [HE.out] at this; omega), rfl⟩
theorem run_line (s : ByteArray) (i : Nat) (w : World) (hi : i ≤ s.size) (hs : s.size ≤ 140737488351232) : Calls Tryz.prog 91 #[.string s, .int .i64 i, .func (.func 92) #[] #[]] w fun e w' => e = .returned (.int .i64 ((i + twK lineB (bl s) i : Nat) : Int)) ∧ w = w' := by
  have hT : ∃ T, i + twK lineB (bl s) i = T := ⟨_, rfl⟩
  obtain ⟨T, hT⟩ := hT
  rw [hT]
  have HT := Lib.hid hT
  clear hT
  go_enter Tryz.func91, Tryz.ntmps91
  go_wp2
  go_loop [1] (fun v => ∃ k : Nat, k ≤ s.size ∧ v = .int .i64 k ∧ k + twK lineB (bl s) k = T) (fun v => s.size - (intOf v).toNat)
  case atStart => exact ⟨i, hi, rfl, HT.out⟩
  case round =>
    obtain ⟨k, hk, rfl, hkT⟩ := hrel
    have HK := Lib.hid hkT
    clear hkT
    by_cases hlt : k < s.size
    · cases hp : lineB s[k]
      · have he := tw_out (l := bl s) (p := lineB) (k := k) hlt hp
        have HE := Lib.hid he
        clear he
        go_wp2_with (go_at_call 92; go_fit (line_any _ _); rintro e w' ⟨rfl, rfl⟩)
        go_ret
        exact ⟨ret_int (by have := HK.out; rw [HE.out] at this; omega), rfl⟩
      · have he := tw_in (l := bl s) (p := lineB) (k := k) hlt hp
        have HE := Lib.hid he
        clear he
        go_wp2_with (go_at_call 92; go_fit (line_any _ _); rintro e w' ⟨rfl, rfl⟩)
        go_round
        case rel => exact ⟨k + 1, by omega, by go_num, by have := HK.out; rw [HE.out] at this; omega⟩
        case measure => simp [intOf]; omega
    · have he := tw_end (l := bl s) (p := lineB) (k := k) (show s.size ≤ k by omega)
      have HE := Lib.hid he
      clear he
      go_wp2
      go_ret
      exact ⟨ret_int (by have := HK.out; rw [HE.out] at this; omega), rfl⟩

/-- Does a full stop at this place end a term? -/
def endK (l : List UInt8) (i : Nat) : Bool := l[i]? == some 46 && endB (l.drop (i + 1))
theorem endK_at {l : List UInt8} {i : Nat} (h : i < l.length) : endK l i = (l[i] == 46 && endB (l.drop (i + 1))) := by
  unfold endK
  rw [List.getElem?_eq_getElem h]
  rfl
theorem sub_bl (s : ByteArray) (i : Nat) (h : i ≤ s.size) : bl (s.extract i s.size) = (bl s).drop i := by
  simp only [bl, ByteArray.data_extract, Array.toList_extract, List.extract_eq_take_drop]
  rw [List.take_of_length_le (by simp)]
end Go.Proofs.YtaojalicnnnkmaaGreatDoor
/- Package lex: the end; symbols. -/
namespace Go.Proofs.YtaojalicnnnkmaaGreatDoor
open Go.RowKit
set_option linter.unusedVariables false

theorem sub_ne (s : ByteArray) (i : Nat) (h : i < s.size) : (s.extract i s.size).toList ≠ [] := by
  rw [Lib.toList_data]
  show bl (s.extract i s.size) ≠ []
  rw [sub_bl s i (by omega)]
  intro e
  have h1 := congrArg List.length e
  rw [List.length_drop, bl_len] at h1
  simp at h1
  omega
theorem sub_get (s : ByteArray) (i : Nat) (h : i < s.size) (h0 : 0 < (s.extract i s.size).size) : (s.extract i s.size)[0] = s[i] := by
  simp only [ByteArray.getElem_extract]
  congr 1
theorem sub_size (s : ByteArray) (i : Nat) : (s.extract i s.size).size = s.size - i := by simp
theorem i64_u8 {c d : UInt8} (h : (c.toNat : Int) = (d.toNat : Int)) : c = d := UInt8.toNat_inj.1 (by omega)
theorem ends_other (s : ByteArray) (i : Nat) (w : World) (hi : i < s.size) (hs : s.size ≤ 140737488351232) (h : ((s[i].toNat : Int) != 46) = true) : Calls Tryz.prog 109 #[.string s, .int .i64 i] w fun e w' => e = .returned (.bool false) ∧ w = w' := by
  go_enter Tryz.func109, Tryz.ntmps109
  go_wp2
  go_ret
  exact ⟨rfl, rfl⟩
theorem ends_last (s : ByteArray) (i : Nat) (w : World) (hi : i + 1 = s.size) (hs : s.size ≤ 140737488351232) (h : (((s[i]'(by omega)).toNat : Int) != 46) = false) : Calls Tryz.prog 109 #[.string s, .int .i64 i] w fun e w' => e = .returned (.bool true) ∧ w = w' := by
  go_enter Tryz.func109, Tryz.ntmps109
  go_wp2
  go_ret
  exact ⟨rfl, rfl⟩
theorem ends_next (s : ByteArray) (i : Nat) (w : World) (hi : i + 1 < s.size) (hs : s.size ≤ 140737488351232) (h : (((s[i]'(by omega)).toNat : Int) != 46) = false) : Calls Tryz.prog 109 #[.string s, .int .i64 i] w fun e w' => e = .returned (.bool (blankB (s[i+1]) || s[i+1] == 37)) ∧ w = w' := by
  have hg := sub_get s (i + 1) hi (by rw [sub_size]; omega)
  have hn := sub_ne s (i + 1) hi
  have he : (s.extract (i + 1) s.size).toList.isEmpty = false := by
    cases h : (s.extract (i + 1) s.size).toList with
    | nil => exact absurd h hn
    | cons a r => rfl
  by_cases hd : s[i + 1] = 37
  · have hv : (s[i + 1].toNat : Int) = 37 := by rw [hd]; rfl
    have HD := Lib.hid (show (blankB s[i + 1] || s[i + 1] == 37) = true by rw [hd]; rfl)
    clear hd
    go_enter Tryz.func109, Tryz.ntmps109
    go_wp2_with (go_at_call 90; go_fit (blank_any _ _); rintro e w' ⟨rfl, rfl⟩)
    go_ret
    exact ⟨ret_bool (by rw [HD.out] <;> simp [hv]), rfl⟩
  · have hv : ¬ (s[i + 1].toNat : Int) = 37 := fun e => hd (i64_u8 (by rw [e]; rfl))
    have HD := Lib.hid (show (blankB s[i + 1] || s[i + 1] == 37) = blankB s[i + 1] by rw [beq_false_of_ne hd, Bool.or_false])
    clear hd
    go_enter Tryz.func109, Tryz.ntmps109
    go_wp2_with (go_at_call 90; go_fit (blank_any _ _); rintro e w' ⟨rfl, rfl⟩)
    go_ret
    exact ⟨ret_bool (by rw [HD.out] <;> simp [hv]), rfl⟩
theorem ends_any (s : ByteArray) (i : Nat) (w : World) (hi : i < s.size) (hs : s.size ≤ 140737488351232) : Calls Tryz.prog 109 #[.string s, .int .i64 i] w fun e w' => e = .returned (.bool (endK (bl s) i)) ∧ w = w' := by
  rw [endK_at (l := bl s) hi]
  rw [bl_get s i hi]
  cases h : ((s[i].toNat : Int) != 46)
  · have hc : (s[i] == 46) = true := by
      simp only [bne_eq_false_iff_eq] at h
      exact beq_iff_eq.2 (i64_u8 (by rw [h]; rfl))
    rw [hc, Bool.true_and]
    by_cases hl : i + 1 = s.size
    · have e : (bl s).drop (i + 1) = [] := List.drop_eq_nil_of_le (by rw [bl_len]; omega)
      rw [e]
      exact ends_last s i w hl hs h
    · have hl' : i + 1 < s.size := by omega
      have e : (bl s).drop (i + 1) = s[i + 1] :: (bl s).drop (i + 2) := List.drop_eq_getElem_cons (l := bl s) (by rw [bl_len]; exact hl')
      rw [e]
      exact ends_next s i w hl' hs h
  · have hc : (s[i] == 46) = false := by
      apply beq_false_of_ne
      intro e
      rw [e] at h
      exact absurd h (by decide)
    rw [hc, Bool.false_and]
    exact ends_other s i w hi hs h

/-- As many symbols as follow, from a place on. -/
def symK (l : List UInt8) (k : Nat) : Nat := symRun (l.drop k)
theorem symK_in {l : List UInt8} {k : Nat} (h : k < l.length) (hp : symB l[k] = true) (he : endK l k = false) : symK l k = symK l (k + 1) + 1 := by
  unfold symK
  rw [endK_at h] at he
  rw [List.drop_eq_getElem_cons h, symRun, hp, he]
  rfl
theorem symK_out {l : List UInt8} {k : Nat} (h : k < l.length) (hp : symB l[k] = false) : symK l k = 0 := by
  unfold symK
  rw [List.drop_eq_getElem_cons h, symRun, hp]
  rfl
theorem symK_stop {l : List UInt8} {k : Nat} (h : k < l.length) (he : endK l k = true) : symK l k = 0 := by
  unfold symK
  rw [endK_at h] at he
  rw [List.drop_eq_getElem_cons h, symRun, he, Bool.not_true, Bool.and_false]
  rfl
theorem symK_end {l : List UInt8} {k : Nat} (h : l.length ≤ k) : symK l k = 0 := by
  unfold symK
  rw [List.drop_eq_nil_of_le h]; rfl
theorem symbols_any (s : ByteArray) (i : Nat) (w : World) (hi : i ≤ s.size) (hs : s.size ≤ 140737488351232) : Calls Tryz.prog 110 #[.string s, .int .i64 i] w fun e w' => e = .returned (.int .i64 ((i + symK (bl s) i : Nat) : Int)) ∧ w = w' := by
  have hT : ∃ T, i + symK (bl s) i = T := ⟨_, rfl⟩
  obtain ⟨T, hT⟩ := hT
  rw [hT]
  have HT := Lib.hid hT
  clear hT
  go_enter Tryz.func110, Tryz.ntmps110
  go_wp2
  go_loop [1] (fun v => ∃ k : Nat, k ≤ s.size ∧ v = .int .i64 k ∧ k + symK (bl s) k = T) (fun v => s.size - (intOf v).toNat)
  case atStart => exact ⟨i, hi, rfl, HT.out⟩
  case round =>
    obtain ⟨k, hk, rfl, hkT⟩ := hrel
    have HK := Lib.hid hkT
    clear hkT
    by_cases hlt : k < s.size
    · have E := fun w => ends_any s k w hlt hs
      cases hp : symB s[k]
      · have he := symK_out (l := bl s) (k := k) hlt hp
        have HE := Lib.hid he
        clear he
        go_wp2_with (first | (go_at_call 90; go_fit (sym_any _ _); rintro e w' ⟨rfl, rfl⟩) | (go_at_call 109; go_fit (E _); rintro e w' ⟨rfl, rfl⟩))
        go_ret
        exact ⟨ret_int (by have := HK.out; rw [HE.out] at this; omega), rfl⟩
      · have he1 := symK_in (l := bl s) (k := k) hlt hp
        have he2 := symK_stop (l := bl s) (k := k) hlt
        have H1 := Lib.hid he1
        have H2 := Lib.hid he2
        clear he1 he2
        generalize endK (bl s) k = b at E H1 H2
        cases b
        · go_wp2_with (first | (go_at_call 90; go_fit (sym_any _ _); rintro e w' ⟨rfl, rfl⟩) | (go_at_call 109; go_fit (E _); rintro e w' ⟨rfl, rfl⟩))
          go_round
          case rel => exact ⟨k + 1, by omega, by go_num, by have := HK.out; rw [H1.out (by trivial)] at this; omega⟩
          case measure => simp [intOf]; omega
        · go_wp2_with (first | (go_at_call 90; go_fit (sym_any _ _); rintro e w' ⟨rfl, rfl⟩) | (go_at_call 109; go_fit (E _); rintro e w' ⟨rfl, rfl⟩))
          go_ret
          exact ⟨ret_int (by have := HK.out; rw [H2.out (by trivial)] at this; omega), rfl⟩
    · have he := symK_end (l := bl s) (k := k) (show s.size ≤ k by omega)
      have HE := Lib.hid he
      clear he
      go_wp2
      go_ret
      exact ⟨ret_int (by have := HK.out; rw [HE.out] at this; omega), rfl⟩
end Go.Proofs.YtaojalicnnnkmaaGreatDoor
/- Package lex: what is passed over; what a letter stands for; the value of digits. -/
namespace Go.Proofs.YtaojalicnnnkmaaGreatDoor
open Go.RowKit
set_option linter.unusedVariables false

/-- What is passed over from a place on. -/
def passK (l : List UInt8) (k : Nat) : Nat := passF (l.drop k)
theorem passK_blank {l : List UInt8} {k : Nat} (h : k < l.length) (hp : blankB l[k] = true) : passK l k = passK l (k + 1) + 1 := by
  unfold passK
  rw [List.drop_eq_getElem_cons h, passF_skip (k := 1) (by unfold nextC; rw [if_pos hp]) (Nat.le_refl _), List.drop_succ_cons, List.drop_zero, Nat.add_comm]
theorem passK_line {l : List UInt8} {k : Nat} (h : k < l.length) (hb : blankB l[k] = false) (hp : (l[k] == 37) = true) : passK l k = passK l (k + twK lineB l k) + twK lineB l k := by
  have hl : lineB l[k] = true := by
    have e : l[k] = 37 := by simpa using hp
    rw [e]; rfl
  rw [tw_in h hl]
  unfold passK twK
  rw [List.drop_eq_getElem_cons h]
  rw [passF_skip (k := ((l.drop (k + 1)).takeWhile lineB).length + 1) (by
    unfold nextC
    rw [if_neg (by simp [hb]), if_pos hp]
    rfl) (Nat.le_add_left _ _), ← List.drop_eq_getElem_cons h, List.drop_drop, Nat.add_comm]
theorem passK_stop {l : List UInt8} {k : Nat} (h : k < l.length) (hb : blankB l[k] = false) (hp : (l[k] == 37) = false) : passK l k = 0 := by
  unfold passK
  rw [List.drop_eq_getElem_cons h]
  refine passF_stop (fun j => ?_)
  unfold nextC
  rw [if_neg (by simp [hb]), if_neg (by simp [hp])]
  have nm : ∀ (n : Nat) (s : List UInt8), nameB n s ≠ .skip j := fun n s => by
    unfold nameB
    split
    · intro e; cases e
    · intro e; cases e
  split
  · exact nm _ _
  split
  · intro e; cases e
  split
  · split
    · intro e; cases e
    · intro e; cases e
  split
  · split
    · intro e; cases e
    · split
      · intro e; cases e
      · intro e; cases e
  split
  · intro e; cases e
  split
  · exact nm _ _
  split
  · exact nm _ _
  split
  · exact nm _ _
  split
  · intro e; cases e
  · intro e; cases e
theorem passK_end {l : List UInt8} {k : Nat} (h : l.length ≤ k) : passK l k = 0 := by
  unfold passK
  rw [List.drop_eq_nil_of_le h]; rfl
theorem tw_max (p : UInt8 → Bool) (l : List UInt8) (k : Nat) (h : k ≤ l.length) : k + twK p l k ≤ l.length := by
  have := tw_le p (l.drop k)
  rw [List.length_drop] at this
  unfold twK
  omega
theorem pass_any (s : ByteArray) (i : Nat) (w : World) (hi : i ≤ s.size) (hs : s.size ≤ 140737488351232) : Calls Tryz.prog 77 #[.string s, .int .i64 i] w fun e w' => e = .returned (.int .i64 ((i + passK (bl s) i : Nat) : Int)) ∧ w = w' := by
  have hT : ∃ T, i + passK (bl s) i = T := ⟨_, rfl⟩
  obtain ⟨T, hT⟩ := hT
  rw [hT]
  have HT := Lib.hid hT
  clear hT
  go_enter Tryz.func77, Tryz.ntmps77
  go_wp2
  go_loop [1] (fun v => ∃ k : Nat, k ≤ s.size ∧ v = .int .i64 k ∧ k + passK (bl s) k = T) (fun v => s.size - (intOf v).toNat)
  case atStart => exact ⟨i, hi, rfl, HT.out⟩
  case round =>
    obtain ⟨k, hk, rfl, hkT⟩ := hrel
    have HK := Lib.hid hkT
    clear hkT
    by_cases hlt : k < s.size
    · cases hp : blankB s[k]
      · cases hc : (s[k] == 37)
        · have he := passK_stop (l := bl s) (k := k) hlt hp hc
          have HE := Lib.hid he
          clear he
          have hv : ((s[k].toNat : Int) == 37) = false := by
            apply beq_false_of_ne
            intro e
            have : s[k] = 37 := i64_u8 (by rw [e]; rfl)
            rw [this] at hc
            cases hc
          go_wp2_with (go_at_call 90; go_fit (blank_any _ _); rintro e w' ⟨rfl, rfl⟩)
          go_ret
          exact ⟨ret_int (by have := HK.out; rw [HE.out] at this; omega), rfl⟩
        · have he := passK_line (l := bl s) (k := k) hlt hp hc
          have hl : lineB s[k] = true := by
            have e : s[k] = 37 := by simpa using hc
            rw [e]; rfl
          have ht := tw_in (p := lineB) (l := bl s) (k := k) hlt hl
          have hm := tw_max lineB (bl s) k hk
          rw [bl_len] at hm
          have R := fun w => run_line s k w hk hs
          have hv : (s[k].toNat : Int) = 37 := by
            have e : s[k] = 37 := by simpa using hc
            rw [e]; rfl
          obtain ⟨j, hj⟩ : ∃ j, k + twK lineB (bl s) k = j := ⟨_, rfl⟩
          rw [hj] at R he hm
          have HE := Lib.hid (show j + passK (bl s) j = T by have := HK.out; omega)
          have HJ := Lib.hid (show k < j by omega)
          clear he ht hj HK
          have B := fun w => blank_any 37 w
          rw [show (((37 : UInt8).toNat : Nat) : Int) = 37 from rfl, show blankB 37 = false from rfl] at B
          go_wp2_with (first | (go_at_call 90; go_fit (B _); rintro e w' ⟨rfl, rfl⟩) | (go_at_call 91; go_fit (R _); rintro e w' ⟨rfl, rfl⟩))
          go_round
          case rel => exact ⟨j, hm, rfl, HE.out⟩
          case measure => have := HJ.out; simp [intOf]; omega
      · have he := passK_blank (l := bl s) (k := k) hlt hp
        have HE := Lib.hid he
        clear he
        go_wp2_with (go_at_call 90; go_fit (blank_any _ _); rintro e w' ⟨rfl, rfl⟩)
        go_round
        case rel => exact ⟨k + 1, by omega, by go_num, by have := HK.out; rw [HE.out] at this; omega⟩
        case measure => simp [intOf]; omega
    · have he := passK_end (l := bl s) (k := k) (show s.size ≤ k by omega)
      have HE := Lib.hid he
      clear he
      go_wp2
      go_ret
      exact ⟨ret_int (by have := HK.out; rw [HE.out] at this; omega), rfl⟩

theorem u8_ne {c d : UInt8} (h : (c == d) = false) : ((c.toNat : Int) == (d.toNat : Int)) = false := by
  apply beq_false_of_ne
  intro e
  rw [i64_u8 e] at h
  simp at h
end Go.Proofs.YtaojalicnnnkmaaGreatDoor
/- How digits read as a number: the value, or too great. Nothing here is walked. -/
namespace Go.Proofs.YtaojalicnnnkmaaGreatDoor

theorem num_mono : ∀ (l : List UInt8) (a : Nat), a ≤ l.foldl (fun n c => n * 10 + (c.toNat - 48)) a
  | [], a => Nat.le_refl _
  | c :: r, a => by
    rw [List.foldl_cons]
    exact Nat.le_trans (by omega) (num_mono r _)
theorem digit_nat {c : UInt8} (h : digitB c = true) : 48 ≤ c.toNat ∧ c.toNat ≤ 57 := by
  rw [digit_eq] at h
  simp at h
  omega
theorem uint_val : ∀ (l : List UInt8) (a : Nat), l.all digitB = true → a < 18446744073709551616 →
    Lib.parseUint10 a l = if l.foldl (fun n c => n * 10 + (c.toNat - 48)) a < 18446744073709551616 then .ok (l.foldl (fun n c => n * 10 + (c.toNat - 48)) a) else .range
  | [], a, _, ha => by
    rw [Lib.parseUint10, List.foldl_nil, if_pos ha]
  | c :: r, a, h, ha => by
    simp only [List.all_cons, Bool.and_eq_true] at h
    have hm := num_mono r (a * 10 + (c.toNat - 48))
    rw [Lib.parseUint10, if_pos (digit_nat h.1), List.foldl_cons]
    by_cases h1 : 1844674407370955162 ≤ a
    · rw [if_pos h1, if_neg (by omega)]
    rw [if_neg h1]
    by_cases h2 : 18446744073709551616 ≤ a * 10 + (c.toNat - 48)
    · rw [if_pos h2, if_neg (by omega)]
    rw [if_neg h2]
    exact uint_val r _ h.2 (by omega)
theorem int_val {l : List UInt8} (h : l.all digitB = true) (hne : l ≠ []) : Lib.parseIntB 64 l = if numB l ≤ 9223372036854775807 then .ok (numB l : Int) else .range := by
  rw [Lib.parseIntB_64]
  cases l with
  | nil => exact absurd rfl hne
  | cons c r =>
    have hd := digit_nat (List.all_eq_true.1 h c (by simp))
    have hu := uint_val (c :: r) 0 h (by omega)
    unfold numB
    obtain ⟨v, hv⟩ : ∃ v, (c :: r).foldl (fun n c => n * 10 + (c.toNat - 48)) 0 = v := ⟨_, rfl⟩
    rw [hv] at hu ⊢
    have hm : Lib.parseMag (c :: r) = if v < 18446744073709551616 then .ok v else .range := by
      unfold Lib.parseMag
      rw [if_neg (by simp), hu]
    simp only [Lib.atoiAll]
    rw [if_neg (by omega), hm]
    by_cases h1 : v < 18446744073709551616
    · rw [if_pos h1]
      simp only
      by_cases h2 : v ≤ 9223372036854775807
      · rw [if_neg (by omega), if_neg (by omega), if_neg (by omega), if_pos h2]
      · rw [if_pos (by omega), if_neg h2]
    · rw [if_neg h1, if_neg (by omega)]
end Go.Proofs.YtaojalicnnnkmaaGreatDoor
/- Package lex: what a letter behind a '\' stands for; the value of digits; rows of bytes. -/
namespace Go.Proofs.YtaojalicnnnkmaaGreatDoor
open Go.RowKit
set_option linter.unusedVariables false

def escH : List UInt8 → Option UInt8
  | [] => none
  | d :: _ => escB d
theorem meant_empty (w : World) : Calls Tryz.prog 112 #[.string ⟨#[]⟩] w fun e w' => e = .returned (.tuple #[.int .u8 0, .bool false]) ∧ w = w' := by
  go_enter Tryz.func112, Tryz.ntmps112
  go_wp2
  go_ret2
  exact ⟨rfl, rfl⟩
theorem ne_of_pos {q : ByteArray} (h : 0 < q.size) : q.toList.isEmpty = false := by
  rw [Lib.toList_data]
  have h2 : q.data.toList.length = q.size := rfl
  cases hq : q.data.toList with
  | nil => rw [hq] at h2; simp at h2; omega
  | cons a r => rfl
theorem meant_some (q : ByteArray) (d : UInt8) (w : World) (h : escH (bl q) = some d) (hs : q.size ≤ 140737488351232) : Calls Tryz.prog 112 #[.string q] w fun e w' => e = .returned (.tuple #[.int .u8 d.toNat, .bool true]) ∧ w = w' := by
  have hp : 0 < q.size := by
    rcases Nat.eq_zero_or_pos q.size with h0 | h0
    · rw [bl_nil h0] at h; cases h
    · exact h0
  have hh : escB q[0] = some d := by
    have e : bl q = q[0] :: (bl q).drop 1 := by
      have := List.drop_eq_getElem_cons (l := bl q) (i := 0) hp
      rw [List.drop_zero] at this
      exact this
    rw [e] at h
    exact h
  have hne := ne_of_pos hp
  clear h
  unfold escB at hh
  split at hh
  · rename_i hc
    have hv : (q[0].toNat : Int) = 110 := by rw [show q[0] = 110 by simpa using hc]; rfl
    cases hh
    clear hc
    go_enter Tryz.func112, Tryz.ntmps112
    go_wp2
    go_ret2
    exact ⟨rfl, rfl⟩
  split at hh
  · rename_i hc
    have hv : (q[0].toNat : Int) = 116 := by rw [show q[0] = 116 by simpa using hc]; rfl
    cases hh
    clear hc
    go_enter Tryz.func112, Tryz.ntmps112
    go_wp2
    go_ret2
    exact ⟨rfl, rfl⟩
  split at hh
  · rename_i hc
    have hv : (q[0].toNat : Int) = 92 := by rw [show q[0] = 92 by simpa using hc]; rfl
    cases hh
    clear hc
    go_enter Tryz.func112, Tryz.ntmps112
    go_wp2
    go_ret2
    exact ⟨rfl, rfl⟩
  split at hh
  · rename_i hc
    have hv : (q[0].toNat : Int) = 39 := by rw [show q[0] = 39 by simpa using hc]; rfl
    cases hh
    clear hc
    go_enter Tryz.func112, Tryz.ntmps112
    go_wp2
    go_ret2
    exact ⟨rfl, rfl⟩
  · cases hh
theorem meant_none (q : ByteArray) (w : World) (h : escH (bl q) = none) (hs : q.size ≤ 140737488351232) : Calls Tryz.prog 112 #[.string q] w fun e w' => e = .returned (.tuple #[.int .u8 0, .bool false]) ∧ w = w' := by
  by_cases h0 : q.size = 0
  · obtain rfl : q = ⟨#[]⟩ := bl_inj (bl_nil h0)
    exact meant_empty w
  have hp : 0 < q.size := by omega
  have hh : escB q[0] = none := by
    have e : bl q = q[0] :: (bl q).drop 1 := by
      have := List.drop_eq_getElem_cons (l := bl q) (i := 0) hp
      rw [List.drop_zero] at this
      exact this
    rw [e] at h
    exact h
  have hne := ne_of_pos hp
  clear h
  unfold escB at hh
  cases h1 : (q[0] == 110)
  · cases h2 : (q[0] == 116)
    · cases h3 : (q[0] == 92)
      · cases h4 : (q[0] == 39)
        · have g1 := u8_ne h1
          have g2 := u8_ne h2
          have g3 := u8_ne h3
          have g4 := u8_ne h4
          have e1 : ((110 : UInt8).toNat : Int) = 110 := rfl
          have e2 : ((116 : UInt8).toNat : Int) = 116 := rfl
          have e3 : ((92 : UInt8).toNat : Int) = 92 := rfl
          have e4 : ((39 : UInt8).toNat : Int) = 39 := rfl
          rw [e1] at g1
          rw [e2] at g2
          rw [e3] at g3
          rw [e4] at g4
          clear hh h1 h2 h3 h4 e1 e2 e3 e4
          go_enter Tryz.func112, Tryz.ntmps112
          go_wp2
          go_ret2
          exact ⟨rfl, rfl⟩
        · rw [h1, h2, h3, h4] at hh; cases hh
      · rw [h1, h2, h3] at hh; cases hh
    · rw [h1, h2] at hh; cases hh
  · rw [h1] at hh; cases hh

theorem gRange : Tryz.prog.globalNamed "strconv.ErrRange" = some 2 := by kernel_rfl
/-- strconv's ErrRange is an error. -/
def Err (w : World) : Prop := ∃ tp p, w.var? Tryz.prog "strconv.ErrRange" = some #[.iface tp p]
theorem Err.ext {w w' : World} (h : Err w) (hb : Below w.heap.size w w') : Err w' := by
  obtain ⟨tp, p, h⟩ := h
  exact ⟨tp, p, Joins.var_stays gRange h hb (Nat.le_refl _)⟩
theorem parseInt_ok (s : ByteArray) {w : World} {v : Int} (hs : s.size ≤ 140737488351232) (h : Lib.parseIntB 64 (bl s) = .ok v) : Calls Tryz.prog 114 #[.string s, .int .i64 10, .int .i64 64] w fun e w' => e = .returned (.tuple #[.int .i64 v, .nilIface]) ∧ Below w.heap.size w w' :=
  (Tryz.strconv_ParseInt_10_at64_ok s (by omega) v h w).mono fun e w' h => ⟨h.1, by
    rcases h.2 with rfl | ⟨t, rfl⟩
    · exact Below.refl _ _
    · exact Lib.bytesWorld_below _ _ _⟩
theorem parseInt_range (s : ByteArray) {w : World} (he : Err w) (hs : s.size ≤ 140737488351232) (h : Lib.parseIntB 64 (bl s) = .range) : Calls Tryz.prog 114 #[.string s, .int .i64 10, .int .i64 64] w fun e w' => (∃ (x : Int) (t : TypeId) (q : Value), e = .returned (.tuple #[.int .i64 x, .iface t q])) ∧ Below w.heap.size w w' := by
  obtain ⟨tp, p, he⟩ := he
  refine (Tryz.strconv_ParseInt_10_at64_range_var s (by omega) h tp p w he).mono fun e w' h => ?_
  obtain ⟨N, h1, _, _, h4⟩ := h
  exact ⟨⟨_, _, _, h1⟩, h4⟩
theorem value_ok (s : ByteArray) {w : World} (hs : s.size ≤ 140737488351232) (hd : (bl s).all digitB = true) (hne : bl s ≠ []) (hv : numB (bl s) ≤ 9223372036854775807) : Calls Tryz.prog 95 #[.string s] w fun e w' => e = .returned (.tuple #[.int .i64 (numB (bl s)), .int .i64 0]) ∧ Below w.heap.size w w' := by
  have hp := int_val hd hne
  rw [if_pos hv] at hp
  have P := fun w => @parseInt_ok s w _ hs hp
  clear hp hd hne hv
  generalize numB (bl s) = n at P
  go_enter Tryz.func95, Tryz.ntmps95
  (go_wp2_with fail; go_fit (P _); rintro e w1 ⟨rfl, b1⟩)
  go_wp2
  go_ret2
  exact ⟨rfl, b1⟩
theorem value_over (s : ByteArray) {w : World} (he : Err w) (hs : s.size ≤ 140737488351232) (hd : (bl s).all digitB = true) (hne : bl s ≠ []) (hv : ¬ numB (bl s) ≤ 9223372036854775807) : Calls Tryz.prog 95 #[.string s] w fun e w' => e = .returned (.tuple #[.int .i64 0, .int .i64 3]) ∧ Below w.heap.size w w' := by
  have hp := int_val hd hne
  rw [if_neg hv] at hp
  have P := fun w h => @parseInt_range s w h hs hp
  clear hp hd hne hv
  go_enter Tryz.func95, Tryz.ntmps95
  (go_wp2_with fail; go_fit (P _ he); rintro e w1 ⟨⟨x, t, q, rfl⟩, b1⟩)
  go_wp2
  go_ret2
  exact ⟨rfl, b1⟩

/-- A row of bytes of the call's own. -/
def bytesV (l : List UInt8) : List Value := l.map fun c => .int .u8 (c.toNat : Int)
def RowB (w : World) (base : Nat) (v : Value) (l : List UInt8) : Prop := w.ownsRow base 5 1 v l.length (bytesV l)
theorem RowB.nil (w : World) (base : Nat) : RowB w base (.slice none 0 0) [] := World.ownsRow_nil _ _ _ _
theorem conv_row {w : World} {base : Nat} {v : Value} {l : List UInt8} (h : RowB w base v l) : (convert 167 9 v).run Tryz.prog w = .ok (.string ⟨l.toArray⟩) w := by
  rcases h.2 with ⟨rfl, h0⟩ | ⟨g, cap, cur, rfl, hg, hcur, h1, h2, h3, h4⟩
  · obtain rfl : l = [] := List.length_eq_zero_iff.1 h0
    have := run_convert_bytes_string (P := Tryz.prog) w 167 9 5 none 0 0 Tryz.underlying167 Tryz.underlying5 Tryz.underlying9
    rw [this]
    rfl
  · refine run_convert_bytes_back (P := Tryz.prog) w 167 9 5 ⟨g, 0, none⟩ cap l Tryz.underlying167 Tryz.underlying5 Tryz.underlying9 (fun j hj => ?_)
    rw [add_plain]
    simp only [World.cell?, hcur, Option.isSome_none]
    have h5 : (cur.toList.take (l.length * 1))[j]? = some (.int .u8 (l[j].toNat : Int)) := by
      rw [h4]
      simp [bytesV, List.getElem?_eq_getElem hj]
    rw [List.getElem?_take] at h5
    split at h5
    · simpa using h5
    · cases h5
end Go.Proofs.YtaojalicnnnkmaaGreatDoor
