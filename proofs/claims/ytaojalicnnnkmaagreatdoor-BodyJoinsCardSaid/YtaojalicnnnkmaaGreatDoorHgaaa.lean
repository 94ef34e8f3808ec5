import Derived.Lib.Hide
import Derived.WalkKit
import Derived.WalkSpells
import Derived.WalkLawsBesides
import Derived.ProofKit
import Derived.OpenShut
import Derived.SizedLaws
import Derived.SliceStrings
import Derived.Carry
import Derived.Stop.Joined
import Derived.Deep.Slices
import Derived.Test.YtaojalicnnnkmaaGreatDoorRows
import Derived.Maps.AppendAt
import Derived.Deep.Upon
import Derived.Deep.AppendSrc
set_option linter.unusedVariables false
set_option linter.unusedSimpArgs false
/- Terms as trees, as chapter 7 says them. Nothing here is walked. -/
namespace Go.Proofs.YtaojalicnnnkmaaGreatDoor

inductive Tm where
  | mk (k n : Int) (s : ByteArray) (ts : List Tm)
namespace Tm
def k : Tm → Int | mk k _ _ _ => k
def n : Tm → Int | mk _ n _ _ => n
def s : Tm → ByteArray | mk _ _ s _ => s
def args : Tm → List Tm | mk _ _ _ ts => ts
end Tm
mutual
/-- How many terms it is made of. -/
def sizeN : Tm → Nat
  | .mk _ _ _ ts => sizesN ts + 1
def sizesN : List Tm → Nat
  | [] => 0
  | x :: r => sizeN x + sizesN r
end
mutual
def depthN : Tm → Nat
  | .mk _ _ _ ts => depthsN ts + 1
def depthsN : List Tm → Nat
  | [] => 0
  | x :: r => max (depthN x) (depthsN r)
end
def letterB (c : UInt8) : Bool := c == 9 || c == 10 || (decide (32 ≤ c) && decide (c ≤ 126))
/-- What a term's own fields may be. -/
def plainT (k n : Int) (s : List UInt8) (m : Nat) : Bool :=
  if k = 0 then decide (0 ≤ n) && decide (n < 2147483648) && s.isEmpty && decide (m = 0)
  else if k = 1 then s.isEmpty && decide (m = 0)
  else if k = 2 then decide (n = 0) && decide (s.length ≤ 64) && decide (m ≤ 8) && s.all letterB
  else false
mutual
def formedT : Tm → Bool
  | .mk k n s ts => plainT k n s.data.toList ts.length && formedL ts
def formedL : List Tm → Bool
  | [] => true
  | x :: r => formedT x && formedL r
end
def goodT (t : Tm) : Bool := decide (sizeN t ≤ 2000) && decide (depthN t ≤ 64) && formedT t
mutual
def sameT : Tm → Tm → Bool
  | .mk k n s ts, .mk k' n' s' ts' => k == k' && n == n' && s.data.toList == s'.data.toList && sameL ts ts'
def sameL : List Tm → List Tm → Bool
  | [], [] => true
  | x :: r, y :: q => sameT x y && sameL r q
  | _, _ => false
end
def dotS : ByteArray := ⟨#[46]⟩
def consT (a b : Tm) : Tm := .mk 2 0 dotS [a, b]
def listT : List Tm → Tm → Tm
  | [], t => t
  | x :: r, t => consT x (listT r t)
theorem size_pos (t : Tm) : 1 ≤ sizeN t := by cases t; rw [sizeN]; omega
theorem depth_pos (t : Tm) : 1 ≤ depthN t := by cases t; rw [depthN]; omega
theorem sizes_mem : ∀ {l : List Tm} {x : Tm}, x ∈ l → sizeN x ≤ sizesN l
  | y :: r, x, h => by
    rw [sizesN]
    rcases List.mem_cons.1 h with rfl | h
    · omega
    · have := sizes_mem h; omega
theorem depths_mem : ∀ {l : List Tm} {x : Tm}, x ∈ l → depthN x ≤ depthsN l
  | y :: r, x, h => by
    rw [depthsN]
    rcases List.mem_cons.1 h with rfl | h
    · omega
    · have := depths_mem h; omega
theorem formed_mem : ∀ {l : List Tm} {x : Tm}, formedL l = true → x ∈ l → formedT x = true
  | y :: r, x, hf, h => by
    rw [formedL, Bool.and_eq_true] at hf
    rcases List.mem_cons.1 h with rfl | h
    · exact hf.1
    · exact formed_mem hf.2 h
theorem good_parts {t : Tm} (h : goodT t = true) : sizeN t ≤ 2000 ∧ depthN t ≤ 64 ∧ formedT t = true := by
  unfold goodT at h
  simp only [Bool.and_eq_true, decide_eq_true_eq] at h
  exact ⟨h.1.1, h.1.2, h.2⟩
theorem good_of {t : Tm} (h1 : sizeN t ≤ 2000) (h2 : depthN t ≤ 64) (h3 : formedT t = true) : goodT t = true := by
  unfold goodT
  simp [h1, h2, h3]
/-- An Arg of a good one is good. -/
theorem good_arg {t x : Tm} (h : goodT t = true) (hx : x ∈ t.args) : goodT x = true := by
  obtain ⟨h1, h2, h3⟩ := good_parts h
  cases t with
  | mk k n s ts =>
    have hx' : x ∈ ts := hx
    rw [sizeN] at h1
    rw [depthN] at h2
    rw [formedT, Bool.and_eq_true] at h3
    have a := sizes_mem hx'
    have b := depths_mem hx'
    exact good_of (by omega) (by omega) (formed_mem h3.2 hx')
theorem bytes_eq {s t : ByteArray} (h : s.data.toList = t.data.toList) : s = t := by
  obtain ⟨⟨l⟩⟩ := s; obtain ⟨⟨m⟩⟩ := t; simp at h; rw [h]
mutual
theorem same_iff : ∀ (a b : Tm), sameT a b = true ↔ a = b
  | .mk k n s ts, .mk k' n' s' ts' => by
    rw [sameT]
    simp only [Bool.and_eq_true, beq_iff_eq, Tm.mk.injEq]
    rw [sames_iff ts ts']
    constructor
    · rintro ⟨⟨⟨h1, h2⟩, h3⟩, h4⟩; exact ⟨h1, h2, bytes_eq h3, h4⟩
    · rintro ⟨h1, h2, h3, h4⟩; exact ⟨⟨⟨h1, h2⟩, by rw [h3]⟩, h4⟩
theorem sames_iff : ∀ (a b : List Tm), sameL a b = true ↔ a = b
  | [], [] => by simp [sameL]
  | x :: r, y :: q => by
    rw [sameL]
    simp only [Bool.and_eq_true, List.cons.injEq]
    rw [same_iff x y, sames_iff r q]
  | [], y :: q => by simp [sameL]
  | x :: r, [] => by simp [sameL]
end
theorem same_self (a : Tm) : sameT a a = true := (same_iff a a).2 rfl
end Go.Proofs.YtaojalicnnnkmaaGreatDoor
/- Goals, as chapter 14 says them. Nothing here is walked. -/
namespace Go.Proofs.YtaojalicnnnkmaaGreatDoor

inductive Gl where
  | mk (kind : Int) (t : Tm) (l : List (List Gl))
namespace Gl
def kind : Gl → Int | mk k _ _ => k
def t : Gl → Tm | mk _ t _ => t
def l : Gl → List (List Gl) | mk _ _ l => l
end Gl
def zeroT : Tm := .mk 0 0 ⟨#[]⟩ []
def nameT (s : ByteArray) (ts : List Tm) : Tm := .mk 2 0 s ts
def commaS : ByteArray := ⟨#[44]⟩
def trueS : ByteArray := ⟨#[116, 114, 117, 101]⟩
def bangS : ByteArray := ⟨#[33]⟩
def semiS : ByteArray := ⟨#[59]⟩
def arrowS : ByteArray := ⟨#[45, 62]⟩
def negS : ByteArray := ⟨#[92, 43]⟩
def failS : ByteArray := ⟨#[102, 97, 105, 108]⟩
def callS : ByteArray := ⟨#[99, 97, 108, 108]⟩
def failT : Tm := nameT failS []
/-- Is it a name of so many? -/
def isT (t : Tm) (s : ByteArray) (m : Nat) : Bool := t.k == 2 && t.s.data.toList == s.data.toList && t.args.length == m
/-- What a body's term is. -/
inductive Ctl where
  | var | num | join (a b : Tm) | yes | cut | ite (c d e : Tm) | or (a b : Tm) | neg (a : Tm) | call
def pairOf : Tm → Option (Tm × Tm)
  | .mk _ _ _ [a, b] => some (a, b)
  | _ => none
def arrowT (t : Tm) : Option (Tm × Tm) := if isT t arrowS 2 = true then pairOf t else none
def ctlT (t : Tm) : Ctl :=
  if t.k = 0 then .var else if t.k = 1 then .num
  else if t.k = 2 then
    (match t.args with
    | [] => if t.s.data.toList = trueS.data.toList then .yes else if t.s.data.toList = bangS.data.toList then .cut else .call
    | [a] => if t.s.data.toList = negS.data.toList then .neg a else .call
    | [a, b] =>
      if t.s.data.toList = commaS.data.toList then .join a b
      else if t.s.data.toList = semiS.data.toList then (match arrowT a with
        | some (c, d) => .ite c d b
        | none => .or a b)
      else if t.s.data.toList = arrowS.data.toList then .ite a b failT
      else .call
    | _ => .call)
  else .call
def callG (t : Tm) : Gl := .mk 1 t []
/-- The goals of a body: none of what is no body. -/
def ofF : Nat → Tm → Option (List Gl)
  | 0, _ => none
  | K + 1, t => match ctlT t with
    | .var => some [callG (nameT callS [t])]
    | .num => none
    | .join a b => (ofF K a).bind fun x => (ofF K b).map fun y => x ++ y
    | .yes => some []
    | .cut => some [.mk 2 zeroT []]
    | .ite c d e => (ofF K c).bind fun x => (ofF K d).bind fun y => (ofF K e).map fun z => [.mk 4 zeroT [x, y, z]]
    | .or a b => (ofF K a).bind fun x => (ofF K b).map fun y => [.mk 3 zeroT [x, y]]
    | .neg a => (ofF K a).map fun x => [.mk 5 zeroT [x]]
    | .call => some [callG t]
theorem pair_of {t a b : Tm} (h : pairOf t = some (a, b)) : t.args = [a, b] := by
  obtain ⟨k, n, s, ts⟩ := t
  match ts, h with
  | [], h => cases h
  | [_], h => cases h
  | [x, y], h => cases h; rfl
  | _ :: _ :: _ :: _, h => cases h
theorem arrow_of {t c d : Tm} (h : arrowT t = some (c, d)) : isT t arrowS 2 = true ∧ t.args = [c, d] := by
  unfold arrowT at h
  split at h
  · exact ⟨by assumption, pair_of h⟩
  · cases h
theorem size_args {t : Tm} {l : List Tm} (h : t.args = l) : sizeN t = sizesN l + 1 := by
  obtain ⟨k, n, s, ts⟩ := t
  cases (show ts = l from h)
  rw [sizeN]
/-- What each part of a body is, and that it is less. -/
theorem ctl_join {t a b : Tm} (h : ctlT t = .join a b) : t.args = [a, b] ∧ sizeN a < sizeN t ∧ sizeN b < sizeN t := by
  have key : t.args = [a, b] := by
    unfold ctlT at h
    split at h
    · cases h
    · split at h
      · cases h
      · split at h
        · split at h
          · split at h
            · cases h
            · split at h <;> cases h
          · split at h <;> cases h
          · rename_i heq
            split at h
            · cases h; exact heq
            · split at h
              · split at h <;> cases h
              · split at h <;> cases h
          · cases h
        · cases h
  refine ⟨key, ?_, ?_⟩ <;> (rw [size_args key, sizesN, sizesN, sizesN]; omega)
theorem ctl_or {t a b : Tm} (h : ctlT t = .or a b) : t.args = [a, b] ∧ arrowT a = none ∧ sizeN a < sizeN t ∧ sizeN b < sizeN t := by
  have key : t.args = [a, b] ∧ arrowT a = none := by
    unfold ctlT at h
    split at h
    · cases h
    · split at h
      · cases h
      · split at h
        · split at h
          · split at h
            · cases h
            · split at h <;> cases h
          · split at h <;> cases h
          · rename_i heq
            split at h
            · cases h
            · split at h
              · split at h
                · cases h
                · rename_i ha; cases h; exact ⟨heq, ha⟩
              · split at h <;> cases h
          · cases h
        · cases h
  refine ⟨key.1, key.2, ?_, ?_⟩ <;> (rw [size_args key.1, sizesN, sizesN, sizesN]; omega)
theorem ctl_neg {t a : Tm} (h : ctlT t = .neg a) : t.args = [a] ∧ sizeN a < sizeN t := by
  have key : t.args = [a] := by
    unfold ctlT at h
    split at h
    · cases h
    · split at h
      · cases h
      · split at h
        · split at h
          · split at h
            · cases h
            · split at h <;> cases h
          · rename_i heq
            split at h
            · cases h; exact heq
            · cases h
          · split at h
            · cases h
            · split at h
              · split at h <;> cases h
              · split at h <;> cases h
          · cases h
        · cases h
  exact ⟨key, by rw [size_args key, sizesN, sizesN]; omega⟩
theorem ctl_ite {t c d e : Tm} (h : ctlT t = .ite c d e) : ((∃ a, t.args = [a, e] ∧ a.args = [c, d]) ∨ (t.args = [c, d] ∧ e = failT)) ∧ sizeN c < sizeN t ∧ sizeN d < sizeN t ∧ sizeN e < sizeN t := by
  have key : (∃ a, t.args = [a, e] ∧ a.args = [c, d]) ∨ (t.args = [c, d] ∧ e = failT) := by
    unfold ctlT at h
    split at h
    · cases h
    · split at h
      · cases h
      · split at h
        · split at h
          · split at h
            · cases h
            · split at h <;> cases h
          · split at h <;> cases h
          · rename_i heq
            split at h
            · cases h
            · split at h
              · split at h
                · rename_i ha; cases h; exact Or.inl ⟨_, heq, (arrow_of ha).2⟩
                · cases h
              · split at h
                · cases h; exact Or.inr ⟨heq, rfl⟩
                · cases h
          · cases h
        · cases h
  refine ⟨key, ?_⟩
  rcases key with ⟨a, h1, h2⟩ | ⟨h1, rfl⟩
  · have g1 := size_args h1
    have g2 := size_args h2
    rw [sizesN, sizesN, sizesN] at g1 g2
    exact ⟨by omega, by omega, by omega⟩
  · have g1 := size_args h1
    rw [sizesN, sizesN, sizesN] at g1
    have h3 := size_pos c
    have h4 := size_pos d
    have : sizeN failT = 1 := rfl
    exact ⟨by omega, by omega, by omega⟩
/-- More fuel changes nothing. -/
theorem of_fuel : ∀ (K K' : Nat) (t : Tm), sizeN t ≤ K → sizeN t ≤ K' → ofF K t = ofF K' t
  | 0, K', t, h, _ => by have := size_pos t; omega
  | K + 1, 0, t, _, h => by have := size_pos t; omega
  | K + 1, K' + 1, t, h, h' => by
    rw [ofF, ofF]
    cases hc : ctlT t with
    | var => rfl
    | num => rfl
    | yes => rfl
    | cut => rfl
    | call => rfl
    | join a b =>
      obtain ⟨_, g1, g2⟩ := ctl_join hc
      simp only
      rw [of_fuel K K' a (by omega) (by omega), of_fuel K K' b (by omega) (by omega)]
    | or a b =>
      obtain ⟨_, _, g1, g2⟩ := ctl_or hc
      simp only
      rw [of_fuel K K' a (by omega) (by omega), of_fuel K K' b (by omega) (by omega)]
    | neg a =>
      obtain ⟨_, g1⟩ := ctl_neg hc
      simp only
      rw [of_fuel K K' a (by omega) (by omega)]
    | ite c d e =>
      obtain ⟨_, g1, g2, g3⟩ := ctl_ite hc
      simp only
      rw [of_fuel K K' c (by omega) (by omega), of_fuel K K' d (by omega) (by omega), of_fuel K K' e (by omega) (by omega)]
def ofB (t : Tm) : Option (List Gl) := ofF (sizeN t) t
/-- Of, one step at a time. -/
theorem of_step (t : Tm) : ofB t = match ctlT t with
    | .var => some [callG (nameT callS [t])]
    | .num => none
    | .join a b => (ofB a).bind fun x => (ofB b).map fun y => x ++ y
    | .yes => some []
    | .cut => some [.mk 2 zeroT []]
    | .ite c d e => (ofB c).bind fun x => (ofB d).bind fun y => (ofB e).map fun z => [.mk 4 zeroT [x, y, z]]
    | .or a b => (ofB a).bind fun x => (ofB b).map fun y => [.mk 3 zeroT [x, y]]
    | .neg a => (ofB a).map fun x => [.mk 5 zeroT [x]]
    | .call => some [callG t] := by
  have hp := size_pos t
  unfold ofB
  rw [show sizeN t = (sizeN t - 1) + 1 by omega, ofF]
  cases hc : ctlT t with
  | var => rfl
  | num => rfl
  | yes => rfl
  | cut => rfl
  | call => rfl
  | join a b =>
    obtain ⟨_, g1, g2⟩ := ctl_join hc
    simp only
    rw [of_fuel (sizeN t - 1) (sizeN a) a (by omega) (by omega), of_fuel (sizeN t - 1) (sizeN b) b (by omega) (by omega)]
  | or a b =>
    obtain ⟨_, _, g1, g2⟩ := ctl_or hc
    simp only
    rw [of_fuel (sizeN t - 1) (sizeN a) a (by omega) (by omega), of_fuel (sizeN t - 1) (sizeN b) b (by omega) (by omega)]
  | neg a =>
    obtain ⟨_, g1⟩ := ctl_neg hc
    simp only
    rw [of_fuel (sizeN t - 1) (sizeN a) a (by omega) (by omega)]
  | ite c d e =>
    obtain ⟨_, g1, g2, g3⟩ := ctl_ite hc
    simp only
    rw [of_fuel (sizeN t - 1) (sizeN c) c (by omega) (by omega), of_fuel (sizeN t - 1) (sizeN d) d (by omega) (by omega), of_fuel (sizeN t - 1) (sizeN e) e (by omega) (by omega)]
mutual
/-- How many goals, all the way in. -/
def cntG : Gl → Nat
  | .mk _ _ ls => cntR ls + 1
def cntL : List Gl → Nat
  | [] => 0
  | g :: r => cntG g + cntL r
def cntR : List (List Gl) → Nat
  | [] => 0
  | l :: r => cntL l + cntR r
end
mutual
/-- Is there a cut in it that cuts the clause? -/
def cutG : Gl → Bool
  | .mk k _ ls => k == 2 || (!(k == 5) && (if k = 4 then cutT ls else cutR ls))
def cutL : List Gl → Bool
  | [] => false
  | g :: r => cutG g || cutL r
def cutR : List (List Gl) → Bool
  | [] => false
  | l :: r => cutL l || cutR r
/-- But for the first row. -/
def cutT : List (List Gl) → Bool
  | [] => false
  | _ :: r => cutR r
end
theorem cnt_app : ∀ a b : List Gl, cntL (a ++ b) = cntL a + cntL b
  | [], b => by rw [List.nil_append, cntL]; omega
  | g :: r, b => by rw [List.cons_append, cntL, cntL, cnt_app r b]; omega
theorem cut_app : ∀ a b : List Gl, cutL (a ++ b) = (cutL a || cutL b)
  | [], b => by rw [List.nil_append, cutL]; rfl
  | g :: r, b => by rw [List.cons_append, cutL, cutL, cut_app r b, Bool.or_assoc]
end Go.Proofs.YtaojalicnnnkmaaGreatDoor
/- Goals made a term of are these goals again; goals of two that are joined; heads. Nothing here is walked. -/
namespace Go.Proofs.YtaojalicnnnkmaaGreatDoor

theorem ctl_comma (a b : Tm) : ctlT (nameT commaS [a, b]) = .join a b := by rfl
/-- What Of answers. -/
def ofE (t : Tm) : List Gl × Int := if goodT t = true then (match ofB t with
  | some l => (l, 0)
  | none => ([], 5)) else ([], 1)
/-- The goals of two that are joined. -/
theorem ofE_join {a b : Tm} (hg : goodT (nameT commaS [a, b]) = true) :
    goodT a = true ∧ goodT b = true ∧ ((∃ l m, ofE a = (l, 0) ∧ ofE b = (m, 0) ∧ ofE (nameT commaS [a, b]) = (l ++ m, 0)) ∨ (ofE a = ([], 5) ∧ ofE (nameT commaS [a, b]) = ([], 5)) ∨ ((∃ l, ofE a = (l, 0)) ∧ ofE b = ([], 5) ∧ ofE (nameT commaS [a, b]) = ([], 5))) := by
  have ha : goodT a = true := good_arg hg (by show a ∈ [a, b]; simp)
  have hb : goodT b = true := good_arg hg (by show b ∈ [a, b]; simp)
  refine ⟨ha, hb, ?_⟩
  unfold ofE
  rw [if_pos ha, if_pos hb, if_pos hg, of_step (nameT commaS [a, b]), ctl_comma]
  simp only
  cases h1 : ofB a with
  | none => exact Or.inr (Or.inl ⟨rfl, rfl⟩)
  | some l =>
    cases h2 : ofB b with
    | none => exact Or.inr (Or.inr ⟨⟨l, rfl⟩, rfl, rfl⟩)
    | some m => exact Or.inl ⟨l, m, rfl, rfl, rfl⟩
end Go.Proofs.YtaojalicnnnkmaaGreatDoor
/- Small facts of ours about endings, byte strings and slices of strings in memory; nothing here speaks of one program. -/
namespace Go.Proofs.YtaojalicnnnkmaaGreatDoor
open Go.RowKit

theorem ret_bool {a b : Bool} (h : a = b) : Ending.returned (.bool a) = .returned (.bool b) := by rw [h]
theorem ret_int {k : IntKind} {a b : Int} (h : a = b) : Ending.returned (.int k a) = .returned (.int k b) := by rw [h]
abbrev bl (s : ByteArray) : List UInt8 := s.data.toList
theorem bl_len (s : ByteArray) : (bl s).length = s.size := rfl
theorem bl_get (s : ByteArray) (k : Nat) (h : k < s.size) : (bl s)[k]'h = s[k] := rfl
theorem bl_inj {s t : ByteArray} (h : bl s = bl t) : s = t := by
  obtain ⟨⟨l⟩⟩ := s; obtain ⟨⟨m⟩⟩ := t; simp [bl] at h; rw [h]
theorem bl_nil {s : ByteArray} (h : s.size = 0) : bl s = [] := List.length_eq_zero_iff.1 h

/-- The value reads as this list of strings. -/
def Strs (w : World) (v : Value) (ss : List ByteArray) : Prop :=
  ∃ (a : Option Addr) (cap : Nat), v = .slice a ss.length cap ∧ ss.length ≤ cap ∧ cap ≤ maxLen ∧ ss.length * 16 ≤ 140737488351232 ∧ (∀ s ∈ ss, s.size ≤ 140737488351232) ∧
    (ss = [] ∨ ∃ b off, a = some ⟨b, off, none⟩ ∧ b < w.heap.size ∧ ∀ i x, ss[i]? = some x → w.cell? ⟨b, off + i, none⟩ = some (.string x))
/-- Whatever lay in W lies in w as it lay. -/
abbrev Ext (W w : World) : Prop := Below W.heap.size W w
theorem Ext.trans' {a b c : World} (h : Below a.heap.size a b) (k : Below b.heap.size b c) : Below a.heap.size a c := h.trans (k.mono h.size)
end Go.Proofs.YtaojalicnnnkmaaGreatDoor
/- How the arguments of a law are opened: from the form's reading to our own predicates. Nothing here speaks of one program. -/
namespace Go.Proofs.YtaojalicnnnkmaaGreatDoor
open Go.RowKit Go.ChangeShapes Go.WideShapes Go.ChangeAt

/-- The law's end: this bool, and nothing that was there has turned. -/
def IsBool (W : World) (b : Bool) (e : Ending) (w' : World) : Prop := e = .returned (.bool b) ∧ Below W.heap.size W w'

section
variable {H : Type} {enc : TypeId × Value → H} {P : Program} {W : World}

theorem weights_ok {ts : List TypeId} {ds : List (DataW H)} (h : (DataW.weightsEach P ts ds).all (· ≤ reachBytes) = true) {j : Nat} {t : TypeId} {d : DataW H} (ht : ts[j]? = some t) (hd : ds[j]? = some d) :
    ∀ n ∈ d.weights P t, n ≤ 140737488351232 := fun n hn => by
  have := List.all_eq_true.1 h n (DataW.weights_mem_each ht hd n hn)
  have e : reachBytes = 140737488351232 := by decide
  simpa [e] using this
theorem weights_all_mem {e : TypeId} : ∀ {l : List (DataW H)} {d : DataW H}, d ∈ l → ∀ n ∈ d.weights P e, n ∈ DataW.weightsAll P e l
  | a :: r, d, h, n, hn => by
    simp only [DataW.weightsAll, List.mem_append]
    rcases List.mem_cons.1 h with rfl | h
    · exact Or.inl hn
    · exact Or.inr (weights_all_mem h n hn)

theorem lt_of_trod {t : TypeId} {v : Value} {d : DataW H} {ps : List MemPlace} (h : DataW.Trod enc P W 0 (fun _ => true) true t v d ps) : ∀ x ∈ ps, x.block < W.heap.size := by
  obtain ⟨m, hm⟩ := h; exact DataW.trod_lt m _ _ _ hm

theorem add_plain (b o i : Nat) : (⟨b, o, none⟩ : Addr).add i = ⟨b, o + i, none⟩ := by
  unfold Addr.add; split
  · rename_i h; rw [h]; rfl
  · rfl
theorem spot_of_cell {w : World} {x : Addr} {v : Value} (h : w.cell? (x.add 0) = some v) : x.spot = none := by
  rcases x with ⟨xb, xo, xs⟩
  cases xs with
  | none => rfl
  | some q =>
    exfalso
    rw [show (⟨xb, xo, some q⟩ : Addr).add 0 = ⟨xb, xo, some q⟩ from rfl] at h
    unfold World.cell? at h
    split at h <;> simp at h
end
end Go.Proofs.YtaojalicnnnkmaaGreatDoor
/- A slice of whatever elements that came in, opened element by element. Nothing here speaks of one program. -/
namespace Go.Proofs.YtaojalicnnnkmaaGreatDoor
open Go.RowKit Go.ChangeShapes Go.WideShapes Go.ChangeAt Go.Deep

/-- The value reads as these elements, of S cells each. -/
def Elems {α : Type} (S : Nat) (cells : α → List Value) (w : World) (v : Value) (xs : List α) : Prop :=
  ∃ (a : Option Addr) (cap : Nat), v = .slice a xs.length cap ∧ xs.length ≤ cap ∧ cap ≤ maxLen ∧
    (xs = [] ∨ ∃ b off, a = some ⟨b, off, none⟩ ∧ b < w.heap.size ∧ ∀ (i : Nat) (x : α), xs[i]? = some x → ∀ (j : Nat) (u : Value), (cells x)[j]? = some u → w.cell? ⟨b, off + (i * S + j), none⟩ = some u)
theorem Elems.ext {α : Type} {S : Nat} {cells : α → List Value} {w w' : World} {v : Value} {xs : List α} (h : Elems S cells w v xs) (hb : Below w.heap.size w w') : Elems S cells w' v xs := by
  obtain ⟨a, cap, h1, h2, h3, h6⟩ := h
  refine ⟨a, cap, h1, h2, h3, ?_⟩
  rcases h6 with h6 | ⟨b, off, e1, e2, e3⟩
  · exact Or.inl h6
  · exact Or.inr ⟨b, off, e1, Nat.lt_of_lt_of_le e2 hb.size, fun i x hx j u hu => cell_later hb (e3 i x hx j u hu)⟩

theorem list_choose {α : Type} {Q : Nat → α → Prop} : ∀ n : Nat, (∀ i, i < n → ∃ x, Q i x) → ∃ xs : List α, xs.length = n ∧ ∀ i x, xs[i]? = some x → Q i x
  | 0, _ => ⟨[], rfl, by simp⟩
  | n + 1, h => by
    obtain ⟨xs, hl, hx⟩ := list_choose n (fun i hi => h i (by omega))
    obtain ⟨y, hy⟩ := h n (by omega)
    refine ⟨xs ++ [y], by simp [hl], fun i x hi => ?_⟩
    by_cases hlt : i < xs.length
    · rw [List.getElem?_append_left hlt] at hi; exact hx i x hi
    · rw [List.getElem?_append_right (by omega)] at hi
      have hm := (List.getElem?_eq_some_iff.1 hi).1
      simp at hm
      have e : i = n := by omega
      subst e
      rw [hl, Nat.sub_self] at hi
      simp at hi; subst hi; exact hy

section
variable {H : Type} {enc : TypeId × Value → H} {P : Program} {W : World}
end
end Go.Proofs.YtaojalicnnnkmaaGreatDoor
/- Terms in memory. Nothing here speaks of one program. -/
namespace Go.Proofs.YtaojalicnnnkmaaGreatDoor
open Go.RowKit

abbrev BIG : Nat := 140737488351232
def I64 (n : Int) : Prop := -9223372036854775808 ≤ n ∧ n ≤ 9223372036854775807
mutual
/-- The value reads as this term. -/
def TmV (w : World) : Tm → Value → Prop
  | .mk k n s ts, v => ∃ (a : Option Addr) (c : Nat), v = .agg #[.int .i64 k, .int .i64 n, .string s, .slice a ts.length c] ∧ ts.length ≤ c ∧ c ≤ maxLen ∧ ts.length * 56 ≤ BIG ∧ s.size ≤ BIG ∧ I64 k ∧ I64 n ∧
      (ts = [] ∨ ∃ b off, a = some ⟨b, off, none⟩ ∧ b < w.heap.size ∧ TmRow w ts b off)
/-- These terms lie there, one behind the other. -/
def TmRow (w : World) : List Tm → Nat → Nat → Prop
  | [], _, _ => True
  | x :: r, b, off => (∃ c0 c1 c2 c3, w.cell? ⟨b, off, none⟩ = some c0 ∧ w.cell? ⟨b, off + 1, none⟩ = some c1 ∧ w.cell? ⟨b, off + 2, none⟩ = some c2 ∧ w.cell? ⟨b, off + 3, none⟩ = some c3 ∧ TmV w x (.agg #[c0, c1, c2, c3])) ∧ TmRow w r b (off + 4)
end
/-- The value reads as these terms. -/
def Tms (w : World) (v : Value) (l : List Tm) : Prop :=
  ∃ (a : Option Addr) (c : Nat), v = .slice a l.length c ∧ l.length ≤ c ∧ c ≤ maxLen ∧ l.length * 56 ≤ BIG ∧ (l = [] ∨ ∃ b off, a = some ⟨b, off, none⟩ ∧ b < w.heap.size ∧ TmRow w l b off)
theorem tmV_iff {w : World} {k n : Int} {s : ByteArray} {ts : List Tm} {v : Value} : TmV w (.mk k n s ts) v ↔ ∃ u, v = .agg #[.int .i64 k, .int .i64 n, .string s, u] ∧ s.size ≤ BIG ∧ I64 k ∧ I64 n ∧ Tms w u ts := by
  rw [TmV]
  constructor
  · rintro ⟨a, c, h1, h2, h3, h4, h5, h6, h7, h8⟩
    exact ⟨_, h1, h5, h6, h7, a, c, rfl, h2, h3, h4, h8⟩
  · rintro ⟨u, h1, h5, h6, h7, a, c, rfl, h2, h3, h4, h8⟩
    exact ⟨a, c, h1, h2, h3, h4, h5, h6, h7, h8⟩
theorem TmRow.get {w : World} : ∀ {l : List Tm} {b off : Nat}, TmRow w l b off → ∀ (i : Nat) (x : Tm), l[i]? = some x →
    ∃ c0 c1 c2 c3, w.cell? ⟨b, off + i * 4, none⟩ = some c0 ∧ w.cell? ⟨b, off + i * 4 + 1, none⟩ = some c1 ∧ w.cell? ⟨b, off + i * 4 + 2, none⟩ = some c2 ∧ w.cell? ⟨b, off + i * 4 + 3, none⟩ = some c3 ∧ TmV w x (.agg #[c0, c1, c2, c3])
  | [], b, off, _, i, x, hx => by simp at hx
  | y :: r, b, off, h, 0, x, hx => by
    simp at hx
    subst hx
    rw [TmRow] at h
    rw [Nat.zero_mul, Nat.add_zero]
    exact h.1
  | y :: r, b, off, h, i + 1, x, hx => by
    rw [TmRow] at h
    have := TmRow.get h.2 i x (by simpa using hx)
    rw [show off + (i + 1) * 4 = off + 4 + i * 4 by omega]
    exact this
theorem TmRow.mk {w : World} : ∀ {l : List Tm} {b off : Nat}, (∀ (i : Nat) (x : Tm), l[i]? = some x →
    ∃ c0 c1 c2 c3, w.cell? ⟨b, off + i * 4, none⟩ = some c0 ∧ w.cell? ⟨b, off + i * 4 + 1, none⟩ = some c1 ∧ w.cell? ⟨b, off + i * 4 + 2, none⟩ = some c2 ∧ w.cell? ⟨b, off + i * 4 + 3, none⟩ = some c3 ∧ TmV w x (.agg #[c0, c1, c2, c3])) → TmRow w l b off
  | [], b, off, _ => by rw [TmRow]; trivial
  | y :: r, b, off, h => by
    rw [TmRow]
    refine ⟨?_, TmRow.mk fun i x hx => ?_⟩
    · have := h 0 y rfl
      rw [Nat.zero_mul, Nat.add_zero] at this
      exact this
    · have := h (i + 1) x (by simpa using hx)
      rw [show off + (i + 1) * 4 = off + 4 + i * 4 by omega] at this
      exact this
mutual
theorem TmV.ext {w w' : World} (hb : Below w.heap.size w w') : ∀ (x : Tm) (v : Value), TmV w x v → TmV w' x v
  | .mk k n s ts, v, h => by
    rw [TmV] at h ⊢
    obtain ⟨a, c, h1, h2, h3, h4, h5, h6, h7, h8⟩ := h
    refine ⟨a, c, h1, h2, h3, h4, h5, h6, h7, ?_⟩
    rcases h8 with h8 | ⟨b, off, e1, e2, e3⟩
    · exact Or.inl h8
    · exact Or.inr ⟨b, off, e1, Nat.lt_of_lt_of_le e2 hb.size, TmRow.ext hb ts b off e3⟩
theorem TmRow.ext {w w' : World} (hb : Below w.heap.size w w') : ∀ (l : List Tm) (b off : Nat), TmRow w l b off → TmRow w' l b off
  | [], b, off, _ => by rw [TmRow]; trivial
  | x :: r, b, off, h => by
    rw [TmRow] at h ⊢
    obtain ⟨⟨c0, c1, c2, c3, h0, h1, h2, h3, h4⟩, h5⟩ := h
    exact ⟨⟨c0, c1, c2, c3, cell_later hb h0, cell_later hb h1, cell_later hb h2, cell_later hb h3, TmV.ext hb x _ h4⟩, TmRow.ext hb r b (off + 4) h5⟩
end
theorem Tms.ext {w w' : World} {v : Value} {l : List Tm} (h : Tms w v l) (hb : Below w.heap.size w w') : Tms w' v l := by
  obtain ⟨a, c, h1, h2, h3, h4, h5⟩ := h
  refine ⟨a, c, h1, h2, h3, h4, ?_⟩
  rcases h5 with h5 | ⟨b, off, e1, e2, e3⟩
  · exact Or.inl h5
  · exact Or.inr ⟨b, off, e1, Nat.lt_of_lt_of_le e2 hb.size, TmRow.ext hb l b off e3⟩
theorem Tms.nil (w : World) : Tms w (.slice none 0 0) [] := ⟨none, 0, rfl, Nat.le_refl _, Nat.zero_le _, by simp, Or.inl rfl⟩
/-- The i-th of them. -/
theorem Tms.get {w : World} {a : Option Addr} {m c : Nat} {l : List Tm} (h : Tms w (.slice a m c) l) {i : Nat} {x : Tm} (hx : l[i]? = some x) :
    ∃ b off k n s u, a = some ⟨b, off, none⟩ ∧ b < w.heap.size ∧ x.k = k ∧ x.n = n ∧ x.s = s ∧ w.cell? ⟨b, off + i * 4, none⟩ = some (.int .i64 k) ∧ w.cell? ⟨b, off + i * 4 + 1, none⟩ = some (.int .i64 n) ∧ w.cell? ⟨b, off + i * 4 + 2, none⟩ = some (.string s) ∧ w.cell? ⟨b, off + i * 4 + 3, none⟩ = some u ∧ Tms w u x.args ∧
      TmV w x (.agg #[.int .i64 k, .int .i64 n, .string s, u]) := by
  obtain ⟨a', c', e, h1, h2, h3, h4⟩ := h
  cases e
  rcases h4 with rfl | ⟨b, off, rfl, hb, hr⟩
  · simp at hx
  · obtain ⟨c0, c1, c2, c3, d0, d1, d2, d3, d4⟩ := hr.get i x hx
    cases x with
    | mk k n s ts =>
      obtain ⟨u, hu, g1, g2, g3, g4⟩ := tmV_iff.1 d4
      simp only [Value.agg.injEq] at hu
      have hu' := congrArg Array.toList hu
      simp only [List.cons.injEq, and_true] at hu'
      obtain ⟨rfl, rfl, rfl, rfl⟩ := hu'
      exact ⟨b, off, k, n, s, _, rfl, hb, rfl, rfl, rfl, d0, d1, d2, d3, g4, d4⟩
theorem Tms.len {w : World} {v : Value} {l : List Tm} (h : Tms w v l) : ∃ a c, v = .slice a l.length c ∧ l.length ≤ c ∧ c ≤ maxLen ∧ l.length * 56 ≤ BIG := by
  obtain ⟨a, c, h1, h2, h3, h4, _⟩ := h
  exact ⟨a, c, h1, h2, h3, h4⟩
end Go.Proofs.YtaojalicnnnkmaaGreatDoor
/- Terms that came in: one, a slice of them. -/
namespace Go.Proofs.YtaojalicnnnkmaaGreatDoor
open Go.RowKit Go.ChangeShapes Go.WideShapes Go.ChangeAt Go.Deep
set_option maxRecDepth 100000

theorem wf_range {a : Int} (h : (Lit.int .i64 a).wf = true) : I64 a := by
  unfold I64
  simpa [Lit.wf, IntKind.min, IntKind.max, IntKind.signed, IntKind.bits] using h
section
variable {H : Type} {enc : TypeId × Value → H} {W : World}
/-- A slice's reading, where each of its elements' readings is a term. -/
theorem tms_parse {n : Nat} {c : Value} {D : DataW H} {pl : List MemPlace} (hd : DataW.trod enc Tryz.prog W 0 (fun _ => true) true n 29 [c] = some (D, pl)) (hw : ∀ m ∈ D.weights Tryz.prog 29, m ≤ 140737488351232)
    (ih : ∀ (d : DataW H), SizeOf.sizeOf d < SizeOf.sizeOf D → ∀ (n : Nat) (cs : List Value) (pl : List MemPlace), DataW.trod enc Tryz.prog W 0 (fun _ => true) true n 31 cs = some (d, pl) → (∀ m ∈ d.weights Tryz.prog 31, m ≤ 140737488351232) → ∃ x : Tm, TmV W x (.agg cs.toArray) ∧ cs.length = 4) :
    ∃ l : List Tm, Tms W c l := by
  have hc : Tryz.prog.cellsOf 31 = 4 := by kernel_rfl
  have hb : Tryz.prog.bytesOf 31 = 56 := by kernel_rfl
  rcases open_slice Tryz.underlying29 hd with ⟨hcs, _⟩ | ⟨a, n, cc, m, n', D', Pl, hcs, _, hl, hm, hz, hd', hi⟩
  · obtain rfl := (List.cons.inj hcs).1
    exact ⟨[], Tms.nil W⟩
  · obtain rfl := (List.cons.inj hcs).1
    simp at hz
    subst hz
    simp only [Prod.mk.injEq] at hd'
    obtain ⟨rfl, rfl⟩ := hd'
    have hbig := hw ((((List.range n).map D').length + ((List.range (m - n)).map fun j => D' (n + j)).length) * Tryz.prog.bytesOf 31) (by simp [DataW.weights, Tryz.underlying29])
    rw [hb] at hbig
    simp at hbig
    obtain ⟨xs, hxl, hxs⟩ := list_choose (Q := fun i (y : Tm) => ∃ cs', W.cells? 0 (a.add (i * 4)) 4 = some cs' ∧ TmV W y (.agg cs'.toArray) ∧ cs'.length = 4) n (fun i hin => by
      obtain ⟨cs', h1, h2⟩ := hi i (by omega)
      rw [hc] at h1
      have hmem : D' i ∈ (List.range n).map D' := List.mem_map_of_mem (f := D') (List.mem_range.2 hin)
      obtain ⟨y, hy1, hy2⟩ := ih (D' i) (by
        have := List.sizeOf_lt_of_mem hmem
        simp only [DataW.slice.sizeOf_spec]
        omega) n' cs' (Pl i) h2 (fun k hk => hw k (by
        simp only [DataW.weights, Tryz.underlying29, List.mem_cons, List.mem_append]
        exact Or.inr (Or.inl (weights_all_mem hmem k hk))))
      exact ⟨y, cs', h1, hy1, hy2⟩)
    refine ⟨xs, some a, m, by rw [hxl], by omega, hm, by unfold BIG; omega, ?_⟩
    by_cases h0 : n = 0
    · left; exact List.length_eq_zero_iff.1 (by omega)
    right
    obtain ⟨y0, hy0⟩ : ∃ y0, xs[0]? = some y0 := ⟨_, List.getElem?_eq_getElem (by omega)⟩
    obtain ⟨cs0, hq, _, _⟩ := hxs 0 y0 hy0
    obtain ⟨_, hl0, hat0⟩ := World.cells?_some hq
    have hx0 := hat0 0 (by omega)
    have hs0 : a.spot = none := by
      rw [List.getElem?_eq_getElem (by omega)] at hx0
      have e1 := spot_of_cell hx0
      rw [Nat.zero_mul] at e1
      have : a.add 0 = a := by
        rcases a with ⟨xb, xo, xs'⟩; unfold Addr.add; split <;> simp_all
      rw [this] at e1; exact e1
    rcases a with ⟨xb, xo, xs'⟩
    cases (show xs' = none from hs0)
    refine ⟨xb, xo, rfl, ?_, TmRow.mk fun i y hy => ?_⟩
    · rw [List.getElem?_eq_getElem (by omega), add_plain, add_plain] at hx0; exact World.block_lt_of_cell? _ _ hx0
    · obtain ⟨cs', hq', hv, hl4⟩ := hxs i y hy
      obtain ⟨_, hl', hat⟩ := World.cells?_some hq'
      obtain ⟨c0, c1, c2, c3, rfl⟩ : ∃ c0 c1 c2 c3, cs' = [c0, c1, c2, c3] := by
        match cs', hl4 with
        | [a, b, c, d], _ => exact ⟨a, b, c, d, rfl⟩
      have t0 := hat 0 (by omega)
      have t1 := hat 1 (by omega)
      have t2 := hat 2 (by omega)
      have t3 := hat 3 (by omega)
      rw [add_plain, add_plain] at t0 t1 t2 t3
      exact ⟨c0, c1, c2, c3, t0, t1, t2, t3, hv⟩
theorem term_parse : ∀ (N : Nat) (D : DataW H), SizeOf.sizeOf D ≤ N → ∀ (n : Nat) (cs : List Value) (pl : List MemPlace), DataW.trod enc Tryz.prog W 0 (fun _ => true) true n 31 cs = some (D, pl) →
    (∀ m ∈ D.weights Tryz.prog 31, m ≤ 140737488351232) → ∃ x : Tm, TmV W x (.agg cs.toArray) ∧ cs.length = 4
  | 0, D, hN, n, cs, pl, hd, hw => by
    cases D <;> simp at hN
  | N + 1, D, hN, n, cs, pl, hd, hw => by
    obtain ⟨xs, n', rfl, hx, hl, hxl, hf⟩ := DataW.trod_struct Tryz.underlying31 hd
    have e1 : Tryz.prog.cellsOf 31 = 4 := by kernel_rfl
    have e2 : Tryz.prog.cellsOf 3 = 1 := by kernel_rfl
    have e3 : Tryz.prog.cellsOf 2 = 1 := by kernel_rfl
    have e4 : Tryz.prog.cellsOf 9 = 1 := by kernel_rfl
    have e5 : Tryz.prog.cellsOf 29 = 1 := by kernel_rfl
    rw [e1] at hl
    obtain ⟨c0, c1, c2, c3, rfl⟩ : ∃ c0 c1 c2 c3, cs = [c0, c1, c2, c3] := by
      match cs, hl with
      | [a, b, c, d], _ => exact ⟨a, b, c, d, rfl⟩
    obtain ⟨y0, y1, y2, y3, rfl⟩ : ∃ y0 y1 y2 y3, xs = [y0, y1, y2, y3] := by
      match xs, hxl with
      | [a, b, c, d], _ => exact ⟨a, b, c, d, rfl⟩
    have f0 : DataW.trod enc Tryz.prog W 0 (fun _ => true) true n' 3 (([c0, c1, c2, c3].drop 0).take (Tryz.prog.cellsOf 3)) = [y0, y1, y2, y3][0]? := hf 0 _ rfl
    have f1 : DataW.trod enc Tryz.prog W 0 (fun _ => true) true n' 2 (([c0, c1, c2, c3].drop 1).take (Tryz.prog.cellsOf 2)) = [y0, y1, y2, y3][1]? := hf 1 _ rfl
    have f2 : DataW.trod enc Tryz.prog W 0 (fun _ => true) true n' 9 (([c0, c1, c2, c3].drop 2).take (Tryz.prog.cellsOf 9)) = [y0, y1, y2, y3][2]? := hf 2 _ rfl
    have f3 : DataW.trod enc Tryz.prog W 0 (fun _ => true) true n' 29 (([c0, c1, c2, c3].drop 3).take (Tryz.prog.cellsOf 29)) = [y0, y1, y2, y3][3]? := hf 3 _ rfl
    rw [e2] at f0
    rw [e3] at f1
    rw [e4] at f2
    rw [e5] at f3
    simp only [List.drop_zero, List.drop_succ_cons, List.take_succ_cons, List.take_zero, List.getElem?_cons_zero, List.getElem?_cons_succ] at f0 f1 f2 f3
    obtain ⟨k, q0, r0, s0⟩ := DataW.trod_int Tryz.underlying3 f0
    obtain ⟨m, q1, r1, s1⟩ := DataW.trod_int Tryz.underlying2 f1
    obtain ⟨s, q2, r2, s2⟩ := DataW.trod_string Tryz.underlying9 f2
    obtain rfl := (List.cons.inj q0).1
    obtain rfl := (List.cons.inj q1).1
    obtain rfl := (List.cons.inj q2).1
    simp only [Prod.mk.injEq] at hx
    obtain ⟨hx1, _⟩ := hx
    have h0 := hw s.data.toList.length (by
      rw [hx1, r2]
      simp [DataW.weights, Tryz.underlying31, DataW.weightsEach])
    obtain ⟨l, hl⟩ := tms_parse (D := y3.1) (pl := y3.2) f3 (fun j hj => hw j (by
      rw [hx1]
      simp [DataW.weights, Tryz.underlying31, DataW.weightsEach, hj])) (fun d hds => term_parse N d (by
      have : SizeOf.sizeOf y3.1 < SizeOf.sizeOf D := by
        rw [hx1]
        simp only [List.map_cons, List.map_nil, DataW.agg.sizeOf_spec, List.cons.sizeOf_spec]
        omega
      omega))
    exact ⟨.mk k m s l, tmV_iff.2 ⟨c3, rfl, h0, wf_range s0, wf_range s1, hl⟩, rfl⟩
end
def IsTm (w : World) (v : Value) (x : Tm) : Prop := TmV w x v
theorem term_of_trod {H : Type} {enc : TypeId × Value → H} {W : World} {v : Value} {d : DataW H} {ps : List MemPlace} (h : DataW.Trod enc Tryz.prog W 0 (fun _ => true) true 31 v d ps)
    (hv : Value.okWide Tryz.prog W .any 0 31 v) (hw : ∀ n ∈ d.weights Tryz.prog 31, n ≤ 140737488351232) : ∃ x, IsTm W v x := by
  obtain ⟨cs, rfl, _⟩ := okWide_struct Tryz.underlying31 hv
  obtain ⟨fuel, hf⟩ := h
  obtain ⟨x, hx, _⟩ := term_parse _ d (Nat.le_refl _) _ _ _ hf hw
  refine ⟨x, ?_⟩
  have : (Value.agg cs).cells.toList.toArray = cs := by simp [Value.cells]
  rw [this] at hx
  exact hx
end Go.Proofs.YtaojalicnnnkmaaGreatDoor
/- Small facts of ours on worlds: what is laid anew, what is drawn, a row that stays. Nothing here speaks of one program. -/
namespace Go.Proofs.YtaojalicnnnkmaaGreatDoor
open Go.RowKit
theorem bel1' (w : World) (o : Obj) : Below w.heap.size w (w.alloc o) := (Below.refl _ _).alloc (Nat.le_refl _) o
theorem bel_drewN {B : Nat} {a w : World} (h : Below B a w) (n : Nat) : Below B a (w.drewN n) := ⟨h.os, h.tape, h.output, h.size, h.block⟩
theorem row_ext {w w' : World} {B k n : Nat} {e : TypeId} {v : Value} {xs : List Value} (h : w.ownsRow B e k v n xs) (hb : Below w.heap.size w w') : w'.ownsRow B e k v n xs := by
  obtain ⟨h0, h1⟩ := h
  refine ⟨h0, ?_⟩
  rcases h1 with h1 | ⟨g, cap, cur, rfl, hg, hh, h2⟩
  · exact Or.inl h1
  · exact Or.inr ⟨g, cap, cur, rfl, hg, by rw [hb.block g (Array.getElem?_eq_some_iff.1 hh).1]; exact hh, h2⟩
end Go.Proofs.YtaojalicnnnkmaaGreatDoor
/- Terms: small facts; a term as a parameter. -/
namespace Go.Proofs.YtaojalicnnnkmaaGreatDoor
open Go.RowKit
set_option linter.unusedVariables false

abbrev box4 (k n : Int) (s : ByteArray) (u : Value) (ty : TypeId) : Obj := .cells #[.int .i64 k, .int .i64 n, .string s, u] ty
theorem mem_size {k n : Int} {s : ByteArray} {ts : List Tm} {y : Tm} {N : Nat} (h : sizeN (.mk k n s ts) ≤ N + 1) (hy : y ∈ ts) : sizeN y ≤ N := by
  have := sizes_mem hy
  rw [sizeN] at h
  omega
/-- A term that came in is laid anew as a parameter. -/
theorem box_cells (w : World) (ty : TypeId) (c0 c1 c2 c3 : Value) {wr : World} (hb : Below (w.alloc (.cells #[c0, c1, c2, c3] ty)).heap.size (w.alloc (.cells #[c0, c1, c2, c3] ty)) wr) :
    wr.cell? ⟨w.heap.size, 0, none⟩ = some c0 ∧ wr.cell? ⟨w.heap.size, 1, none⟩ = some c1 ∧ wr.cell? ⟨w.heap.size, 2, none⟩ = some c2 ∧ wr.cell? ⟨w.heap.size, 3, none⟩ = some c3 :=
  ⟨cell_later hb (by simp), cell_later hb (by simp), cell_later hb (by simp), cell_later hb (by simp)⟩
end Go.Proofs.YtaojalicnnnkmaaGreatDoor
/- append of whatever slice to a row of the call's own, of elements of however many cells: also of nothing. Nothing here speaks of one program. -/
namespace Go.Proofs.YtaojalicnnnkmaaGreatDoor
open Go.RowKit

theorem row_formk {w : World} {b e sz n : Nat} {v : Value} {xs : List Value} (h : w.ownsRow b e sz v n xs) : ∃ a c, v = .slice a n c ∧ n ≤ c := by
  rcases h.2 with ⟨rfl, h0⟩ | ⟨g, cap, cur, rfl, _, _, h1, _⟩
  · exact ⟨none, 0, by rw [h0], by omega⟩
  · exact ⟨_, cap, rfl, h1⟩
section
variable {P : Program}
theorem run_append_k (w : World) (base : Nat) (t ty e : TypeId) (i : TypeInfo) (z : Value) (size bytes : Nat) (ht : P.underlying t = some (.slice e)) (hi : P.info? e = some i) (hz : i.zero = some z) (hsize : i.size = size) (hpos : 0 < size) (hby : i.bytes = bytes) (hzs : z.cells.size = size)
    (v : Value) (n : Nat) (xs : List Value) (hown : w.ownsRow base e size v n xs) (ao : Option Addr) (m c : Nat) (news : List Value) (hl : news.length = m * size)
    (hsrc : m = 0 ∨ ∃ ad, ao = some ad ∧ ∀ j u, news[j]? = some u → w.cell? (ad.add j) = some u) (h1 : ∀ u ∈ news, u.oneCell' = true)
    (h63 : n + m ≤ maxLen) (hbytes : (n + m) * bytes ≤ 140737488355328) (hbase : base ≤ w.heap.size) :
    ∃ v' w', (Builtin.append_ #[t, t] ty #[v, .slice ao m c]).run P w = .ok v' w' ∧ w'.ownsRow base e size v' (n + m) (xs ++ news) ∧ w.grownBy w' v.ownBlock ∧ (v'.ownBlock = v.ownBlock ∨ v'.ownBlock = some w.heap.size) := by
  by_cases hm : m = 0
  · subst hm
    obtain rfl : news = [] := List.length_eq_zero_iff.1 (by simpa using hl)
    obtain ⟨a, cc, rfl, hle⟩ := row_formk hown
    have hs : Src P i.size t (.slice ao 0 c) 0 [] w := by
      refine ⟨Or.inl ⟨e, ht⟩, fun w' => rfl, ?_, ?_, by simp, by simp⟩
      · cases ao with
        | none => rfl
        | some ad => exact run_firstCells_some w i.size 0 ad 0 c [] (by simp) (by simp)
      · cases ao with
        | none => rfl
        | some ad => exact run_firstCells_some w.drew i.size 0 ad 0 c [] (by simp) (by simp)
    exact ⟨_, w, run_append_nothing w t t ty e i ht hi a n cc hle _ hs, by simpa using hown, ⟨rfl, rfl, rfl, Nat.le_refl _, fun _ _ _ => rfl⟩, Or.inl rfl⟩
  · rcases hsrc with h0 | ⟨ad, rfl, hc⟩
    · exact absurd h0 hm
    obtain ⟨v', w', r1, r2, r3, _, r5⟩ := run_append_own_at (P := P) w base t ty e i z size bytes ht hi hz hsize hby hzs hpos v n xs hown ad m c news (by omega) hc h1 h63 hbytes hbase
    exact ⟨v', w', r1, r2, r3, r5⟩
theorem wp_append_k {w : World} {o : Oper} {a : Act} {K : Act → World → Prop} {Q : Exit → Act → World → Prop} (s x : Operand) (t : TypeId)
    (ho : o.op = .call { callee := .builtin .append, args := #[s, x], argTypes := #[t, t] })
    (base : Nat) (e : TypeId) (i : TypeInfo) (z : Value) (size bytes : Nat) (ht : P.underlying t = some (.slice e)) (hi : P.info? e = some i) (hz : i.zero = some z) (hsize : i.size = size) (hpos : 0 < size) (hby : i.bytes = bytes) (hzs : z.cells.size = size)
    (v : Value) (n : Nat) (xs : List Value) (hs : a.eval s = v) (hown : w.ownsRow base e size v n xs) (ao : Option Addr) (m c : Nat) (news : List Value) (hx : a.eval x = .slice ao m c) (hl : news.length = m * size)
    (hsrc : m = 0 ∨ ∃ ad, ao = some ad ∧ ∀ j u, news[j]? = some u → w.cell? (ad.add j) = some u) (h1 : ∀ u ∈ news, u.oneCell' = true)
    (h63 : n + m ≤ maxLen) (hbytes : (n + m) * bytes ≤ 140737488355328) (hbase : base ≤ w.heap.size) (N : Nat) (L : List Value) (hN : N = n + m) (hL : L = xs ++ news)
    (h : ∀ (a' : Option Addr) (c' : Nat) (w' : World), w'.ownsRow base e size (.slice a' N c') N L → w.grownBy w' v.ownBlock → ((Value.slice a' N c').ownBlock = v.ownBlock ∨ (Value.slice a' N c').ownBlock = some w.heap.size) → K (a.put o.dst (.slice a' N c')) w') : o.wp P a w K Q := by
  subst hN hL
  obtain ⟨v', w', hr, h2, h3, h4⟩ := run_append_k (P := P) w base t o.type e i z size bytes ht hi hz hsize hpos hby hzs v n xs hown ao m c news hl hsrc h1 h63 hbytes hbase
  obtain ⟨a', c', rfl, _⟩ := row_formk h2
  unfold Oper.wp execOp
  simp only [ho, resolve, invoke, builtin, Sem.run_bind, Sem.run_pure, Result.andThen_ok, List.map_toArray, List.map_cons, List.map_nil, hs, hx, hr]
  exact h a' c' w' h2 h3 h4
theorem step_append_k {w : World} {ops : Array Oper} {o : Oper} {a : Act} {K : Act → World → Prop} {Q : Exit → Act → World → Prop} {E : Prop} (hgd : o.guard = none) (s x : Operand) (t : TypeId)
    (ho : o.op = .call { callee := .builtin .append, args := #[s, x], argTypes := #[t, t] })
    (base : Nat) (e : TypeId) (i : TypeInfo) (z : Value) (size bytes : Nat) (ht : P.underlying t = some (.slice e)) (hi : P.info? e = some i) (hz : i.zero = some z) (hsize : i.size = size) (hpos : 0 < size) (hby : i.bytes = bytes) (hzs : z.cells.size = size)
    (v : Value) (n : Nat) (xs : List Value) (hs : a.eval s = v) (hown : w.ownsRow base e size v n xs) (ao : Option Addr) (m c : Nat) (news : List Value) (hx : a.eval x = .slice ao m c) (hl : news.length = m * size)
    (hsrc : m = 0 ∨ ∃ ad, ao = some ad ∧ ∀ j u, news[j]? = some u → w.cell? (ad.add j) = some u) (h1 : ∀ u ∈ news, u.oneCell' = true)
    (h63 : n + m ≤ maxLen) (hbytes : (n + m) * bytes ≤ 140737488355328) (hbase : base ≤ w.heap.size) (N : Nat) (L : List Value) (hN : N = n + m) (hL : L = xs ++ news)
    (h : ∀ (a' : Option Addr) (c' : Nat) (w' : World), w'.ownsRow base e size (.slice a' N c') N L → w.grownBy w' v.ownBlock → ((Value.slice a' N c').ownBlock = v.ownBlock ∨ (Value.slice a' N c').ownBlock = some w.heap.size) → K (a.put o.dst (.slice a' N c')) w') :
    if Region.wanted o (yielded ops a.tmps) = true then Oper.wp P o a w K Q else E := by
  have hw : Region.wanted o (yielded ops a.tmps) = true := by simp [Region.wanted, hgd]
  rw [if_pos hw]
  exact wp_append_k s x t ho base e i z size bytes ht hi hz hsize hpos hby hzs v n xs hs hown ao m c news hx hl hsrc h1 h63 hbytes hbase N L hN hL h
theorem wpList_append_k {w : World} {ops : Array Oper} {rest : List Oper} {o : Oper} {a : Act} {Q : Exit → Act → World → Prop} (hgd : o.guard = none) (s x : Operand) (t : TypeId)
    (ho : o.op = .call { callee := .builtin .append, args := #[s, x], argTypes := #[t, t] })
    (base : Nat) (e : TypeId) (i : TypeInfo) (z : Value) (size bytes : Nat) (ht : P.underlying t = some (.slice e)) (hi : P.info? e = some i) (hz : i.zero = some z) (hsize : i.size = size) (hpos : 0 < size) (hby : i.bytes = bytes) (hzs : z.cells.size = size)
    (v : Value) (n : Nat) (xs : List Value) (hs : a.eval s = v) (hown : w.ownsRow base e size v n xs) (ao : Option Addr) (m c : Nat) (news : List Value) (hx : a.eval x = .slice ao m c) (hl : news.length = m * size)
    (hsrc : m = 0 ∨ ∃ ad, ao = some ad ∧ ∀ j u, news[j]? = some u → w.cell? (ad.add j) = some u) (h1 : ∀ u ∈ news, u.oneCell' = true)
    (h63 : n + m ≤ maxLen) (hbytes : (n + m) * bytes ≤ 140737488355328) (hbase : base ≤ w.heap.size) (N : Nat) (L : List Value) (hN : N = n + m) (hL : L = xs ++ news)
    (h : ∀ (a' : Option Addr) (c' : Nat) (w' : World), w'.ownsRow base e size (.slice a' N c') N L → w.grownBy w' v.ownBlock → ((Value.slice a' N c').ownBlock = v.ownBlock ∨ (Value.slice a' N c').ownBlock = some w.heap.size) → wpList P ops Q rest (a.put o.dst (.slice a' N c')) w') :
    wpList P ops Q (o :: rest) a w := by
  refine wpList_plain hgd fun K hK => ?_
  exact wp_append_k s x t ho base e i z size bytes ht hi hz hsize hpos hby hzs v n xs hs hown ao m c news hx hl hsrc h1 h63 hbytes hbase N L hN hL (fun a' c' w' h2 h3 h4 => hK _ _ (h a' c' w' h2 h3 h4))
end
end Go.Proofs.YtaojalicnnnkmaaGreatDoor
/- A row of the call's own, of elements of S cells each, reads as its elements; what is appended to it. Nothing here speaks of one program. -/
namespace Go.Proofs.YtaojalicnnnkmaaGreatDoor
open Go.RowKit

section
variable {α : Type} {S : Nat} {cells : α → List Value}
theorem flat_len (hc : ∀ x, (cells x).length = S) (L : List α) : (L.flatMap cells).length = L.length * S := by
  induction L with
  | nil => simp
  | cons a r ih => rw [List.flatMap_cons, List.length_append, ih, hc, List.length_cons, Nat.add_mul, Nat.one_mul, Nat.add_comm]
theorem flat_get (hc : ∀ x, (cells x).length = S) : ∀ (L : List α) (i : Nat) (x : α), L[i]? = some x → ∀ j, j < S → (L.flatMap cells)[i * S + j]? = (cells x)[j]?
  | [], i, x, h, _, _ => by simp at h
  | a :: r, 0, x, h, j, hj => by
    simp at h
    subst h
    rw [List.flatMap_cons, Nat.zero_mul, Nat.zero_add, List.getElem?_append_left (by rw [hc]; exact hj)]
  | a :: r, i + 1, x, h, j, hj => by
    have e : (i + 1) * S + j = S + (i * S + j) := by rw [Nat.add_mul, Nat.one_mul]; omega
    rw [List.flatMap_cons, List.getElem?_append_right (by rw [hc, e]; omega), hc, e, Nat.add_sub_cancel_left]
    exact flat_get hc r i x (by simpa using h) j hj
/-- What the call owns reads as these. -/
theorem Elems.owned (hc : ∀ x, (cells x).length = S) {w : World} {B : Nat} {e : TypeId} {v : Value} {L : List α} (h : w.ownsRow B e S v L.length (L.flatMap cells)) : Elems S cells w v L := by
  rcases h.2 with ⟨rfl, h0⟩ | ⟨g, cap, cur, rfl, _, hg, h1, h2, h3, h4⟩
  · obtain rfl := List.length_eq_zero_iff.1 h0
    exact ⟨none, 0, rfl, Nat.le_refl _, Nat.zero_le _, Or.inl rfl⟩
  · refine ⟨_, cap, rfl, h1, h2, Or.inr ⟨g, 0, rfl, (Array.getElem?_eq_some_iff.1 hg).1, fun i x hx j u hu => ?_⟩⟩
    have hj : j < S := by have := (List.getElem?_eq_some_iff.1 hu).1; rwa [hc] at this
    have hi := (List.getElem?_eq_some_iff.1 hx).1
    have h5 := flat_get hc L i x hx j hj
    have hle : i * S + S ≤ L.length * S := by
      have : (i + 1) * S ≤ L.length * S := Nat.mul_le_mul_right _ hi
      rwa [Nat.add_mul, Nat.one_mul] at this
    rw [← h4, List.getElem?_take, if_pos (by omega), hu] at h5
    rw [Nat.zero_add, World.cell?, hg]
    simpa using h5
end
theorem cell_new (w : World) (cs : Array Value) (ty : TypeId) (j : Nat) (u : Value) (h : cs.toList[j]? = some u) : (w.alloc (.cells cs ty)).cell? ((⟨w.heap.size, 0, none⟩ : Addr).add j) = some u := by
  have h1 : (w.alloc (.cells cs ty)).heap[w.heap.size]? = some (.cells cs ty) := by
    show (w.heap.push _)[w.heap.size]? = _
    simp
  rw [add_plain, Nat.zero_add, World.cell?, h1]
  simpa using h
end Go.Proofs.YtaojalicnnnkmaaGreatDoor
/- A row of terms of the call's own; a term's fields. Nothing here speaks of one program. -/
namespace Go.Proofs.YtaojalicnnnkmaaGreatDoor
open Go.RowKit
set_option linter.unusedVariables false

theorem TmV.full {w : World} {x : Tm} {v : Value} (h : TmV w x v) : ∃ k n s a m c, v = .agg #[.int .i64 k, .int .i64 n, .string s, .slice a m c] := by
  cases x with
  | mk k n s ts =>
    obtain ⟨u, rfl, _, _, _, hu⟩ := tmV_iff.1 h
    obtain ⟨a, c, rfl, _⟩ := hu.len
    exact ⟨_, _, _, _, _, _, rfl⟩
/-- A term beside the value of its Args. -/
abbrev TmP := Tm × Value
def pCells (p : TmP) : List Value := [.int .i64 p.1.k, .int .i64 p.1.n, .string p.1.s, p.2]
def pVal (p : TmP) : Value := .agg #[.int .i64 p.1.k, .int .i64 p.1.n, .string p.1.s, p.2]
theorem pCells_len (p : TmP) : (pCells p).length = 4 := rfl
theorem TmV.pair {w : World} {x : Tm} {v : Value} (h : TmV w x v) : ∃ u, v = pVal (x, u) := by
  cases x with
  | mk k n s ts =>
    obtain ⟨u, rfl, _⟩ := tmV_iff.1 h
    exact ⟨u, rfl⟩
theorem pCells_one (L : List TmP) {w : World} (h : ∀ p ∈ L, TmV w p.1 (pVal p)) : ∀ u ∈ L.flatMap pCells, u.oneCell' = true := by
  intro u hu
  obtain ⟨p, hp, hx⟩ := List.mem_flatMap.1 hu
  have hv := h p hp
  obtain ⟨x, q⟩ := p
  cases x with
  | mk k n s ts =>
    obtain ⟨u', hu', _, _, _, hq⟩ := tmV_iff.1 hv
    have : u' = q := by
      simp only [pVal, Value.agg.injEq] at hu'
      have h2 := congrArg Array.toList hu'
      simp only [List.cons.injEq, and_true] at h2
      exact h2.2.2.2.symm
    subst this
    obtain ⟨a, c, rfl, _⟩ := hq.len
    simp [pCells] at hx
    rcases hx with rfl | rfl | rfl | rfl <;> rfl
def RowP (w : World) (base : Nat) (ty : TypeId) (v : Value) (ps : List TmP) : Prop := w.ownsRow base ty 4 v ps.length (ps.flatMap pCells)
/-- What the call owns reads as these terms. -/
theorem RowP.terms {w : World} {base : Nat} {ty : TypeId} {v : Value} {ps : List TmP} (h : RowP w base ty v ps) (hp : ∀ p ∈ ps, TmV w p.1 (pVal p)) (hl : ps.length * 56 ≤ BIG) : Tms w v (ps.map (·.1)) := by
  obtain ⟨a, c, rfl, h1, h2, h3⟩ := Elems.owned pCells_len h
  refine ⟨a, c, by rw [List.length_map], by rw [List.length_map]; exact h1, h2, by rw [List.length_map]; exact hl, ?_⟩
  rcases h3 with rfl | ⟨b, off, rfl, hb, hc⟩
  · left; rfl
  · refine Or.inr ⟨b, off, rfl, hb, TmRow.mk fun i x hx => ?_⟩
    rw [List.getElem?_map] at hx
    obtain ⟨p, hpi, rfl⟩ := Option.map_eq_some_iff.1 hx
    have hv := hp p (List.mem_of_getElem? hpi)
    exact ⟨_, _, _, _, hc i p hpi 0 _ rfl, by rw [Nat.add_assoc]; exact hc i p hpi 1 _ rfl, by rw [Nat.add_assoc]; exact hc i p hpi 2 _ rfl, by rw [Nat.add_assoc]; exact hc i p hpi 3 _ rfl, hv⟩
end Go.Proofs.YtaojalicnnnkmaaGreatDoor
