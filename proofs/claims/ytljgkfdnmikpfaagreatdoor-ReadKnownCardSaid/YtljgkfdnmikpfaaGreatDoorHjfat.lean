import Derived.Test.YtljgkfdnmikpfaaGreatDoorHjfas
import Derived.Test.YtljgkfdnmikpfaaGreatDoorHjfaq
import Derived.Test.YtljgkfdnmikpfaaGreatDoorHjfaa
import Derived.Lib.ParseIntBTie
import Derived.Lib.ItoaMem
import Derived.Lib.ItoaLen
import Derived.Lib.Strings
import Derived.Test.YtljgkfdnmikpfaaGreatDoorHjfaf
import Derived.Deep.RegionHeld3
import Derived.Test.YtljgkfdnmikpfaaGreatDoorHjfan
import Derived.Laws.StructEq
import Derived.Test.YtljgkfdnmikpfaaGreatDoorCards
import Derived.Test.YtljgkfdnmikpfaaGreatDoorTie
import Derived.LaidLaws
import Derived.Lay
import Derived.LaidSub
import Derived.SevenTiedAt
import Derived.Lib.LaidTab
import Derived.Stop.LaidErr
import Derived.Test.YtljgkfdnmikpfaaGreatDoorHjfab
import Derived.Test.YtljgkfdnmikpfaaGreatDoorHjfap
import Derived.Deep.QuietTactic
set_option linter.unusedVariables false
set_option linter.unusedSimpArgs false
/- The document's own Plain and Quote (sizarref1), at every name. -/
namespace Go.Proofs.YtljgkfdnmikpfaaGreatDoor
open Go.RowKit
set_option linter.unusedVariables false
set_option maxRecDepth 100000

theorem rcut_ok {s : ByteArray} {l : List (TokB × Nat)} {w : World} (hs : s.size ≤ 140737488351232) (h : cutB (bl s) = .ok l) :
    Calls Tryz.prog 77 #[.string s] w fun e w' => ∃ (ao : Option Addr) (cv : Nat), e = .returned (.tuple #[.slice ao l.length cv, .int .i64 (s.size : Int), .int .i64 0]) ∧ Toks w' (.slice ao l.length cv) l ∧ Below w.heap.size w w' := by
  have := rcut_any s w hs
  rw [h] at this
  refine this.mono ?_
  rintro e w' ⟨⟨ao, cv, rfl, hr⟩, hb⟩
  exact ⟨ao, cv, rfl, Elems.owned tCells_len hr, hb⟩
theorem rcut_bad {s : ByteArray} {p : Nat} {o : Bool} {w : World} (hs : s.size ≤ 140737488351232) (h : cutB (bl s) = .bad p o) :
    Calls Tryz.prog 77 #[.string s] w fun e w' => e = .returned (.tuple #[.slice none 0 0, .int .i64 (p : Int), .int .i64 (if o then 3 else 2)]) ∧ Below w.heap.size w w' := by
  have := rcut_any s w hs
  rw [h] at this
  exact this
set_option maxHeartbeats 1600000 in
theorem rplain_any (s : ByteArray) (w : World) (hs : s.size ≤ 140737488351232) : Calls Tryz.prog 141 #[.string s] w fun e w' => e = .returned (.bool (plainB (bl s))) ∧ Below w.heap.size w w' := by
  have no : ∀ X, cutB (bl s) = X → (∀ t p, X = .ok [(t, p)] → ¬ (t.kind = 1 ∧ t.text = bl s)) → plainB (bl s) = false := fun X hX h => by
    cases hp : plainB (bl s) with
    | false => rfl
    | true =>
      obtain ⟨t, h1, h2⟩ := plain_yes hp
      exact absurd h2 (h t 0 (hX.symm.trans h1))
  cases hX : cutB (bl s) with
  | bad p o =>
    rw [no _ hX (fun t p h => by cases h)]
    have C := fun w => @rcut_bad s p o w hs hX
    clear no hX
    cases o
    · go_enter Tryz.func141, Tryz.ntmps141
      (go_wp2_with fail; go_fit (C _); rintro e w1 ⟨rfl, b1⟩)
      go_wp2
      go_ret
      exact ⟨rfl, b1⟩
    · go_enter Tryz.func141, Tryz.ntmps141
      (go_wp2_with fail; go_fit (C _); rintro e w1 ⟨rfl, b1⟩)
      go_wp2
      go_ret
      exact ⟨rfl, b1⟩
  | ok l =>
    have C := fun w => @rcut_ok s l w hs hX
    by_cases h1 : l.length = 1
    · obtain ⟨⟨t, p⟩, rfl⟩ := List.length_eq_one_iff.1 h1
      have hno := no _ hX
      clear no
      have hyes := fun a b => plain_no hX (t := t) (p := p) a b
      clear hX h1
      have C' : ∀ w, Calls Tryz.prog 77 #[.string s] w fun e w' => ∃ (ao : Option Addr) (cv : Nat), e = .returned (.tuple #[.slice ao 1 cv, .int .i64 (s.size : Int), .int .i64 0]) ∧ Toks w' (.slice ao 1 cv) [(t, p)] ∧ Below w.heap.size w w' := C
      clear C
      by_cases hk : t.kind = 1
      · by_cases ht : t.text = bl s
        · rw [hyes hk ht]
          have HT := Lib.hid (show (t.text == s.toList) = true by rw [Lib.toList_data, ht]; exact beq_self_eq_true _)
          clear hno hyes ht
          go_enter Tryz.func141, Tryz.ntmps141
          (go_wp2_with fail; go_fit (C' _); rintro e w1 ⟨ao, cv, rfl, ht1, b1⟩)
          obtain ⟨b, off, rfl, hb, c0, c1, c2, c3, c4⟩ := ht1.cells (k := 0) (x := (t, p)) rfl
          simp only [Nat.zero_mul, Nat.add_zero] at c0 c1 c2 c3 c4
          simp only [hk] at c0
          go_wp2
          go_ret
          exact ⟨ret_bool HT.out, b1⟩
        · rw [hno (fun t' p' e h => by cases e; exact ht h.2)]
          have HT := Lib.hid (show (t.text == s.toList) = false by rw [Lib.toList_data]; exact beq_false_of_ne ht)
          clear hno hyes ht
          go_enter Tryz.func141, Tryz.ntmps141
          (go_wp2_with fail; go_fit (C' _); rintro e w1 ⟨ao, cv, rfl, ht1, b1⟩)
          obtain ⟨b, off, rfl, hb, c0, c1, c2, c3, c4⟩ := ht1.cells (k := 0) (x := (t, p)) rfl
          simp only [Nat.zero_mul, Nat.add_zero] at c0 c1 c2 c3 c4
          simp only [hk] at c0
          go_wp2
          go_ret
          exact ⟨ret_bool HT.out, b1⟩
      · rw [hno (fun t' p' e h => by cases e; exact hk h.1)]
        have hk' : ((t.kind : Int) == 1) = false := by
          apply beq_false_of_ne
          intro e
          exact hk (by omega)
        clear hno hyes hk
        obtain ⟨z, hz⟩ : ∃ z : Int, (t.kind : Int) = z := ⟨_, rfl⟩
        go_enter Tryz.func141, Tryz.ntmps141
        (go_wp2_with fail; go_fit (C' _); rintro e w1 ⟨ao, cv, rfl, ht1, b1⟩)
        obtain ⟨b, off, rfl, hb, c0, c1, c2, c3, c4⟩ := ht1.cells (k := 0) (x := (t, p)) rfl
        simp only [Nat.zero_mul, Nat.add_zero] at c0 c1 c2 c3 c4
        simp only [hz] at c0 hk'
        clear hz
        go_wp2
        go_ret
        exact ⟨rfl, b1⟩
    · rw [no _ hX (fun t p h => by cases h; simp at h1)]
      clear no hX
      have h1' : ((l.length : Int) == 1) = false := by
        apply beq_false_of_ne
        intro e
        exact h1 (by omega)
      generalize hn : l.length = n at C h1'
      clear hn h1
      go_enter Tryz.func141, Tryz.ntmps141
      (go_wp2_with fail; go_fit (C _); rintro e w1 ⟨ao, cv, rfl, ht1, b1⟩)
      go_wp2
      go_ret
      exact ⟨rfl, b1⟩
/-- What stands for a byte in quotes. -/
theorem esc_is : ∀ c, (if c == 10 then mayQ c && escQ c == [92, 110] else if c == 9 then mayQ c && escQ c == [92, 116] else if c == 92 || c == 39 then mayQ c && escQ c == [92, c] else if shownB c then mayQ c && escQ c == [c] else !mayQ c) = true := u8_all (g := fun _ => true) (by decide +kernel)
set_option maxHeartbeats 4000000 in
theorem rquote_any (s : ByteArray) (w : World) (hs : s.size ≤ 140737488351232) : Calls Tryz.prog 101 #[.string s] w fun e w' => e = .returned (.string ⟨(quoteB (bl s)).toArray⟩) ∧ Below w.heap.size w w' := by
  have P := fun w => rplain_any s w hs
  obtain ⟨Q, hQ0⟩ : ∃ Q, quoteB (bl s) = Q := ⟨_, rfl⟩
  cases hp : plainB (bl s)
  · rw [hp] at P
    by_cases hbig : 64 < s.size
    · rw [quote_long (show 64 < (bl s).length from hbig)]
      clear hp hQ0
      go_enter Tryz.func101, Tryz.ntmps101
      (go_wp2_with fail; go_fit (P _); rintro e w1 ⟨rfl, b1⟩)
      go_wp2
      go_ret
      exact ⟨rfl, b1⟩
    have hQ : quoteB (bl s) = if (bl s).all mayQ then 39 :: ((bl s).flatMap escQ ++ [39]) else [] := by
      unfold quoteB
      rw [if_neg (by rw [hp]; simp)]
      have : decide ((bl s).length ≤ 64) = true := decide_eq_true (show s.size ≤ 64 by omega)
      rw [this, Bool.true_and]
    generalize quoteB (bl s) = Q at hQ hQ0
    have HQ := Lib.hid hQ
    clear hp hQ hQ0
    go_enter Tryz.func101, Tryz.ntmps101
    (go_wp2_with fail; go_fit (P _); rintro e w1 ⟨rfl, b1⟩)
    have B1 := Lib.hid b1
    clear b1
    go_wp2_with fail
    go_loop [3, 4] (fun o v => ∃ (k : Nat) (t : ByteArray), k ≤ s.size ∧ v = .int .i64 k ∧ o = .string t ∧ t.size ≤ 2 * k + 1 ∧
        Hid (bl t = 39 :: ((bl s).take k).flatMap escQ ∧ ((bl s).take k).all mayQ = true)) (fun _ v => s.size - (intOf v).toNat)
    case atStart => exact ⟨0, ⟨#[39]⟩, Nat.zero_le _, rfl, rfl, Nat.le_refl _, Lib.hid ⟨rfl, rfl⟩⟩
    case round =>
      obtain ⟨k, t, hk, rfl, rfl, htk, HL⟩ := hrel
      by_cases hlt : k < s.size
      · have hlk : (bl s).take (k + 1) = (bl s).take k ++ [s[k]] := by
          rw [List.take_add_one, List.getElem?_eq_getElem (show k < (bl s).length from hlt)]
          rfl
        have hxs : bl (s.extract k (k + 1)) = [s[k]] := ext_one s k hlt
        have hzs : (s.extract k (k + 1)).size = 1 := by simp; omega
        obtain ⟨c, hc⟩ : ∃ c, s[k] = c := ⟨_, rfl⟩
        have hc' : ∀ h, s[k]'h = c := fun _ => hc
        rw [hc] at hlk hxs
        have hez := esc_is c
        have step : ∀ q : ByteArray, mayQ c = true → escQ c = bl q → Hid (bl (t ++ q) = 39 :: ((bl s).take (k + 1)).flatMap escQ ∧ ((bl s).take (k + 1)).all mayQ = true) := fun q hm hq => Lib.hid ⟨by
          rw [hlk, List.flatMap_append, List.flatMap_singleton, hq, bl_app, HL.out.1, List.cons_append], by rw [hlk, List.all_append, HL.out.2]; simp [hm]⟩
        have hz1 : ¬ 9223372036854775807 < t.size + 2 := by omega
        have hz2 : ¬ 9223372036854775807 < t.size + 1 := by omega
        have hz3 : ¬ 9223372036854775807 < t.size + 1 + 1 := by omega
        cases h10 : (c == 10)
        · have v10 : ((c.toNat : Int) == 10) = false := beq_false_of_ne fun e => by rw [show c = 10 from i64_u8 (by rw [e]; rfl)] at h10; exact absurd h10 (by decide)
          rw [h10, if_neg (by decide)] at hez
          cases h9 : (c == 9)
          · have v9 : ((c.toNat : Int) == 9) = false := beq_false_of_ne fun e => by rw [show c = 9 from i64_u8 (by rw [e]; rfl)] at h9; exact absurd h9 (by decide)
            rw [h9, if_neg (by decide)] at hez
            cases hsl : (c == 92 || c == 39)
            · rw [Bool.or_eq_false_iff] at hsl
              have v92 : ((c.toNat : Int) == 92) = false := beq_false_of_ne fun e => by rw [show c = 92 from i64_u8 (by rw [e]; rfl)] at hsl; exact absurd hsl.1 (by decide)
              have v39 : ((c.toNat : Int) == 39) = false := beq_false_of_ne fun e => by rw [show c = 39 from i64_u8 (by rw [e]; rfl)] at hsl; exact absurd hsl.2 (by decide)
              rw [hsl.1, hsl.2, Bool.or_self, if_neg (by decide)] at hez
              have hsh := shown_eq c
              cases hl : decide (32 ≤ (c.toNat : Int))
              · have hl' : (c.toNat : Int) < 32 := by simpa using hl
                rw [hl, Bool.false_and] at hsh
                rw [hsh, if_neg (by decide)] at hez
                have HF : Hid ((bl s).all mayQ = false) := Lib.hid (by
                  rw [List.all_eq_false]
                  exact ⟨(bl s)[k]'hlt, List.getElem_mem _, by show ¬ mayQ s[k] = true; rw [hc]; simpa using hez⟩)
                clear hez step hsl hsh hl h9 h10 hxs hlk hc HL
                go_wp2
                go_ret
                exact ⟨by rw [HQ.out, HF.out]; rfl, B1.out⟩
              · have hl' : 32 ≤ (c.toNat : Int) := by simpa using hl
                rw [hl, Bool.true_and] at hsh
                cases hm : decide ((c.toNat : Int) ≤ 126)
                · have hm' : 126 < (c.toNat : Int) := by simpa using hm
                  rw [hm] at hsh
                  rw [hsh, if_neg (by decide)] at hez
                  have HF : Hid ((bl s).all mayQ = false) := Lib.hid (by
                    rw [List.all_eq_false]
                    exact ⟨(bl s)[k]'hlt, List.getElem_mem _, by show ¬ mayQ s[k] = true; rw [hc]; simpa using hez⟩)
                  clear hez step hsl hsh hl hm h9 h10 hxs hlk hc HL
                  go_wp2
                  go_ret
                  exact ⟨by rw [HQ.out, HF.out]; rfl, B1.out⟩
                · have hm' : (c.toNat : Int) ≤ 126 := by simpa using hm
                  rw [hm] at hsh
                  rw [hsh, if_pos rfl, Bool.and_eq_true] at hez
                  have HN := step (s.extract k (k + 1)) hez.1 (by rw [hxs]; exact eq_of_beq hez.2)
                  have hzz : (t ++ s.extract k (k + 1)).size ≤ 2 * (k + 1) + 1 := by rw [ByteArray.size_append, hzs]; omega
                  have hz4 : ¬ 9223372036854775807 < t.size + (s.extract k (k + 1)).size := by rw [hzs]; omega
                  obtain ⟨t', ht'⟩ : ∃ t', t ++ s.extract k (k + 1) = t' := ⟨_, rfl⟩
                  rw [ht'] at HN hzz
                  have HT' := Lib.hid ht'
                  clear hez step hsl hsh hl hm h9 h10 hxs hlk hc HL ht' hzs
                  go_wp2
                  go_round
                  case rel => exact ⟨k + 1, t', by omega, by go_num, by rw [← HT'.out], hzz, HN⟩
                  case measure => simp [intOf]; omega
            · have hcc : c = 92 ∨ c = 39 := by
                rcases (Bool.or_eq_true _ _ ▸ hsl) with h | h
                · exact Or.inl (eq_of_beq h)
                · exact Or.inr (eq_of_beq h)
              rw [hsl, if_pos rfl, Bool.and_eq_true] at hez
              have HN := step ((⟨#[92]⟩ : ByteArray) ++ s.extract k (k + 1)) hez.1 (by rw [bl_app, hxs]; exact eq_of_beq hez.2)
              rw [← ByteArray.append_assoc] at HN
              have hz5 : (t ++ (⟨#[92]⟩ : ByteArray)).size = t.size + 1 := by rw [ByteArray.size_append]; rfl
              have hz4 : ¬ 9223372036854775807 < (t ++ (⟨#[92]⟩ : ByteArray)).size + (s.extract k (k + 1)).size := by rw [hzs, hz5]; omega
              have hzz : ((t ++ (⟨#[92]⟩ : ByteArray)) ++ s.extract k (k + 1)).size ≤ 2 * (k + 1) + 1 := by rw [ByteArray.size_append, hzs, hz5]; omega
              obtain ⟨t', ht'⟩ : ∃ t', (t ++ (⟨#[92]⟩ : ByteArray)) ++ s.extract k (k + 1) = t' := ⟨_, rfl⟩
              rw [ht'] at HN hzz
              have HT' := Lib.hid ht'
              clear hez step hsl h9 h10 hxs hlk hc HL ht' hzs hz5
              rcases hcc with rfl | rfl
              · go_wp2
                go_round
                case rel => exact ⟨k + 1, t', by omega, by go_num, by rw [← HT'.out], hzz, HN⟩
                case measure => simp [intOf]; omega
              · go_wp2
                go_round
                case rel => exact ⟨k + 1, t', by omega, by go_num, by rw [← HT'.out], hzz, HN⟩
                case measure => simp [intOf]; omega
          · obtain rfl : c = 9 := eq_of_beq h9
            have HN := step ⟨#[92, 116]⟩ rfl rfl
            obtain ⟨t', ht'⟩ : ∃ t', t ++ (⟨#[92, 116]⟩ : ByteArray) = t' := ⟨_, rfl⟩
            have hzz : t'.size ≤ 2 * (k + 1) + 1 := by rw [← ht', ByteArray.size_append]; show t.size + 2 ≤ _; omega
            rw [ht'] at HN
            have HT' := Lib.hid ht'
            clear hez step h9 h10 hxs hlk hc HL ht' hzs
            go_wp2
            go_round
            case rel => exact ⟨k + 1, t', by omega, by go_num, by rw [← HT'.out], hzz, HN⟩
            case measure => simp [intOf]; omega
        · obtain rfl : c = 10 := eq_of_beq h10
          have HN := step ⟨#[92, 110]⟩ rfl rfl
          obtain ⟨t', ht'⟩ : ∃ t', t ++ (⟨#[92, 110]⟩ : ByteArray) = t' := ⟨_, rfl⟩
          have hzz : t'.size ≤ 2 * (k + 1) + 1 := by rw [← ht', ByteArray.size_append]; show t.size + 2 ≤ _; omega
          rw [ht'] at HN
          have HT' := Lib.hid ht'
          clear hez step h10 hxs hlk hc HL ht' hzs
          go_wp2
          go_round
          case rel => exact ⟨k + 1, t', by omega, by go_num, by rw [← HT'.out], hzz, HN⟩
          case measure => simp [intOf]; omega
      · obtain rfl : k = s.size := by omega
        have htk2 : (bl s).take s.size = bl s := List.take_of_length_le (by rw [bl_len]; exact Nat.le_refl _)
        have hz2 : ¬ 9223372036854775807 < t.size + 1 := by omega
        have HL2 := HL.out
        rw [htk2] at HL2
        have HF := Lib.hid (show (t ++ (⟨#[39]⟩ : ByteArray)) = ⟨Q.toArray⟩ from bl_inj (by
          rw [bl_app, HL2.1, HQ.out, HL2.2]
          rfl))
        clear HL HL2 htk2
        go_wp2
        go_ret
        exact ⟨ret_str HF.out, B1.out⟩
  · rw [hp] at P
    have hQ : quoteB (bl s) = bl s := by unfold quoteB; rw [if_pos hp]
    rw [hQ]
    clear hQ hQ0 hp
    go_enter Tryz.func101, Tryz.ntmps101
    (go_wp2_with fail; go_fit (P _); rintro e w1 ⟨rfl, b1⟩)
    go_wp2
    go_ret
    exact ⟨rfl, b1⟩
end Go.Proofs.YtljgkfdnmikpfaaGreatDoor
/- The text of a number, and its reading, as plain functions. -/
namespace Go.Proofs.YtljgkfdnmikpfaaGreatDoor
open Go.RowKit
def isDig (c : UInt8) : Bool := !decide ((c.toNat : Int) < 48) && !decide (57 < (c.toNat : Int))
end Go.Proofs.YtljgkfdnmikpfaaGreatDoor
/- The document's own reckonings, as plain functions, beside the exact ones. -/
namespace Go.Proofs.YtljgkfdnmikpfaaGreatDoor
open Go.RowKit
set_option linter.unusedVariables false
theorem all_cons {c : UInt8} {r : List UInt8} (h : (c :: r).all isDig = true) : isDig c = true ∧ r.all isDig = true := by
  rw [List.all_cons, Bool.and_eq_true] at h; exact h
/-- A number's digits, the last one behind. -/
theorem dec_big {u : Nat} (h : 10 ≤ u) : Lib.decDigits u = Lib.decDigits (u / 10) ++ [UInt8.ofNat (48 + u % 10)] := by
  rw [Lib.decDigits, dif_neg (by omega)]
theorem dec_small {u : Nat} (h : u < 10) : Lib.decDigits u = [UInt8.ofNat (48 + u)] := by
  rw [Lib.decDigits, dif_pos h]
theorem itoa_big_neg {n : Int} (h : n ≤ -10) : Lib.itoa n = Lib.itoa (n.tdiv 10) ++ [UInt8.ofNat (48 - n.tmod 10).toNat] := by
  obtain ⟨u, rfl⟩ : ∃ u : Nat, n = -(u : Int) := ⟨n.natAbs, by omega⟩
  have h1 : (-(u : Int)).tdiv 10 = -((u / 10 : Nat) : Int) := by
    rw [Int.neg_tdiv]; rfl
  have h2 : (-(u : Int)).tmod 10 = -((u % 10 : Nat) : Int) := by
    rw [Int.neg_tmod]; rfl
  rw [h1, h2]
  unfold Lib.itoa
  rw [if_pos (by omega), if_pos (by omega)]
  simp only [Int.natAbs_neg, Int.natAbs_natCast]
  rw [dec_big (by omega)]
  have e : (48 - -((u % 10 : Nat) : Int)).toNat = 48 + u % 10 := by omega
  rw [e]; rfl
theorem itoa_big_pos {n : Int} (h : 10 ≤ n) : Lib.itoa n = Lib.itoa (n.tdiv 10) ++ [UInt8.ofNat (48 + n.tmod 10).toNat] := by
  obtain ⟨u, rfl⟩ : ∃ u : Nat, n = (u : Int) := ⟨n.natAbs, by omega⟩
  have h1 : (u : Int).tdiv 10 = ((u / 10 : Nat) : Int) := rfl
  have h2 : (u : Int).tmod 10 = ((u % 10 : Nat) : Int) := rfl
  rw [h1, h2]
  unfold Lib.itoa
  rw [if_neg (by omega), if_neg (by omega)]
  simp only [Int.toNat_natCast]
  rw [dec_big (by omega)]
  have e : (48 + ((u % 10 : Nat) : Int)).toNat = 48 + u % 10 := by omega
  rw [e]
theorem itoa_small_neg {n : Int} (h : n < 0) (h' : -10 < n) : Lib.itoa n = [45, UInt8.ofNat (48 - n).toNat] := by
  unfold Lib.itoa
  rw [if_pos h, dec_small (by omega)]
  have e : (48 - n).toNat = 48 + n.natAbs := by omega
  rw [e]
theorem itoa_small_pos {n : Int} (h : 0 ≤ n) (h' : n < 10) : Lib.itoa n = [UInt8.ofNat (48 + n).toNat] := by
  unfold Lib.itoa
  rw [if_neg (by omega), dec_small (by omega)]
  have e : (48 + n).toNat = 48 + n.toNat := by omega
  rw [e]
end Go.Proofs.YtljgkfdnmikpfaaGreatDoor
/- What stands in a written text, letter by letter: pieces that are cut as they were meant, whatever stands behind. Numbers of any size. Pure. -/
namespace Go.Proofs.YtljgkfdnmikpfaaGreatDoor
set_option linter.unusedVariables false

/-! Pieces. -/
/-! Numbers. -/
def digF : Nat → Nat → List UInt8
  | 0, _ => []
  | f + 1, u => if u < 10 then [UInt8.ofNat (48 + u)] else digF f (u / 10) ++ [UInt8.ofNat (48 + u % 10)]
/-- A number's digits. -/
def digW (u : Nat) : List UInt8 := digF 25 u
theorem digF_eq : ∀ (f u : Nat), u < 10 ^ (f + 1) → digF (f + 1) u = Lib.decDigits u
  | 0, u, h => by
    rw [digF, Lib.decDigits, if_pos (by simpa using h), dif_pos (by simpa using h)]
  | f + 1, u, h => by
    rw [digF, Lib.decDigits]
    by_cases hu : u < 10
    · rw [if_pos hu, dif_pos hu]
    · rw [if_neg hu, dif_neg hu, digF_eq f (u / 10) (by rw [Nat.pow_succ] at h; omega)]
end Go.Proofs.YtljgkfdnmikpfaaGreatDoor
/- Writing, as chapter 9 says it, over trees: pure. Nothing here is walked. -/
namespace Go.Proofs.YtljgkfdnmikpfaaGreatDoor
open Go.RowKit
set_option linter.unusedVariables false

/-- A number in base ten. -/
def numW (n : Int) : List UInt8 := if n < 0 then 45 :: digW n.natAbs else digW n.toNat
section
variable (vs : List Int)
variable (pre bet : List UInt8 → O × Bool)
end

/-! Enough is enough. -/
end Go.Proofs.YtljgkfdnmikpfaaGreatDoor
/- The document's own Num (sizarref1): every number's digits. -/
namespace Go.Proofs.YtljgkfdnmikpfaaGreatDoor
open Go.RowKit Go.Shelf
set_option linter.unusedVariables false
set_option maxRecDepth 100000

def numS (n : Int) : ByteArray := baS (Lib.itoa n)
theorem numS_size {n : Int} (hn : R n) : (numS n).size ≤ 21 := by
  have h := Lib.itoa_length_le n hn.1 hn.2
  show (Lib.itoa n).toArray.size ≤ 21
  simpa using h
theorem nbel1 {w w1 : World} (h : Below w.drew.heap.size w.drew w1) (o : Obj) : Below w.heap.size w (w1.alloc o) :=
  (Ext.trans' ((Below.refl _ _).drew) h).alloc (by have := h.size; exact this) o
theorem nbel2 {w w1 : World} {o : Obj} (h : Below (w.drew.alloc o).heap.size (w.drew.alloc o) w1) : Below w.heap.size w w1 :=
  Ext.trans' ((Below.refl _ _).drew) (Ext.trans' ((Below.refl _ _).alloc (Nat.le_refl _) o) h)
theorem rnum_small_pos {n : Int} {w : World} (h0 : 0 ≤ n) (h1 : n < 10) : Calls Tryz.prog 104 #[.int .i64 n] w fun e w' => e = .returned (.string (numS n)) ∧ Below w.heap.size w w' := by
  have K := fun W => conv1r_new W (48 + n) (by omega) (by omega)
  have e : numS n = ⟨#[UInt8.ofNat (48 + n).toNat]⟩ := by unfold numS baS; rw [itoa_small_pos h0 h1]
  rw [e]
  generalize UInt8.ofNat (48 + n).toNat = c at K
  go_enter Tryz.func104, Tryz.ntmps104
  go_wp2
  go_ret
  exact ⟨rfl, (Below.refl _ _).alloc (Nat.le_refl _) _⟩
theorem rnum_small_neg {n : Int} {w : World} (h0 : n < 0) (h1 : -10 < n) : Calls Tryz.prog 104 #[.int .i64 n] w fun e w' => e = .returned (.string (numS n)) ∧ Below w.heap.size w w' := by
  have K := fun W => conv1r_new W (48 - n) (by omega) (by omega)
  have e : numS n = ⟨#[45, UInt8.ofNat (48 - n).toNat]⟩ := by unfold numS baS; rw [itoa_small_neg h0 h1]
  rw [e]
  generalize UInt8.ofNat (48 - n).toNat = c at K
  go_enter Tryz.func104, Tryz.ntmps104
  go_wp2
  go_ret
  exact ⟨rfl, (Below.refl _ _).alloc (Nat.le_refl _) _⟩
theorem ncat1 (s : ByteArray) (c : UInt8) : bl (s ++ ⟨#[c]⟩) = bl s ++ [c] := by simp [bl]
set_option maxHeartbeats 1000000 in
theorem rnum_big_pos {n : Int} {w : World} (hn : R n) (h1 : 10 ≤ n) (ih : ∀ w, Calls Tryz.prog 104 #[.int .i64 (n.tdiv 10)] w fun e w' => e = .returned (.string (numS (n.tdiv 10))) ∧ Below w.heap.size w w') : Calls Tryz.prog 104 #[.int .i64 n] w fun e w' => e = .returned (.string (numS n)) ∧ Below w.heap.size w w' := by
  have e := itoa_big_pos h1
  have d := wrap_in (tdiv_R (b := 10) hn (by decide) (by decide))
  have hs := numS_size (tdiv_R (b := 10) hn (by decide) (by decide))
  have hfin : numS (n.tdiv 10) ++ ⟨#[UInt8.ofNat (48 + n.tmod 10).toNat]⟩ = numS n := bl_inj (by rw [ncat1]; exact e.symm)
  rw [← hfin]
  clear e hfin
  have m0 := Int.tmod_nonneg (a := n) 10 (by omega)
  have m1 := Int.tmod_lt_of_pos n (b := 10) (by decide)
  obtain ⟨m, hm⟩ : ∃ m, n.tmod 10 = m := ⟨_, rfl⟩
  obtain ⟨q, hq⟩ : ∃ q, n.tdiv 10 = q := ⟨_, rfl⟩
  rw [hm] at m0 m1 ⊢
  rw [hq] at d ih hs ⊢
  generalize numS q = s at ih hs ⊢
  have k1 : IntKind.i64.wrap (48 + m) = 48 + m := wrap_in (by unfold R; omega)
  have k2 : IntKind.u8.wrap (48 + m) = 48 + m := by rw [IntKind.wrap_u8]; omega
  have K := fun W => conv1r_new W (48 + m) (by omega) (by omega)
  have K2 := fun W b => conv1r W b (48 + m) (by omega) (by omega)
  have C : ∀ W : World, (W.alloc (.cells #[.int .u8 (48 + m)] 5)).cell? ⟨W.heap.size, 0, none⟩ = some (.int .u8 (48 + m)) := fun W => by rw [World.cell?_alloc_at _ _ _ _ rfl]; rfl
  generalize UInt8.ofNat (48 + m).toNat = c at *
  go_enter Tryz.func104, Tryz.ntmps104
  go_wp2_with fail
  go_region_with (first | (go_at_call 104; go_fit (ih _); rintro e w1 ⟨rfl, b1⟩; try have hc := cell_later b1 (C _)))
  all_goals
    go_wp2
    go_ret
    refine ⟨rfl, ?_⟩
    first | exact nbel1 b1 _ | exact nbel2 b1
set_option maxHeartbeats 1000000 in
theorem rnum_big_neg {n : Int} {w : World} (hn : R n) (h1 : n ≤ -10) (ih : ∀ w, Calls Tryz.prog 104 #[.int .i64 (n.tdiv 10)] w fun e w' => e = .returned (.string (numS (n.tdiv 10))) ∧ Below w.heap.size w w') : Calls Tryz.prog 104 #[.int .i64 n] w fun e w' => e = .returned (.string (numS n)) ∧ Below w.heap.size w w' := by
  have e := itoa_big_neg h1
  have d := wrap_in (tdiv_R (b := 10) hn (by decide) (by decide))
  have hs := numS_size (tdiv_R (b := 10) hn (by decide) (by decide))
  have hfin : numS (n.tdiv 10) ++ ⟨#[UInt8.ofNat (48 - n.tmod 10).toNat]⟩ = numS n := bl_inj (by rw [ncat1]; exact e.symm)
  rw [← hfin]
  clear e hfin
  have m0 : n.tmod 10 ≤ 0 := by
    have h2 := Int.tmod_nonneg (a := -n) 10 (by omega)
    rw [Int.neg_tmod] at h2; omega
  have m1 := Int.lt_tmod_of_pos n (b := 10) (by decide)
  obtain ⟨m, hm⟩ : ∃ m, n.tmod 10 = m := ⟨_, rfl⟩
  obtain ⟨q, hq⟩ : ∃ q, n.tdiv 10 = q := ⟨_, rfl⟩
  rw [hm] at m0 m1 ⊢
  rw [hq] at d ih hs ⊢
  generalize numS q = s at ih hs ⊢
  have k1 : IntKind.i64.wrap (48 - m) = 48 - m := wrap_in (by unfold R; omega)
  have k2 : IntKind.u8.wrap (48 - m) = 48 - m := by rw [IntKind.wrap_u8]; omega
  have K := fun W => conv1r_new W (48 - m) (by omega) (by omega)
  have K2 := fun W b => conv1r W b (48 - m) (by omega) (by omega)
  have C : ∀ W : World, (W.alloc (.cells #[.int .u8 (48 - m)] 5)).cell? ⟨W.heap.size, 0, none⟩ = some (.int .u8 (48 - m)) := fun W => by rw [World.cell?_alloc_at _ _ _ _ rfl]; rfl
  generalize UInt8.ofNat (48 - m).toNat = c at *
  go_enter Tryz.func104, Tryz.ntmps104
  go_wp2_with fail
  go_region_with (first | (go_at_call 104; go_fit (ih _); rintro e w1 ⟨rfl, b1⟩; try have hc := cell_later b1 (C _)))
  all_goals
    go_wp2
    go_ret
    refine ⟨rfl, ?_⟩
    first | exact nbel1 b1 _ | exact nbel2 b1
theorem rnum_at : ∀ (k : Nat) (n : Int) (w : World), R n → n.natAbs < k → Calls Tryz.prog 104 #[.int .i64 n] w fun e w' => e = .returned (.string (numS n)) ∧ Below w.heap.size w w'
  | 0, n, w, _, h => by omega
  | k + 1, n, w, hn, h => by
    have hd : (n.tdiv 10).natAbs = n.natAbs / 10 := by rw [Int.natAbs_tdiv]; rfl
    by_cases h1 : 10 ≤ n
    · exact rnum_big_pos hn h1 (fun w => rnum_at k _ w (tdiv_R hn (by decide) (by decide)) (by omega))
    · by_cases h2 : n ≤ -10
      · exact rnum_big_neg hn h2 (fun w => rnum_at k _ w (tdiv_R hn (by decide) (by decide)) (by omega))
      · by_cases h3 : 0 ≤ n
        · exact rnum_small_pos h3 (by omega)
        · exact rnum_small_neg (by omega) (by omega)
/-- The digits as they are written. -/
theorem rnumW_itoa {n : Int} (hn : R n) : numW n = Lib.itoa n := by
  unfold R at hn
  unfold numW Lib.itoa digW
  by_cases h : n < 0
  · rw [if_pos h, if_pos h, digF_eq 24 _ (by omega)]
  · rw [if_neg h, if_neg h, digF_eq 24 _ (by omega)]
theorem rnum_nc {n : Int} (hn : R n) : NC numW n := fun w => by
  have h := rnum_at (n.natAbs + 1) n w hn (Nat.lt_succ_self _)
  unfold numS at h
  rw [← rnumW_itoa hn] at h
  exact h
theorem rquote_qc {s : ByteArray} (hs : s.size ≤ 140737488351232) : QC (fun s => quoteB (bl s)) s := fun w => rquote_any s w hs
end Go.Proofs.YtljgkfdnmikpfaaGreatDoor
/- What the law's texts read as, and how they are written: pure, and the law's text at every text of which that is known. -/
namespace Go.Proofs.YtljgkfdnmikpfaaGreatDoor
open Go.RowKit Go.Shelf
set_option linter.unusedVariables false
set_option maxRecDepth 100000

def inR (n : Int) : Bool := decide (-9223372036854775808 ≤ n) && decide (n ≤ 9223372036854775807)
mutual
/-- Its names are short, its numbers such as there are. -/
def mayT : Tm → Bool
  | .mk k n s ts => (!(k == 1) || inR n) && decide (s.size ≤ 140737488351232) && mayL ts
def mayL : List Tm → Bool
  | [] => true
  | x :: r => mayT x && mayL r
end
abbrev qB : ByteArray → List UInt8 := fun s => quoteB (bl s)
theorem inR_R {n : Int} (h : inR n = true) : R n := by
  unfold inR at h
  rw [Bool.and_eq_true, decide_eq_true_eq, decide_eq_true_eq] at h
  exact h
mutual
theorem may_of : ∀ (t : Tm), mayT t = true → mayW (QC qB) (NC numW) t
  | .mk k n s ts, h => by
    rw [mayT, Bool.and_eq_true, Bool.and_eq_true, decide_eq_true_eq] at h
    rw [mayW]
    refine ⟨fun hk => rnum_nc (inR_R ?_), fun _ _ => rquote_qc h.1.2, may_of_l ts h.2⟩
    have := h.1.1
    rw [hk] at this
    simpa using this
theorem may_of_l : ∀ (ts : List Tm), mayL ts = true → maysW (QC qB) (NC numW) ts
  | [], _ => by rw [maysW]; trivial
  | x :: r, h => by
    rw [mayL, Bool.and_eq_true] at h
    rw [maysW]
    exact ⟨may_of x h.1, may_of_l r h.2⟩
end
theorem pnumW_len {n : Int} (h : R n) : (numW n).length ≤ 21 := by
  rw [rnumW_itoa h]
  exact Lib.itoa_length_le n h.1 h.2
/-- The answer of the law's text. -/
def textB (s : List UInt8) : List UInt8 := match readB oneR opsB s with
  | .bad _ => [101, 114, 114, 111, 114]
  | .ok p => plainW qB numW (varsT p.1 []) p.1
def textOK (s : List UInt8) : Bool := match readB oneR opsB s with
  | .bad k => k != 0
  | .ok p => mayT p.1 && (decide ((varsT p.1 []).length ≤ 100000) && decide ((plainW qB numW (varsT p.1 []) p.1).length ≤ 4096))
theorem text_any {s : ByteArray} (h : textOK (bl s) = true) (hs : s.size ≤ 4096) {w : World} (he : Err w) :
    Calls Tryz.prog 14 #[.string s] w fun e w' => e = .returned (.string (baS (textB (bl s)))) ∧ Below w.heap.size w w' := by
  unfold textOK at h
  unfold textB
  cases hr : readB oneR opsB (bl s) with
  | bad k =>
    rw [hr] at h
    exact text_bad hr h hs he
  | ok p =>
    obtain ⟨t, ns⟩ := p
    rw [hr] at h
    simp only [Bool.and_eq_true, decide_eq_true_eq] at h
    exact text_ok hr (may_of t h.1) (fun i hi => rnum_nc (by unfold R; omega)) (fun i hi => by have := pnumW_len (n := (i : Int)) (by unfold R; omega); omega) h.2.2 hs he
def badL : List ByteArray := [⟨#[]⟩, ⟨#[97]⟩, ⟨#[97, 32, 98, 46]⟩, ⟨#[97, 46, 98]⟩, ⟨#[97, 32, 61, 32, 98, 32, 61, 32, 99, 46]⟩, ⟨#[102, 40, 97, 46]⟩, ⟨#[91, 97, 124, 98, 44, 99, 93, 46]⟩, ⟨#[97, 32, 58, 45, 32, 98, 32, 58, 45, 32, 99, 46]⟩, ⟨#[61, 32, 97, 46]⟩, ⟨#[102, 40, 97, 32, 58, 45, 32, 98, 41, 46]⟩, ⟨#[40, 97, 46]⟩, ⟨#[97, 41, 46]⟩, ⟨#[97, 46, 32, 98, 46]⟩, ⟨#[123, 97, 46]⟩, ⟨#[88, 40, 97, 41, 46]⟩, ⟨#[102, 40, 41, 46]⟩, ⟨#[91, 97, 124, 93, 46]⟩, ⟨#[44, 32, 46]⟩, ⟨#[97, 32, 59, 32, 46]⟩, ⟨#[97, 32, 45, 62, 32, 46]⟩]
def inL : List ByteArray := [⟨#[97, 32, 43, 32, 98, 32, 43, 32, 99, 46]⟩, ⟨#[97, 32, 59, 32, 98, 32, 59, 32, 99, 46]⟩, ⟨#[45, 32, 49, 46]⟩, ⟨#[45, 49, 46]⟩, ⟨#[45, 32, 40, 49, 41, 46]⟩, ⟨#[97, 32, 45, 32, 49, 46]⟩, ⟨#[97, 32, 45, 49, 46]⟩, ⟨#[102, 40, 45, 41, 46]⟩, ⟨#[91, 97, 44, 98, 124, 84, 93, 46]⟩, ⟨#[123, 97, 44, 98, 125, 46]⟩, ⟨#[92, 43, 32, 97, 32, 61, 32, 98, 46]⟩, ⟨#[45, 32, 45, 32, 97, 46]⟩, ⟨#[102, 40, 97, 44, 32, 40, 98, 32, 58, 45, 32, 99, 41, 41, 46]⟩, ⟨#[39, 43, 39, 40, 49, 44, 50, 41, 46]⟩, ⟨#[97, 58, 45, 98, 44, 99, 59, 100, 45, 62, 101, 46]⟩, ⟨#[88, 32, 61, 32, 39, 61, 39, 46]⟩, ⟨#[91, 93, 46]⟩, ⟨#[102, 40, 43, 41, 46]⟩, ⟨#[45, 32, 97, 32, 42, 32, 98, 46]⟩, ⟨#[91, 45, 93, 46]⟩, ⟨#[45, 40, 49, 44, 50, 41, 46]⟩, ⟨#[95, 32, 61, 32, 95, 46]⟩, ⟨#[50, 32, 45, 32, 45, 49, 46]⟩, ⟨#[97, 32, 105, 115, 32, 98, 32, 109, 111, 100, 32, 99, 46]⟩]
def outL : List ByteArray := [⟨#[43, 40, 43, 40, 97, 44, 98, 41, 44, 99, 41]⟩, ⟨#[59, 40, 97, 44, 59, 40, 98, 44, 99, 41, 41]⟩, ⟨#[45, 40, 49, 41]⟩, ⟨#[45, 49]⟩, ⟨#[45, 40, 49, 41]⟩, ⟨#[45, 40, 97, 44, 49, 41]⟩, ⟨#[45, 40, 97, 44, 49, 41]⟩, ⟨#[102, 40, 45, 41]⟩, ⟨#[39, 46, 39, 40, 97, 44, 39, 46, 39, 40, 98, 44, 95, 48, 41, 41]⟩, ⟨#[123, 125, 40, 39, 44, 39, 40, 97, 44, 98, 41, 41]⟩, ⟨#[92, 43, 40, 61, 40, 97, 44, 98, 41, 41]⟩, ⟨#[45, 40, 45, 40, 97, 41, 41]⟩, ⟨#[102, 40, 97, 44, 58, 45, 40, 98, 44, 99, 41, 41]⟩, ⟨#[43, 40, 49, 44, 50, 41]⟩, ⟨#[58, 45, 40, 97, 44, 59, 40, 39, 44, 39, 40, 98, 44, 99, 41, 44, 45, 62, 40, 100, 44, 101, 41, 41, 41]⟩, ⟨#[61, 40, 95, 48, 44, 61, 41]⟩, ⟨#[91, 93]⟩, ⟨#[102, 40, 43, 41]⟩, ⟨#[42, 40, 45, 40, 97, 41, 44, 98, 41]⟩, ⟨#[39, 46, 39, 40, 45, 44, 91, 93, 41]⟩, ⟨#[45, 40, 49, 44, 50, 41]⟩, ⟨#[61, 40, 95, 48, 44, 95, 49, 41]⟩, ⟨#[45, 40, 50, 44, 45, 49, 41]⟩, ⟨#[105, 115, 40, 97, 44, 109, 111, 100, 40, 98, 44, 99, 41, 41]⟩]
theorem bad_all : (badL.all fun s => textOK (bl s) && (textB (bl s) == [101, 114, 114, 111, 114])) = true := by kernel_rfl
theorem out_all : ((inL.zip outL).all fun p => textOK (bl p.1) && (textB (bl p.1) == bl p.2)) = true := by kernel_rfl
end Go.Proofs.YtljgkfdnmikpfaaGreatDoor
/- Texts that are read each by itself are read one behind the other. -/
namespace Go.Proofs.YtljgkfdnmikpfaaGreatDoor
open Go.Shelf Go.RowKit
set_option linter.unusedVariables false

/-- What a call of All at the plain operators answers. -/
theorem allP_at {s : ByteArray} {X : ReadR (List Tm)} (hX : readB ALL opsB (bl s) = X) (hs : s.size ≤ 140737488351232) {w : World} (he : Err w) {v : Value} (ho : Ops w v opsB) : Calls Tryz.prog 16 #[.agg #[v], .string s] w (AllX w X) := by
  rw [← hX]; exact all8_at ho s he hs
end Go.Proofs.YtljgkfdnmikpfaaGreatDoor
/- In brackets it is read the same: the law. -/
namespace Go.Proofs.YtljgkfdnmikpfaaGreatDoor
open Go.Shelf Go.RowKit
set_option linter.unusedVariables false

abbrev zeroT : Value := .agg #[.int .i64 0, .int .i64 0, .string ⟨#[]⟩, .slice none 0 0]
end Go.Proofs.YtljgkfdnmikpfaaGreatDoor
/- What the cards of this seat share: strconv's ErrRange is an error where the program's text lays it. -/
namespace Go.Proofs.YtljgkfdnmikpfaaGreatDoor
open Go.RowKit
theorem star : "*" ++ "errors.errorString" = "*errors.errorString" := by decide
theorem row_err (u : TypeId) (h : Tryz.prog.typeName? 3 u = some "*errors.errorString") : u = 233 :=
  typeName_ptr_named (nm := "errors.errorString") (by rw [star]; kernel_rfl) (by kernel_rfl) (by decide) u (by rw [star]; exact h)
theorem err_of {l : List (String × DataW Unit)} {w : World} (hl : (l.all fun x => x.2.handleName?.isNone) = true) {nm : String} {text : List UInt8}
    (hf : l.filter (fun x => x.1 == "strconv.ErrRange") = [("strconv.ErrRange", .iface nm (.ptr (.agg [.lit (.string text)])))]) (hn : nm = "*errors.errorString") (h : laidMetH Tryz.prog l w) : Err w := by
  subst hn
  rw [MakeChecks.laidMetH_plain _ _ _ hl] at h
  have h1 := h.filter (fun x => x.1 == "strconv.ErrRange")
  rw [hf] at h1
  obtain ⟨a, s, hv, _⟩ := laid_sentinel h1 gRange (ti := 178) (by kernel_rfl) Tryz.underlying178 (tp := 233) row_err Tryz.underlying233 Tryz.underlying235 rfl rfl Tryz.underlying9 (by kernel_rfl) (by kernel_rfl)
  exact ⟨_, _, hv⟩
end Go.Proofs.YtljgkfdnmikpfaaGreatDoor
/- Package term: Vars. -/
namespace Go.Proofs.YtljgkfdnmikpfaaGreatDoor
open Go.RowKit
set_option linter.unusedVariables false

theorem cell_one_new' {w : World} (o : Obj) (v : Value) (ty : TypeId) (j : Nat) (u : Value) (h : [v][j]? = some u) : ((w.alloc o).alloc (.cells #[v] ty)).cell? ((⟨w.heap.size + 1, 0, none⟩ : Addr).add j) = some u := by
  have h1 := cell_new (w.alloc o) #[v] ty j u h
  rwa [show (w.alloc o).heap.size = w.heap.size + 1 by simp] at h1
set_option maxHeartbeats 2000000 in
theorem index_at {w : World} {v : Value} {l : List Int} (h : Nums w v l) (n : Int) : Calls Tryz.prog 112 #[v, .int .i64 n] w fun e w' => (∃ z : Int, e = .returned (.int .i64 z) ∧ (0 ≤ z ↔ n ∈ l)) ∧ w = w' := by
  obtain ⟨a, c, rfl, h1, h2⟩ := h.len
  unfold maxLen at h2
  obtain ⟨m, hm⟩ : ∃ m, l.length = m := ⟨_, rfl⟩
  have HU := Lib.hid h
  have HM := Lib.hid hm
  rw [hm] at h1 h HU ⊢
  clear h hm
  go_enter Tryz.func112, Tryz.ntmps112
  go_wp2_with fail
  go_loop [8] (fun v => ∃ i : Nat, i ≤ m ∧ v = .int .i64 i ∧ Hid (¬ n ∈ l.take i)) (fun v => m - (intOf v).toNat)
  case atStart => exact ⟨0, Nat.zero_le _, rfl, Lib.hid (by simp)⟩
  case round =>
    obtain ⟨i, hi, rfl, HT⟩ := hrel
    by_cases hil : i < m
    · obtain ⟨x, hx⟩ : ∃ x, l[i]? = some x := ⟨_, List.getElem?_eq_getElem (by rw [HM.out]; exact hil)⟩
      obtain ⟨b, off, rfl, _, c0⟩ := HU.out.get hx
      by_cases hxn : n = x
      · subst hxn
        have HMEM := Lib.hid (List.mem_of_getElem? hx)
        clear hx HT
        go_wp2
        go_ret
        exact ⟨⟨i, rfl, fun _ => HMEM.out, fun _ => by omega⟩, rfl⟩
      · have HT2 : Hid (¬ n ∈ l.take (i + 1)) := Lib.hid (by
          rw [List.take_add_one, hx]
          intro hmem
          rcases List.mem_append.1 hmem with hh | hh
          · exact HT.out hh
          · simp at hh
            exact hxn hh)
        have hxn' : (n == x) = false := beq_false_of_ne hxn
        clear hx HT
        go_wp2
        go_round
        case rel => exact ⟨i + 1, by omega, by go_num, HT2⟩
        case measure => simp [intOf]; omega
    · have HNO : Hid (¬ n ∈ l) := Lib.hid (by
        have := HT.out
        rwa [List.take_of_length_le (by rw [HM.out]; omega)] at this)
      clear HT
      go_wp2
      go_ret
      exact ⟨⟨-1, rfl, fun h => by omega, fun h => absurd h HNO.out⟩, rfl⟩
theorem contains_at {w : World} {v : Value} {l : List Int} (h : Nums w v l) (n : Int) : Calls Tryz.prog 76 #[v, .int .i64 n] w fun e w' => e = .returned (.bool (l.contains n)) ∧ w = w' := by
  have I := index_at h n
  by_cases hm : n ∈ l
  · have hr : l.contains n = true := by simpa using hm
    rw [hr]
    have HM := Lib.hid hm
    clear hm hr h
    go_enter Tryz.func76, Tryz.ntmps76
    go_wp2_with fail
    go_fit (I)
    rintro e w' ⟨⟨z, rfl, hz⟩, rfl⟩
    have hz0 : 0 ≤ z := hz.2 HM.out
    clear hz
    go_wp2
    go_ret
    exact ⟨rfl, rfl⟩
  · have hr : l.contains n = false := by simpa using hm
    rw [hr]
    have HM := Lib.hid hm
    clear hm hr h
    go_enter Tryz.func76, Tryz.ntmps76
    go_wp2_with fail
    go_fit (I)
    rintro e w' ⟨⟨z, rfl, hz⟩, rfl⟩
    have hz0 : z < 0 := by
      have : ¬ 0 ≤ z := fun hh => HM.out (hz.1 hh)
      omega
    clear hz
    go_wp2
    go_ret
    exact ⟨ret_bool (decide_eq_false (by omega)), rfl⟩
/-- The box at its place, when a row behind it has grown. -/
theorem box_grown {w w4 : World} {B : Nat} {lv : Value} {k n : Int} {s : ByteArray} {u : Value} {o : Obj} (h : ∀ q, lv.ownBlock = some q → q < w.heap.size) (hg : ((w.alloc (box4 k n s u 27)).alloc o).grownBy w4 lv.ownBlock) :
    w4.cell? ⟨w.heap.size, 3, none⟩ = some u := by
  have h0 := hg.block w.heap.size (by simp; omega) (fun e => by have := h _ e.symm; omega)
  rw [World.cell?_of_block (w := (w.alloc (box4 k n s u 27)).alloc o) h0]
  simp
set_option maxHeartbeats 4000000 in
set_option maxRecDepth 100000 in
theorem addVars_var {W w : World} {n : Int} {s : ByteArray} {a lv : Option Addr} {lw : Value} {c : Nat} {l : List Int} (hb : Below W.heap.size W w) (hr : RowN w W.heap.size lw l) (hl : l.length ≤ 1000000) (hc : c ≤ maxLen) :
    Calls Tryz.prog 47 #[lw, .agg #[.int .i64 0, .int .i64 n, .string s, .slice a 0 c]] w fun e w' => ∃ r, e = .returned r ∧ RowN w' W.heap.size r (if l.contains n then l else l ++ [n]) ∧ Below W.heap.size W w' := by
  have hbb := bel1' w (box4 0 n s (.slice a 0 c) 27)
  have hnums := (show RowN (w.alloc (box4 0 n s (.slice a 0 c) 27)) W.heap.size lw l from row_ext hr hbb).nums
  have C := contains_at hnums n
  obtain ⟨i0, hi0, hz0, hs0, hb0⟩ := info_parts infoI64
  have hlt := hr.lt
  obtain ⟨m, hm⟩ : ∃ m, l.length = m := ⟨_, rfl⟩
  have HBW := Lib.hid hb
  have hWs : W.heap.size ≤ w.heap.size := hb.size
  have HROW := Lib.hid hr
  have HBB := Lib.hid hbb
  cases hcn : l.contains n
  · rw [hcn] at C
    have HR2 : Hid (w.ownsRow W.heap.size 2 1 lw m (l.flatMap numCells)) := Lib.hid (by have := hr; unfold RowN at this; rw [hm] at this; exact this)
    have HM := Lib.hid hm
    have HLT := Lib.hid hlt
    rw [hm] at hl
    obtain ⟨al, cl, rfl, h1⟩ := row_formk HR2.out
    clear hr hb hnums hm hlt hbb hcn
    go_enter Tryz.func47, Tryz.ntmps47
    (go_wp2_with fail; go_fit (C); rintro e w1 ⟨rfl, rfl⟩)
    go_wp2_with (at_builtin; refine wpList_append_k rfl _ _ 43 rfl W.heap.size 2 i0 (.int .i64 0) 1 8 Tryz.underlying43 hi0 hz0 hs0 (by decide) hb0 rfl (.slice al m cl) m (l.flatMap numCells) rfl ((HR2.out.alloc _).alloc _) _ 1 1 [.int .i64 n] rfl rfl (Or.inr ⟨⟨w.heap.size + 1, 0, none⟩, rfl, fun j u hu => by have := cell_one_new' (w := w) (box4 0 n s (.slice a 0 c) 27) (.int .i64 n) 2 j u hu; exact this⟩) (fun u hu => by simp at hu; subst hu; rfl) (by unfold maxLen; omega) (by omega) (by simp; omega) (m + 1) ((l ++ [n]).flatMap numCells) rfl (by rw [List.flatMap_append]; rfl) ?_; intro a4 c4 w4 hown4 hgrow4 hat4; have e3 := box_grown (B := 0) (fun q hq => (HLT.out q hq).2) hgrow4)
    have HFIN : Hid (RowN w4 W.heap.size (.slice a4 (m + 1) c4) (l ++ [n]) ∧ Below W.heap.size W w4) := Lib.hid ⟨by
      unfold RowN
      rw [List.length_append, HM.out]
      exact hown4, ((Ext.trans' HBW.out HBB.out).alloc (by simp; omega) _).grown hgrow4 (by simp; omega) (fun q hq => (HLT.out q hq).1)⟩
    clear hown4 hgrow4 hat4
    go_loop [0, 25] (fun z v => z = .slice a4 (m + 1) c4 ∧ v = .int .i64 0) (fun _ _ => 0)
    case atStart => exact ⟨rfl, rfl⟩
    case round =>
      obtain ⟨rfl, rfl⟩ := hrel
      go_wp2
      go_ret
      exact ⟨_, rfl, HFIN.out⟩
  · rw [hcn] at C
    clear hr hb hnums hm hlt hbb hcn
    go_enter Tryz.func47, Tryz.ntmps47
    (go_wp2_with fail; go_fit (C); rintro e w1 ⟨rfl, rfl⟩)
    go_wp2_with fail
    go_loop [0, 25] (fun z v => z = lw ∧ v = .int .i64 0) (fun _ _ => 0)
    case atStart => exact ⟨rfl, rfl⟩
    case round =>
      obtain ⟨rfl, rfl⟩ := hrel
      go_wp2
      go_ret
      exact ⟨_, rfl, row_ext HROW.out HBB.out, Ext.trans' HBW.out HBB.out⟩
set_option maxHeartbeats 4000000 in
set_option maxRecDepth 100000 in
theorem addVars_at : ∀ (N : Nat) (x : Tm), sizeN x ≤ N → formedT x = true → ∀ (W w : World) (v lv : Value) (l : List Int), TmV W x v → Below W.heap.size W w → RowN w W.heap.size lv l → l.length + sizeN x ≤ 1000000 →
    Calls Tryz.prog 47 #[lv, v] w fun e w' => ∃ r, e = .returned r ∧ RowN w' W.heap.size r (varsT x l) ∧ Below W.heap.size W w'
  | 0, x, h, hf, W, w, v, lv, l, hv, hb, hr, hl => by have := size_pos x; omega
  | N + 1, .mk k n s ts, h, hf, W, w, v, lv, l, hv, hb, hr, hl => by
    obtain ⟨u, rfl, hs, hki, hni, hu⟩ := tmV_iff.1 hv
    obtain ⟨a, c, rfl, h1, h2, h3⟩ := hu.len
    rw [formedT, Bool.and_eq_true] at hf
    by_cases hk : k = 0
    · have e : varsT (.mk k n s ts) l = if l.contains n then l else l ++ [n] := by rw [varsT, if_pos hk]
      rw [e]
      subst hk
      have hts : ts.length = 0 := by
        have := hf.1
        unfold plainT at this
        rw [if_pos rfl] at this
        simp at this
        simp [this.2]
      rw [hts]
      have := size_pos (.mk 0 n s ts)
      exact addVars_var (lv := none) hb hr (by omega) h2
    have e : varsT (.mk k n s ts) l = varsL ts l := by rw [varsT, if_neg hk]
    rw [e]
    have hk' : (k == 0) = false := beq_false_of_ne hk
    unfold BIG at h3
    obtain ⟨m, hm⟩ : ∃ m, ts.length = m := ⟨_, rfl⟩
    have IH := Lib.hid (fun (y : Tm) (hy : y ∈ ts) => addVars_at N y (mem_size h hy) (formed_mem hf.2 hy) W)
    have HL := Lib.hid (show l.length + sizesN ts ≤ 1000000 by rw [sizeN] at hl; omega)
    have HU := Lib.hid hu
    have HM := Lib.hid hm
    rw [hm] at h1 h3 hu HU ⊢
    have HBW := Lib.hid hb
    have HROW := Lib.hid hr
    obtain ⟨R, hR⟩ : ∃ R, varsL ts l = R := ⟨_, rfl⟩
    rw [hR]
    have HR := Lib.hid hR
    clear e hk hv hb hr hl hu hm hR h hf
    go_enter Tryz.func47, Tryz.ntmps47
    go_wp2_with fail
    go_loopw [0, 25] (fun z v wr => ∃ i : Nat, i ≤ m ∧ v = .int .i64 i ∧ Hid (RowN wr W.heap.size z (varsL (ts.take i) l)) ∧ Hid (Below W.heap.size W wr)) (fun _ v _ => m - (intOf v).toNat)
    case atStart => exact ⟨0, Nat.zero_le _, rfl, Lib.hid (by rw [List.take_zero, varsL]; exact row_ext HROW.out (bel1' _ _)), Lib.hid (Ext.trans' HBW.out (bel1' _ _))⟩
    case round =>
      obtain ⟨i, hi, rfl, HZ, HB⟩ := hrel
      by_cases hil : i < m
      · obtain ⟨y, hy⟩ : ∃ y, ts[i]? = some y := ⟨_, List.getElem?_eq_getElem (by rw [HM.out]; exact hil)⟩
        obtain ⟨b, off, k1, n1, s1, u1, rfl, hbb, _, _, _, c0, c1, c2, c3, htu, ht⟩ := HU.out.get hy
        obtain ⟨au, cu, rfl, _⟩ := htu.len
        clear htu
        have d0 := cell_later HB.out c0
        have d1 := cell_later HB.out c1
        have d2 := cell_later HB.out c2
        have d3 := cell_later HB.out c3
        have hz := sizes_drop' hy
        have hz2 := sizes_take' ts (i + 1)
        have hvl := (varss_len (ts.take i) l).1
        have hbx := bel1' wr (box4 k1 n1 s1 (.slice au y.args.length cu) 27)
        have ih := IH.out y (List.mem_of_getElem? hy) _ _ _ _ ht (HB.out.trans (hbx.mono HB.out.size)) (row_ext HZ.out hbx) (by have := HL.out; omega)
        have hst := varss_step hy l
        rw [← hst] at ih
        clear c0 c1 c2 c3 hz hz2 hvl hst ht hy hbx
        (go_wp2_with fail; go_fit (ih); rintro e w2 ⟨r2, rfl, hr2, b2⟩)
        have HZ2 := Lib.hid hr2
        have HB2 := Lib.hid b2
        clear hr2 b2 HZ HB d0 d1 d2 d3
        go_wp2
        go_roundw
        case rel => exact ⟨i + 1, by omega, by go_num, HZ2, HB2⟩
        case measure => simp [intOf]; omega
      · have hR2 : varsL (ts.take i) l = R := by rw [← HR.out, List.take_of_length_le (by rw [HM.out]; omega)]
        have HZ2 := HZ.out
        rw [hR2] at HZ2
        clear hR2 HZ HR
        go_wp2
        go_ret
        exact ⟨_, rfl, HZ2, HB.out⟩
set_option maxHeartbeats 2000000 in
theorem Vars_at (x : Tm) (w : World) (v : Value) (hv : TmV w x v) : Calls Tryz.prog 21 #[v] w fun e w' => ∃ r, e = .returned r ∧ Nums w' r (if goodT x then varsT x [] else []) ∧ Below w.heap.size w w' := by
  have G := fun w (h : TmV w x v) => Good_at x w v h
  have V := fun w1 (hb : Below w.heap.size w w1) (hs : goodT x = true) => addVars_at _ x (Nat.le_refl _) (good_parts hs).2.2 w w1 v (.slice none 0 0) [] hv hb (RowN.nil _ _) (by have := (good_parts hs).1; simp; omega)
  obtain ⟨k, n, s, u, rfl⟩ := hv.four
  have hv0 := TmV.ext (bel1' w (box4 k n s u 27)) _ _ hv
  clear hv
  cases hg : goodT x
  · rw [hg] at G
    clear V hg
    go_enter Tryz.func21, Tryz.ntmps21
    (go_wp2_with fail; go_fit (G _ hv0); rintro e w1 ⟨rfl, b1⟩)
    have B1 := Lib.hid (Ext.trans' (bel1' w _) b1)
    clear b1
    go_wp2
    go_ret
    exact ⟨_, rfl, Nums.nil _, B1.out⟩
  · rw [hg] at G
    have V' := fun w h => V w h hg
    rw [if_pos rfl]
    clear V hg
    go_enter Tryz.func21, Tryz.ntmps21
    (go_wp2_with fail; go_fit (G _ hv0); rintro e w1 ⟨rfl, b1⟩)
    obtain ⟨e0, e1, e2, e3⟩ := box_cells w 27 _ _ _ _ b1
    have B1 := Lib.hid (Ext.trans' (bel1' w _) b1)
    clear b1
    (go_wp2_with fail; go_fit (V' _ B1.out); rintro e w2 ⟨r, rfl, hr, b2⟩)
    have HN := Lib.hid hr.nums
    have B2 := Lib.hid b2
    clear hr b2
    go_wp2
    go_ret
    exact ⟨_, rfl, HN.out, B2.out⟩
end Go.Proofs.YtljgkfdnmikpfaaGreatDoor
