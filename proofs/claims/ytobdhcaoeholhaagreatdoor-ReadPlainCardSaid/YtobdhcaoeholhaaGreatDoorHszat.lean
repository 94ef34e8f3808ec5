import Derived.Test.YtobdhcaoeholhaaGreatDoorHszar
import Derived.Test.YtobdhcaoeholhaaGreatDoorHszad
import Derived.Test.YtobdhcaoeholhaaGreatDoorHszas
import Derived.Test.YtobdhcaoeholhaaGreatDoorHszaf
import Derived.Test.YtobdhcaoeholhaaGreatDoorHszaa
import Derived.Lib.ParseIntBTie
import Derived.Lib.ItoaMem
import Derived.Lib.ItoaLen
import Derived.Lib.Strings
import Derived.Test.YtobdhcaoeholhaaGreatDoorHszaq
import Derived.Test.YtobdhcaoeholhaaGreatDoorHszab
import Derived.Test.YtobdhcaoeholhaaGreatDoorHszah
import Derived.Test.YtobdhcaoeholhaaGreatDoorHszap
import Derived.Lib.SmallJoins
import Derived.Lib.LaidTab
import Derived.Test.YtobdhcaoeholhaaGreatDoorHszao
import Derived.Test.YtobdhcaoeholhaaGreatDoorHszac
import Derived.Lib.AppendIntMem
import Derived.Deep.QuietTactic
import Derived.Test.YtobdhcaoeholhaaGreatDoorHszan
import Derived.Test.YtobdhcaoeholhaaGreatDoorHszag
import Derived.Laws.StructEq
import Derived.Deep.RegionHeld3
set_option linter.unusedVariables false
set_option linter.unusedSimpArgs false
/- The document's own token (sizarref1.quoted): a quoted name. -/
namespace Go.Proofs.YtobdhcaoeholhaaGreatDoor
open Go.RowKit
set_option linter.unusedVariables false
set_option maxRecDepth 100000

def rquoV (i : Nat) : Option (List UInt8 × Nat) → Ending
  | none => roneV 0 ⟨#[]⟩ 0 0 2
  | some p => if p.1.length ≤ 64 then roneV 2 ⟨p.1.toArray⟩ 0 ((i + 1 + p.2 : Nat) : Int) 0 else roneV 0 ⟨#[]⟩ 0 0 3
theorem rquoV_ok {i n : Nat} {l : List UInt8} (h : l.length ≤ 64) : rquoV i (some (l, n)) = roneV 2 ⟨l.toArray⟩ 0 ((i + 1 + n : Nat) : Int) 0 := by
  show (if l.length ≤ 64 then _ else _) = _
  rw [if_pos h]
theorem rquoV_long {i n : Nat} {l : List UInt8} (h : ¬ l.length ≤ 64) : rquoV i (some (l, n)) = roneV 0 ⟨#[]⟩ 0 0 3 := by
  show (if l.length ≤ 64 then _ else _) = _
  rw [if_neg h]
theorem esc_num {d e : UInt8} (h : escB d = some e) : ((d.toNat : Int) = 110 ∧ e = 10) ∨ ((d.toNat : Int) = 116 ∧ e = 9) ∨ ((d.toNat : Int) = 92 ∧ e = 92) ∨ ((d.toNat : Int) = 39 ∧ e = 39) := by
  unfold escB at h
  split at h
  · rename_i hc; cases h; exact Or.inl ⟨by rw [eq_of_beq hc]; rfl, rfl⟩
  split at h
  · rename_i hc; cases h; exact Or.inr (Or.inl ⟨by rw [eq_of_beq hc]; rfl, rfl⟩)
  split at h
  · rename_i hc; cases h; exact Or.inr (Or.inr (Or.inl ⟨by rw [eq_of_beq hc]; rfl, rfl⟩))
  split at h
  · rename_i hc; cases h; exact Or.inr (Or.inr (Or.inr ⟨by rw [eq_of_beq hc]; rfl, rfl⟩))
  · cases h
theorem esc_no {d : UInt8} (h : escB d = none) : ((d.toNat : Int) == 110) = false ∧ ((d.toNat : Int) == 116) = false ∧ ((d.toNat : Int) == 92) = false ∧ ((d.toNat : Int) == 39) = false := by
  unfold escB at h
  have ne : ∀ n : UInt8, (d == n) = false → ((d.toNat : Int) == (n.toNat : Int)) = false := fun n hn => beq_false_of_ne fun e => by rw [i64_u8 e] at hn; simp at hn
  split at h
  · cases h
  rename_i h1
  split at h
  · cases h
  rename_i h2
  split at h
  · cases h
  rename_i h3
  split at h
  · cases h
  rename_i h4
  exact ⟨ne 110 (by simpa using h1), ne 116 (by simpa using h2), ne 92 (by simpa using h3), ne 39 (by simpa using h4)⟩
theorem ext_one (s : ByteArray) (k : Nat) (h : k < s.size) : bl (s.extract k (k + 1)) = [s[k]] := by
  rw [← take_ext s k 1]
  show (bl s |>.drop k).take 1 = [s[k]]
  rw [drop_at (l := bl s) h]
  rfl
theorem bl_app (a b : ByteArray) : bl (a ++ b) = bl a ++ bl b := by simp [bl]
set_option maxHeartbeats 4000000 in
theorem rquo_any (s : ByteArray) (i : Nat) (w : World) (hi : i < s.size) (hs : s.size ≤ 140737488351232) : Calls Tryz.prog 156 #[.string s, .int .i64 i] w fun e w' => e = rquoV i (quoB ((bl s).drop (i + 1))) ∧ Below w.heap.size w w' := by
  obtain ⟨X, hX⟩ : ∃ X, quoB ((bl s).drop (i + 1)) = X := ⟨_, rfl⟩
  rw [hX]
  have HX := Lib.hid hX
  clear hX
  obtain ⟨w1, hw1, hb1, hz1, hx1⟩ := box_new w #[.int .i64 0, .string ⟨#[]⟩, .int .i64 0, .bool false, .int .i64 0] 138
  obtain ⟨r0, r1, r2, r3, r4, rf⟩ := hx1.five
  go_enter Tryz.func156, Tryz.ntmps156
  go_wp2_with fail
  (try rw [hw1])
  clear hw1 hz1 hx1
  go_wp2_with fail
  go_loop [7, 8] (fun o v => ∃ (k : Nat) (t : ByteArray), i + 1 ≤ k ∧ k ≤ s.size ∧ v = .int .i64 k ∧ o = .string t ∧ t.size ≤ k ∧
      Hid (X = (quoB ((bl s).drop k)).map fun p => (bl t ++ p.1, k - (i + 1) + p.2))) (fun _ v => s.size - (intOf v).toNat)
  case atStart => exact ⟨i + 1, ⟨#[]⟩, Nat.le_refl _, by omega, by go_num, rfl, Nat.zero_le _, Lib.hid (by
    rw [HX.out]
    cases X with
    | none => rfl
    | some p => show some p = some ([] ++ p.1, i + 1 - (i + 1) + p.2); rw [Nat.sub_self, Nat.zero_add]; rfl)⟩
  case round =>
    obtain ⟨k, t, hik, hk, rfl, rfl, htk, HQ⟩ := hrel
    by_cases hlt : k < s.size
    · obtain ⟨c, hc⟩ : ∃ c, s[k] = c := ⟨_, rfl⟩
      have hc' : ∀ h, s[k]'h = c := fun _ => hc
      have hv : ((bl s)[k]'hlt) = c := hc
      have ha1 : ¬ 9223372036854775807 < t.size + 1 := by omega
      have ha2 : ¬ 9223372036854775807 < 1 + t.size := by omega
      have hx1 := ext_one s k hlt
      have hxs : (s.extract k (k + 1)).size = 1 := by simp; omega
      rw [hc] at hx1
      cases hq : (c == 39)
      · have gq : ((c.toNat : Int) == 39) = false := beq_false_of_ne fun e => by rw [show c = 39 from i64_u8 e] at hq; exact absurd hq (by decide)
        cases hb : (c == 92)
        · have gc : ((c.toNat : Int) == 92) = false := beq_false_of_ne fun e => by rw [show c = 92 from i64_u8 e] at hb; exact absurd hb (by decide)
          have hsh := shown_eq c
          cases hl : decide (32 ≤ (c.toNat : Int))
          · have hl' : (c.toNat : Int) < 32 := by simpa using hl
            rw [hl, Bool.false_and] at hsh
            have he := quo_ill (l := bl s) (i := k) hlt (by rw [hv]; exact hq) (by rw [hv]; exact hb) (by rw [hv]; exact hsh)
            have hxn : X = none := by rw [HQ.out, he]; rfl
            subst hxn
            clear HX HQ he hq hb hsh hl hv hx1 hc
            go_wp2
            refine bodyPost_ret (v := .tuple #[rtokV 0 ⟨#[]⟩ 0, .int .i64 0, .int .i64 2]) (by rw [results_cell3 rfl]; go_simp; (try rfl)) rfl ?_
            refine And.intro rfl ?_
            repeat' (first | with_reducible exact hb1 | with_reducible refine Below.setCell ?_ ?_ _ | exact Nat.le_refl _)
          · have hl' : 32 ≤ (c.toNat : Int) := by simpa using hl
            rw [hl, Bool.true_and] at hsh
            cases hm : decide ((c.toNat : Int) ≤ 126)
            · have hm' : 126 < (c.toNat : Int) := by simpa using hm
              rw [hm] at hsh
              have he := quo_ill (l := bl s) (i := k) hlt (by rw [hv]; exact hq) (by rw [hv]; exact hb) (by rw [hv]; exact hsh)
              have hxn : X = none := by rw [HQ.out, he]; rfl
              subst hxn
              clear HX HQ he hq hb hsh hl hm hv hx1 hc
              go_wp2
              refine bodyPost_ret (v := .tuple #[rtokV 0 ⟨#[]⟩ 0, .int .i64 0, .int .i64 2]) (by rw [results_cell3 rfl]; go_simp; (try rfl)) rfl ?_
              refine And.intro rfl ?_
              repeat' (first | with_reducible exact hb1 | with_reducible refine Below.setCell ?_ ?_ _ | exact Nat.le_refl _)
            · have hm' : (c.toNat : Int) ≤ 126 := by simpa using hm
              rw [hm] at hsh
              have he := quo_plain (l := bl s) (i := k) hlt (by rw [hv]; exact hq) (by rw [hv]; exact hb) (by rw [hv]; exact hsh)
              rw [hv] at he
              have HN : Hid (X = (quoB ((bl s).drop (k + 1))).map fun p => (bl (t ++ s.extract k (k + 1)) ++ p.1, k + 1 - (i + 1) + p.2)) := Lib.hid (by
                rw [HQ.out, he, bl_app, hx1]
                cases quoB ((bl s).drop (k + 1)) with
                | none => rfl
                | some p => simp; omega)
              have hzz : (t ++ s.extract k (k + 1)).size ≤ k + 1 := by rw [ByteArray.size_append, hxs]; omega
              obtain ⟨t', ht'⟩ : ∃ t', t ++ s.extract k (k + 1) = t' := ⟨_, rfl⟩
              rw [ht'] at HN hzz
              have HT' := Lib.hid ht'
              have ha3 : ¬ 9223372036854775807 < t.size + (s.extract k (k + 1)).size := by rw [hxs]; omega
              clear HX HQ he hq hb hsh hl hm hv hx1 hc ht' hxs
              go_wp2
              go_round
              case rel => exact ⟨k + 1, t', by omega, by omega, by go_num, by rw [← HT'.out], hzz, HN⟩
              case measure => simp [intOf]; omega
        · obtain rfl : c = 92 := eq_of_beq hb
          have hl' : k + 1 < s.size ∨ s.size ≤ k + 1 := by omega
          rcases hl' with hl' | hl'
          · obtain ⟨d, hd⟩ : ∃ d, s[k + 1] = d := ⟨_, rfl⟩
            have hd' : ∀ h, s[k + 1]'h = d := fun _ => hd
            have hdr : (bl s).drop (k + 1) = d :: (bl s).drop (k + 2) := by rw [drop_at (l := bl s) hl', bl_get s _ hl', hd]
            have hx2 := ext_one s (k + 1) hl'
            rw [hd] at hx2
            have hxs2 : (s.extract (k + 1) (k + 1 + 1)).size = 1 := by simp; omega
            cases hes : escB d with
            | none =>
              obtain ⟨g1, g2, g3, g4⟩ := esc_no hes
              have he := quo_wrong (l := bl s) (i := k) hlt (by rw [hv]; rfl) (by rw [hv]; rfl) (by rw [hdr]; exact hes)
              have hxn : X = none := by rw [HQ.out, he]; rfl
              subst hxn
              clear HX HQ he hq hb hv hx1 hc hes hx2 hd hdr hxs2
              go_wp2
              refine bodyPost_ret (v := .tuple #[rtokV 0 ⟨#[]⟩ 0, .int .i64 0, .int .i64 2]) (by rw [results_cell3 rfl]; go_simp; (try rfl)) rfl ?_
              refine And.intro rfl ?_
              repeat' (first | with_reducible exact hb1 | with_reducible refine Below.setCell ?_ ?_ _ | exact Nat.le_refl _)
            | some e =>
              obtain ⟨hk2, he⟩ := quo_esc (l := bl s) (i := k) hlt (by rw [hv]; rfl) (by rw [hv]; rfl) (by rw [hdr]; exact hes)
              have HN : ∀ q : ByteArray, bl q = [e] → Hid (X = (quoB ((bl s).drop (k + 2))).map fun p => (bl (t ++ q) ++ p.1, k + 2 - (i + 1) + p.2)) := fun q hq1 => Lib.hid (by
                rw [HQ.out, he, bl_app, hq1]
                cases quoB ((bl s).drop (k + 2)) with
                | none => rfl
                | some p => simp; omega)
              have HX2 := Lib.hid hx2
              have hk2' : k + 2 ≤ s.size := by omega
              have ha3 : ¬ 9223372036854775807 < t.size + (s.extract (k + 1) (k + 1 + 1)).size := by rw [hxs2]; omega
              have hes' := esc_num hes
              clear HX HQ he hq hb hv hx1 hc hx2 hes hd hdr hk2
              rcases hes' with ⟨g, rfl⟩ | ⟨g, rfl⟩ | ⟨g, rfl⟩ | ⟨g, rfl⟩
              · obtain ⟨t', ht'⟩ : ∃ t', t ++ (⟨#[10]⟩ : ByteArray) = t' := ⟨_, rfl⟩
                have HN1 := HN ⟨#[10]⟩ rfl
                rw [ht'] at HN1
                have hzz : t'.size ≤ k + 2 := by rw [← ht', ByteArray.size_append]; show t.size + 1 ≤ _; omega
                have HT' := Lib.hid ht'
                clear ht' HN
                go_wp2
                go_round
                case rel => exact ⟨k + 2, t', by omega, by omega, by go_num, by rw [← HT'.out], hzz, HN1⟩
                case measure => simp [intOf]; omega
              · obtain ⟨t', ht'⟩ : ∃ t', t ++ (⟨#[9]⟩ : ByteArray) = t' := ⟨_, rfl⟩
                have HN1 := HN ⟨#[9]⟩ rfl
                rw [ht'] at HN1
                have hzz : t'.size ≤ k + 2 := by rw [← ht', ByteArray.size_append]; show t.size + 1 ≤ _; omega
                have HT' := Lib.hid ht'
                clear ht' HN
                go_wp2
                go_round
                case rel => exact ⟨k + 2, t', by omega, by omega, by go_num, by rw [← HT'.out], hzz, HN1⟩
                case measure => simp [intOf]; omega
              · obtain ⟨t', ht'⟩ : ∃ t', t ++ s.extract (k + 1) (k + 1 + 1) = t' := ⟨_, rfl⟩
                have HN1 := HN (s.extract (k + 1) (k + 1 + 1)) (by rw [HX2.out, show d = 92 from i64_u8 g])
                rw [ht'] at HN1
                have hzz : t'.size ≤ k + 2 := by rw [← ht', ByteArray.size_append, hxs2]; omega
                have HT' := Lib.hid ht'
                clear ht' HN hxs2
                go_wp2
                go_round
                case rel => exact ⟨k + 2, t', by omega, by omega, by go_num, by rw [← HT'.out], hzz, HN1⟩
                case measure => simp [intOf]; omega
              · obtain ⟨t', ht'⟩ : ∃ t', t ++ s.extract (k + 1) (k + 1 + 1) = t' := ⟨_, rfl⟩
                have HN1 := HN (s.extract (k + 1) (k + 1 + 1)) (by rw [HX2.out, show d = 39 from i64_u8 g])
                rw [ht'] at HN1
                have hzz : t'.size ≤ k + 2 := by rw [← ht', ByteArray.size_append, hxs2]; omega
                have HT' := Lib.hid ht'
                clear ht' HN hxs2
                go_wp2
                go_round
                case rel => exact ⟨k + 2, t', by omega, by omega, by go_num, by rw [← HT'.out], hzz, HN1⟩
                case measure => simp [intOf]; omega
          · have hdr : (bl s).drop (k + 1) = [] := List.drop_eq_nil_of_le (by rw [bl_len]; omega)
            have he := quo_wrong (l := bl s) (i := k) hlt (by rw [hv]; rfl) (by rw [hv]; rfl) (by rw [hdr]; rfl)
            have hxn : X = none := by rw [HQ.out, he]; rfl
            subst hxn
            clear HX HQ he hq hb hv hx1 hc hdr
            go_wp2
            refine bodyPost_ret (v := .tuple #[rtokV 0 ⟨#[]⟩ 0, .int .i64 0, .int .i64 2]) (by rw [results_cell3 rfl]; go_simp; (try rfl)) rfl ?_
            refine And.intro rfl ?_
            repeat' (first | with_reducible exact hb1 | with_reducible refine Below.setCell ?_ ?_ _ | exact Nat.le_refl _)
      · obtain rfl : c = 39 := eq_of_beq hq
        have hpf : Lib.hasPrefix ((bl s).drop k) [39, 39] = ((bl s)[k + 1]? == some 39) := by
          rw [drop_at (l := bl s) hlt, hv]
          unfold Lib.hasPrefix
          cases hdd : (bl s).drop (k + 1) with
          | nil => rw [List.getElem?_eq_none (by have := List.drop_eq_nil_iff.1 hdd; omega)]; rfl
          | cons x r =>
            have : (bl s)[k + 1]? = some x := by
              have h0 := congrArg List.head? hdd
              rw [List.head?_drop] at h0
              exact h0
            rw [this]
            simp only [List.isPrefixOf, Bool.and_true]
            rw [Bool.eq_iff_iff]
            simp only [Bool.and_eq_true, beq_iff_eq, Option.some.injEq]
            exact ⟨fun h => h.2.symm, fun h => ⟨by first | rfl | trivial, h.symm⟩⟩
        by_cases htwo : (bl s)[k + 1]? = some 39
        · have hl' : k + 1 < s.size := (List.getElem?_eq_some_iff.1 htwo).1
          have hd : s[k + 1] = 39 := (List.getElem?_eq_some_iff.1 htwo).2
          have hd' : ∀ h, s[k + 1]'h = 39 := fun _ => hd
          obtain ⟨hk2, he⟩ := quo_two (l := bl s) (i := k) hlt (by rw [hv]; rfl) (by rw [hpf, htwo]; rfl)
          obtain ⟨t', ht'⟩ : ∃ t', t ++ (⟨#[39]⟩ : ByteArray) = t' := ⟨_, rfl⟩
          have HN : Hid (X = (quoB ((bl s).drop (k + 2))).map fun p => (bl t' ++ p.1, k + 2 - (i + 1) + p.2)) := Lib.hid (by
            rw [HQ.out, he, ← ht', bl_app, show bl (⟨#[39]⟩ : ByteArray) = [39] from rfl]
            cases quoB ((bl s).drop (k + 2)) with
            | none => rfl
            | some p => simp; omega)
          have hzz : t'.size ≤ k + 2 := by rw [← ht', ByteArray.size_append]; show t.size + 1 ≤ _; omega
          have HT' := Lib.hid ht'
          clear HX HQ he hq hv hx1 hc ht' hpf htwo hd hk2
          go_wp2
          go_round
          case rel => exact ⟨k + 2, t', by omega, by omega, by go_num, by rw [← HT'.out], hzz, HN⟩
          case measure => simp [intOf]; omega
        · have he := quo_shut (l := bl s) (i := k) hlt (by rw [hv]; rfl) (by rw [hpf]; exact beq_false_of_ne htwo)
          have hxn : X = some (bl t, k - (i + 1) + 1) := by rw [HQ.out, he]; simp
          have hbt : (bl t).length = t.size := bl_len t
          have hin : i + 1 + (k - (i + 1) + 1) = k + 1 := by omega
          have hlast : s.size ≤ k + 1 ∨ ∃ d, (∃ h : k + 1 < s.size, True) ∧ (∀ h, s[k + 1]'h = d) ∧ ((d.toNat : Int) == 39) = false := by
            by_cases hl' : k + 1 < s.size
            · refine Or.inr ⟨s[k + 1], ⟨hl', trivial⟩, fun _ => rfl, beq_false_of_ne fun e => htwo ?_⟩
              rw [List.getElem?_eq_getElem (l := bl s) hl']
              exact congrArg some (i64_u8 e)
            · exact Or.inl (by omega)
          subst hxn
          have HBT := Lib.hid hbt
          have HIN := Lib.hid hin
          clear HX HQ he hq hv hx1 hc hpf htwo hxs hbt hin
          by_cases h64 : t.size ≤ 64
          · rcases hlast with hl | ⟨d, ⟨hl, _⟩, hd', hd⟩
            · go_wp2
              refine bodyPost_ret (v := .tuple #[rtokV 2 t 0, .int .i64 ((k + 1 : Nat) : Int), .int .i64 0]) (by rw [results_cell3 rfl]; go_simp; (try rfl)) rfl ?_
              refine And.intro (by
                rw [rquoV_ok (by rw [HBT.out]; exact h64), HIN.out]) ?_
              repeat' (first | with_reducible exact hb1 | with_reducible refine Below.setCell ?_ ?_ _ | exact Nat.le_refl _)
            · go_wp2
              refine bodyPost_ret (v := .tuple #[rtokV 2 t 0, .int .i64 ((k + 1 : Nat) : Int), .int .i64 0]) (by rw [results_cell3 rfl]; go_simp; (try rfl)) rfl ?_
              refine And.intro (by
                rw [rquoV_ok (by rw [HBT.out]; exact h64), HIN.out]) ?_
              repeat' (first | with_reducible exact hb1 | with_reducible refine Below.setCell ?_ ?_ _ | exact Nat.le_refl _)
          · rcases hlast with hl | ⟨d, ⟨hl, _⟩, hd', hd⟩
            · go_wp2
              refine bodyPost_ret (v := .tuple #[rtokV 0 ⟨#[]⟩ 0, .int .i64 0, .int .i64 3]) (by rw [results_cell3 rfl]; go_simp; (try rfl)) rfl ?_
              refine And.intro (by
                rw [rquoV_long (by rw [HBT.out]; exact h64)]) ?_
              repeat' (first | with_reducible exact hb1 | with_reducible refine Below.setCell ?_ ?_ _ | exact Nat.le_refl _)
            · go_wp2
              refine bodyPost_ret (v := .tuple #[rtokV 0 ⟨#[]⟩ 0, .int .i64 0, .int .i64 3]) (by rw [results_cell3 rfl]; go_simp; (try rfl)) rfl ?_
              refine And.intro (by
                rw [rquoV_long (by rw [HBT.out]; exact h64)]) ?_
              repeat' (first | with_reducible exact hb1 | with_reducible refine Below.setCell ?_ ?_ _ | exact Nat.le_refl _)
    · have he := quo_end (l := bl s) (i := k) (show s.size ≤ k by omega)
      have hxn : X = none := by rw [HQ.out, he]; rfl
      subst hxn
      clear HX HQ he
      go_wp2
      refine bodyPost_ret (v := .tuple #[rtokV 0 ⟨#[]⟩ 0, .int .i64 0, .int .i64 2]) (by rw [results_cell3 rfl]; go_simp; (try rfl)) rfl ?_
      refine And.intro rfl ?_
      repeat' (first | with_reducible exact hb1 | with_reducible refine Below.setCell ?_ ?_ _ | exact Nat.le_refl _)
end Go.Proofs.YtobdhcaoeholhaaGreatDoor
/- The document's own token (sizarref1.one): all ways. -/
namespace Go.Proofs.YtobdhcaoeholhaaGreatDoor
open Go.RowKit
set_option linter.unusedVariables false
set_option maxRecDepth 100000

set_option maxHeartbeats 1000000 in
theorem rone_quote (s : ByteArray) (i : Nat) (w : World) (hi : i < s.size) (hs : s.size ≤ 140737488351232) (hc : s[i] = 39) :
    Calls Tryz.prog 114 #[.string s, .int .i64 i] w fun e w' => e = rquoV i (quoB ((bl s).drop (i + 1))) ∧ Below w.heap.size w w' := by
  have hc' : ∀ h, s[i]'h = 39 := fun _ => hc
  have A : ∀ w, Calls Tryz.prog 151 #[.int .u8 39] w fun e w' => e = .returned (.bool false) ∧ w = w' := fun w => rsmall_any 39 w
  have B : ∀ w, Calls Tryz.prog 152 #[.int .u8 39] w fun e w' => e = .returned (.bool false) ∧ w = w' := fun w => rgreat_any 39 w
  have G : ∀ w, Calls Tryz.prog 154 #[.int .u8 39] w fun e w' => e = .returned (.bool false) ∧ w = w' := fun w => rdigit_any 39 w
  have Q := fun w => rquo_any s i w hi hs
  obtain ⟨X, hX⟩ : ∃ X, rquoV i (quoB ((bl s).drop (i + 1))) = X := ⟨_, rfl⟩
  rw [hX] at Q ⊢
  have hx : ∃ k t n b e, X = roneV k t n b e := by
    rw [← hX]
    cases quoB ((bl s).drop (i + 1)) with
    | none => exact ⟨_, _, _, _, _, rfl⟩
    | some p =>
      by_cases h : p.1.length ≤ 64
      · exact ⟨_, _, _, _, _, rquoV_ok h⟩
      · exact ⟨_, _, _, _, _, rquoV_long h⟩
  obtain ⟨k, t, n, b, e, rfl⟩ := hx
  clear hX hc
  obtain ⟨w1, hw1, hb1, hz1, hx1⟩ := box_new w #[.int .i64 0, .string ⟨#[]⟩, .int .i64 0, .bool false, .int .i64 0] 138
  obtain ⟨r0, r1, r2, r3, r4, rf⟩ := hx1.five
  have HX1 := Lib.hid hx1
  have hz : w.heap.size < w1.heap.size := by omega
  go_enter Tryz.func114, Tryz.ntmps114
  go_wp2_with fail
  (try rw [hw1])
  clear hw1 hz1 hx1
  go_wp2_with (first | (go_at_call 151; go_fit (A _); rintro e w' ⟨rfl, rfl⟩) | (go_at_call 152; go_fit (B _); rintro e w' ⟨rfl, rfl⟩) | (go_at_call 154; go_fit (G _); rintro e w' ⟨rfl, rfl⟩) | (go_at_call 156; refine (Q _).mono ?_; rintro q w2 ⟨rfl, h2⟩; have hb2 := Lib.hid (Ext.trans' hb1 h2); obtain ⟨q0, q1, q2, q3, q4, qf⟩ := (Box.ext HX1.out h2).five; clear h2) | fail)
  refine bodyPost_ret (v := .tuple #[rtokV k t n, .int .i64 b, .int .i64 e]) (by rw [results_cell3 rfl]; go_simp; (try rfl)) rfl ?_
  refine And.intro rfl ?_
  repeat' (first | with_reducible exact hb2.out | with_reducible refine Below.setCell ?_ ?_ _ | exact Nat.le_refl _)
/-- What is answered for the token that stands at a place. -/
def onePost (i : Nat) (x : NextB) (e : Ending) : Prop := match x with
  | .skip _ => True
  | .tok t => e = roneV (t.kind : Int) ⟨t.text.toArray⟩ (t.n : Int) ((i + t.len : Nat) : Int) 0
  | .bad o => ∃ k t n b, e = roneV k t n b (if o then 3 else 2)
theorem take_ex (s : ByteArray) (i k : Nat) : s.extract i (i + k) = ⟨(((bl s).drop i).take k).toArray⟩ := (take_ext s i k).symm
theorem wrd (c : UInt8) : wordB c = (smallB c || greatB c || digitB c) := rfl
theorem sg_not : ∀ c, (!(smallB c) || !(greatB c)) = true := u8_all (g := fun _ => true) (by decide +kernel)
set_option maxHeartbeats 1000000 in
theorem rone_any (s : ByteArray) (i : Nat) (w : World) (hi : i < s.size) (hs : s.size ≤ 140737488351232) (hns : ∀ k, nextC s[i] ((bl s).drop (i + 1)) ≠ .skip k) :
    Calls Tryz.prog 114 #[.string s, .int .i64 i] w fun e w' => onePost i (nextC s[i] ((bl s).drop (i + 1))) e ∧ Below w.heap.size w w' := by
  have hd : (bl s).drop i = s[i] :: (bl s).drop (i + 1) := drop_at (l := bl s) hi
  have htk : ∀ p : UInt8 → Bool, p s[i] = true → twK p (bl s) i = (((bl s).drop (i + 1)).takeWhile p).length + 1 := fun p hp => tw_in (l := bl s) hi hp
  have hE : endK (bl s) i = (s[i] == 46 && endB ((bl s).drop (i + 1))) := endK_at (l := bl s) hi
  have hlen : (bl s).length = s.size := bl_len s
  unfold nextC at hns ⊢
  by_cases h1 : blankB s[i] = true
  · rw [if_pos h1] at hns; exact absurd rfl (hns 1)
  rw [if_neg h1]
  rw [if_neg h1] at hns
  by_cases h2 : (s[i] == 37) = true
  · rw [if_pos h2] at hns; exact absurd rfl (hns _)
  rw [if_neg h2]
  clear hns
  by_cases h3 : smallB s[i] = true
  · have hg : greatB s[i] = false := by have := sg_not s[i]; rw [h3] at this; simpa using this
    have ht := htk wordB (by rw [wrd, h3]; rfl)
    rw [if_pos h3, ← ht, ← hd]
    unfold nameB
    by_cases h64 : twK wordB (bl s) i ≤ 64
    · rw [if_pos (decide_eq_true h64)]
      refine (rone_small s i w hi hs h3 hg rfl (by omega)).mono ?_
      rintro e w' ⟨rfl, hb⟩
      refine ⟨?_, hb⟩
      show _ = roneV _ _ _ _ _
      rw [take_ex]
      rfl
    · rw [if_neg (by simpa using h64)]
      refine (rone_long s i w hi hs h3 hg rfl (by omega)).mono ?_
      rintro e w' ⟨rfl, hb⟩
      exact ⟨⟨_, _, _, _, rfl⟩, hb⟩
  have h3' : smallB s[i] = false := by simpa using h3
  rw [if_neg h3]
  by_cases h4 : greatB s[i] = true
  · have ht := htk wordB (by rw [wrd, h4]; simp)
    rw [if_pos h4, ← ht, ← hd]
    refine (rone_great s i w hi hs h3' h4 rfl).mono ?_
    rintro e w' ⟨rfl, hb⟩
    refine ⟨?_, hb⟩
    show _ = roneV _ _ _ _ _
    rw [take_ex]
    rfl
  have h4' : greatB s[i] = false := by simpa using h4
  rw [if_neg h4]
  by_cases h5 : digitB s[i] = true
  · have ht := htk digitB h5
    rw [if_pos h5, ← ht, ← hd]
    have hD := fun x e h => rone_digit s i w hi hs h3' h4' h5 rfl (x := x) (e := e) h
    have hnum : numR (bl (s.extract i (i + twK digitB (bl s) i))) = numR (((bl s).drop i).take (twK digitB (bl s) i)) := by rw [take_ex]
    rw [hnum] at hD
    unfold numR at hD
    by_cases hm : numB (((bl s).drop i).take (twK digitB (bl s) i)) ≤ 9223372036854775807
    · rw [if_pos (decide_eq_true hm)]
      rw [if_pos hm] at hD
      refine (hD _ _ rfl).mono ?_
      rintro e w' ⟨rfl, hb⟩
      exact ⟨rfl, hb⟩
    · rw [if_neg (by simpa using hm)]
      rw [if_neg hm] at hD
      refine (hD _ _ rfl).mono ?_
      rintro e w' ⟨rfl, hb⟩
      exact ⟨⟨_, _, _, _, rfl⟩, hb⟩
  have h5' : digitB s[i] = false := by simpa using h5
  rw [if_neg h5]
  by_cases h6 : (s[i] == 39) = true
  · rw [if_pos h6]
    refine (rone_quote s i w hi hs (eq_of_beq h6)).mono ?_
    rintro e w' ⟨rfl, hb⟩
    refine ⟨?_, hb⟩
    cases quoB ((bl s).drop (i + 1)) with
    | none => exact ⟨_, _, _, _, rfl⟩
    | some p =>
      simp only
      by_cases h : p.1.length ≤ 64
      · rw [if_pos (decide_eq_true h)]
        show rquoV i (some (p.1, p.2)) = roneV _ _ _ _ _
        rw [rquoV_ok h, show i + 1 + p.2 = i + (p.2 + 1) by omega]
        rfl
      · rw [if_neg (by simpa using h)]
        show ∃ k t n b, rquoV i (some (p.1, p.2)) = _
        rw [rquoV_long h]
        exact ⟨_, _, _, _, rfl⟩
  rw [if_neg h6]
  by_cases h7 : (s[i] == 46 && endB ((bl s).drop (i + 1))) = true
  · rw [if_pos h7]
    refine (rone_end s i w hi hs (eq_of_beq (Bool.and_eq_true _ _ ▸ h7).1) (by rw [hE]; exact h7)).mono ?_
    rintro e w' ⟨rfl, hb⟩
    exact ⟨rfl, hb⟩
  have h7' : endK (bl s) i = false := by rw [hE]; simpa using h7
  rw [if_neg h7]
  by_cases h8 : symB s[i] = true
  · have hr : restB s[i] = true := by have := sym_rest s[i]; rw [h8] at this; simpa using this
    rw [if_pos h8, ← hd]
    have hk : symRun ((bl s).drop i) = symK (bl s) i := rfl
    rw [hk]
    unfold nameB
    by_cases h64 : symK (bl s) i ≤ 64
    · rw [if_pos (decide_eq_true h64)]
      refine (rone_sym s i w hi hs hr h7' h8 rfl (by omega)).mono ?_
      rintro e w' ⟨rfl, hb⟩
      refine ⟨?_, hb⟩
      show _ = roneV _ _ _ _ _
      rw [take_ex]
      rfl
    · rw [if_neg (by simpa using h64)]
      refine (rone_symlong s i w hi hs hr h7' h8 rfl (by omega)).mono ?_
      rintro e w' ⟨rfl, hb⟩
      exact ⟨⟨_, _, _, _, rfl⟩, hb⟩
  have h8' : symB s[i] = false := by simpa using h8
  rw [if_neg h8]
  have fin1 : ∀ κ : Nat, ∀ {e : Ending}, e = roneV (κ : Int) (s.extract i (i + 1)) 0 ((i : Int) + 1) 0 → onePost i (tokB κ ((s[i] :: (bl s).drop (i + 1)).take 1) 0 1 (s[i] :: (bl s).drop (i + 1))) e := fun κ e he => by
    rw [he, take_ex, hd]
    rfl
  by_cases h9 : (s[i] == 59 || s[i] == 33) = true
  · rw [if_pos h9]
    unfold nameB
    rw [if_pos (by decide)]
    rcases (Bool.or_eq_true _ _ ▸ h9) with h | h
    · refine (rone_59 s i w hi hs (eq_of_beq h)).mono ?_
      rintro e w' ⟨he, hb⟩
      exact ⟨fin1 1 he, hb⟩
    · refine (rone_33 s i w hi hs (eq_of_beq h)).mono ?_
      rintro e w' ⟨he, hb⟩
      exact ⟨fin1 1 he, hb⟩
  rw [if_neg h9]
  have hhead : ((bl s).drop (i + 1)).head? = (bl s)[i + 1]? := List.head?_drop
  have fin2 : ∀ {e : Ending}, e = roneV 1 (s.extract i (i + 2)) 0 ((i : Int) + 2) 0 → onePost i (tokB 1 ((s[i] :: (bl s).drop (i + 1)).take 2) 0 2 (s[i] :: (bl s).drop (i + 1))) e := fun he => by
    rw [he, take_ex, hd]
    rfl
  by_cases h10 : ((s[i] == 91 && ((bl s).drop (i + 1)).head? == some 93) || (s[i] == 123 && ((bl s).drop (i + 1)).head? == some 125)) = true
  · rw [if_pos h10]
    unfold nameB
    rw [if_pos (by decide)]
    rw [hhead] at h10
    rcases (Bool.or_eq_true _ _ ▸ h10) with h | h
    · have h' := (Bool.and_eq_true _ _ ▸ h : _ ∧ _)
      obtain ⟨q1, q2⟩ := List.getElem?_eq_some_iff.1 (eq_of_beq h'.2)
      refine (rone_91_pair s i w hi hs (eq_of_beq h'.1) q1 q2).mono ?_
      rintro e w' ⟨he, hb⟩
      exact ⟨fin2 he, hb⟩
    · have h' := (Bool.and_eq_true _ _ ▸ h : _ ∧ _)
      obtain ⟨q1, q2⟩ := List.getElem?_eq_some_iff.1 (eq_of_beq h'.2)
      refine (rone_123_pair s i w hi hs (eq_of_beq h'.1) q1 q2).mono ?_
      rintro e w' ⟨he, hb⟩
      exact ⟨fin2 he, hb⟩
  rw [if_neg h10]
  have mk1 : ∀ {e : Ending}, e = roneV 5 (s.extract i (i + 1)) 0 ((i : Int) + 1) 0 → onePost i (tokB 5 [s[i]] 0 1 (s[i] :: (bl s).drop (i + 1))) e := fun he => fin1 5 he
  by_cases h11 : [40, 41, 91, 93, 123, 125, 44, 124].contains s[i] = true
  · rw [if_pos h11]
    have hm := List.contains_iff_mem.1 h11
    have two : ∀ n : UInt8, (∀ h2 : s.size ≤ i + 1, Calls Tryz.prog 114 #[.string s, .int .i64 i] w fun e w' => e = roneV 5 (s.extract i (i + 1)) 0 (i + 1) 0 ∧ Below w.heap.size w w') →
        (∀ (h2 : i + 1 < s.size) (hd : (((s[i + 1]).toNat : Int) == (n.toNat : Int)) = false), Calls Tryz.prog 114 #[.string s, .int .i64 i] w fun e w' => e = roneV 5 (s.extract i (i + 1)) 0 (i + 1) 0 ∧ Below w.heap.size w w') →
        ¬ (bl s)[i + 1]? = some n → Calls Tryz.prog 114 #[.string s, .int .i64 i] w fun e w' => e = roneV 5 (s.extract i (i + 1)) 0 (i + 1) 0 ∧ Below w.heap.size w w' := fun n ha hb hx => by
      by_cases h2 : i + 1 < s.size
      · refine hb h2 (beq_false_of_ne fun e => hx ?_)
        rw [List.getElem?_eq_getElem (l := bl s) h2]
        exact congrArg some (i64_u8 e)
      · exact ha (by omega)
    have all : Calls Tryz.prog 114 #[.string s, .int .i64 i] w fun e w' => e = roneV 5 (s.extract i (i + 1)) 0 (i + 1) 0 ∧ Below w.heap.size w w' := by
      simp only [List.mem_cons, List.not_mem_nil, or_false] at hm
      rcases hm with h | h | h | h | h | h | h | h
      · exact rone_40 s i w hi hs h
      · exact rone_41 s i w hi hs h
      · refine two 93 (fun h2 => rone_91_last s i w hi hs h h2) (fun h2 h3 => rone_91_next s i w hi hs h h2 h3) fun e => h10 ?_
        rw [hhead, e, h]; rfl
      · exact rone_93 s i w hi hs h
      · refine two 125 (fun h2 => rone_123_last s i w hi hs h h2) (fun h2 h3 => rone_123_next s i w hi hs h h2 h3) fun e => h10 ?_
        rw [hhead, e, h]; rfl
      · exact rone_125 s i w hi hs h
      · exact rone_44 s i w hi hs h
      · exact rone_124 s i w hi hs h
    refine all.mono ?_
    rintro e w' ⟨he, hb⟩
    exact ⟨mk1 he, hb⟩
  rw [if_neg h11]
  have hr : restB s[i] = true := by
    unfold restB
    rw [h3', h4', h5']
    have a1 : ¬ s[i] = 39 := fun e => h6 (by rw [e]; rfl)
    have a2 : ¬ s[i] = 59 := fun e => h9 (by rw [e]; rfl)
    have a3 : ¬ s[i] = 33 := fun e => h9 (by rw [e]; rfl)
    have a4 : ¬ s[i] ∈ [40, 41, 91, 93, 123, 125, 44, 124] := fun e => h11 (List.contains_iff_mem.2 e)
    simp only [List.mem_cons, List.not_mem_nil, or_false, not_or] at a4
    simp [a1, a2, a3, a4]
  refine (rone_none s i w hi hs hr h7' h8').mono ?_
  rintro e w' ⟨rfl, hb⟩
  exact ⟨⟨_, _, _, _, rfl⟩, hb⟩
end Go.Proofs.YtobdhcaoeholhaaGreatDoor
/- The document's own Cut (sizarref1): the tokens, as chapter 6 says. -/
namespace Go.Proofs.YtobdhcaoeholhaaGreatDoor
open Go.RowKit
set_option linter.unusedVariables false
set_option maxRecDepth 100000

theorem open_tok {κ k : Nat} {text : List UInt8} {n : Nat} {s : List UInt8} {t : TokB} (h : tokB κ text n k s = .tok t) : t.opens = openB (s.drop t.len) := by
  unfold tokB at h; cases h; rfl
theorem open_name {k : Nat} {s : List UInt8} {t : TokB} (h : nameB k s = .tok t) : t.opens = openB (s.drop t.len) := by
  unfold nameB at h
  split at h
  · exact open_tok h
  · cases h
theorem next_open {c : UInt8} {r : List UInt8} {t : TokB} (h : nextC c r = .tok t) : t.opens = openB ((c :: r).drop t.len) := by
  unfold nextC at h
  by_cases h1 : blankB c = true
  · rw [if_pos h1] at h; cases h
  rw [if_neg h1] at h
  by_cases h2 : (c == 37) = true
  · rw [if_pos h2] at h; cases h
  rw [if_neg h2] at h
  by_cases h3 : smallB c = true
  · rw [if_pos h3] at h; exact open_name h
  rw [if_neg h3] at h
  by_cases h4 : greatB c = true
  · rw [if_pos h4] at h; exact open_tok h
  rw [if_neg h4] at h
  by_cases h5 : digitB c = true
  · rw [if_pos h5] at h
    split at h
    · exact open_tok h
    · cases h
  rw [if_neg h5] at h
  by_cases h6 : (c == 39) = true
  · rw [if_pos h6] at h
    cases hq : quoB r with
    | none => rw [hq] at h; cases h
    | some p =>
      rw [hq] at h
      simp only at h
      by_cases hp : p.1.length ≤ 64
      · rw [if_pos (decide_eq_true hp)] at h; exact open_tok h
      · rw [if_neg (by simpa using hp)] at h; cases h
  rw [if_neg h6] at h
  by_cases h7 : (c == 46 && endB r) = true
  · rw [if_pos h7] at h; exact open_tok h
  rw [if_neg h7] at h
  by_cases h8 : symB c = true
  · rw [if_pos h8] at h; exact open_name h
  rw [if_neg h8] at h
  by_cases h9 : (c == 59 || c == 33) = true
  · rw [if_pos h9] at h; exact open_name h
  rw [if_neg h9] at h
  by_cases h10 : ((c == 91 && r.head? == some 93) || (c == 123 && r.head? == some 125)) = true
  · rw [if_pos h10] at h; exact open_name h
  rw [if_neg h10] at h
  by_cases h11 : [40, 41, 91, 93, 123, 125, 44, 124].contains c = true
  · rw [if_pos h11] at h; exact open_tok h
  · rw [if_neg h11] at h; cases h
theorem skip_line {c : UInt8} {r : List UInt8} (hb : blankB c = false) (h : c = 37) : nextC c r = .skip ((r.takeWhile lineB).length + 1) := by
  unfold nextC
  rw [if_neg (by simp [hb]), if_pos (by rw [h]; rfl)]
  rfl
theorem skip_not {c : UInt8} {r : List UInt8} (hb : blankB c = false) (h : (c == 37) = false) : ∀ k, nextC c r ≠ .skip k := by
  rcases next_pos c r with ⟨j, hj, h3⟩ | ⟨u, h2, _⟩ | ⟨o, h2⟩
  · intro k hk
    have := passK_stop (l := c :: r) (k := 0) (by simp) hb h
    unfold passK at this
    rw [List.drop_zero, passF_skip hj h3] at this
    omega
  · intro k hk; rw [h2] at hk; cases hk
  · intro k hk; rw [h2] at hk; cases hk
def RowT1 (w : World) (base : Nat) (v : Value) (l : List (TokB × Nat)) : Prop := w.ownsRow base 138 5 v l.length (l.flatMap tCells)
def rcutPost (W : World) (s : ByteArray) (X : CutR) (e : Ending) (w' : World) : Prop :=
  (match X with
    | .ok l => ∃ (ao : Option Addr) (cv : Nat), e = .returned (.tuple #[.slice ao l.length cv, .int .i64 (s.size : Int), .int .i64 0]) ∧ RowT1 w' W.heap.size (.slice ao l.length cv) l
    | .bad p o => e = .returned (.tuple #[.slice none 0 0, .int .i64 (p : Int), .int .i64 (if o then 3 else 2)])) ∧ Below W.heap.size W w'
set_option maxHeartbeats 4000000 in
theorem rcut_any (s : ByteArray) (w : World) (hs : s.size ≤ 140737488351232) : Calls Tryz.prog 77 #[.string s] w (rcutPost w s (cutB (bl s))) := by
  obtain ⟨X, hX⟩ : ∃ X, cutB (bl s) = X := ⟨_, rfl⟩
  rw [hX]
  by_cases hbig : 4096 < s.size
  · have hx : X = .bad 4096 true := by rw [← hX]; unfold cutB; rw [if_pos (show 4096 < (bl s).length from hbig)]
    subst hx
    clear hX
    go_enter Tryz.func77, Tryz.ntmps77
    go_wp2
    go_ret3
    exact ⟨rfl, Below.refl _ _⟩
  have hx : cutF [] 0 (bl s) = X := by rw [← hX]; unfold cutB; rw [if_neg (show ¬ 4096 < (bl s).length from hbig)]
  clear hX
  have HX0 := Lib.hid hx
  clear hx
  obtain ⟨i0, hi0, hz0, hs0, hb0⟩ := info_parts infoTokR
  go_enter Tryz.func77, Tryz.ntmps77
  go_wp2_with fail
  go_loopw [5, 6] (fun o v wr => ∃ (k : Nat) (ao : Option Addr) (cv : Nat) (acc : List (TokB × Nat)), k ≤ s.size ∧ v = .int .i64 k ∧ o = .slice ao acc.length cv ∧ acc.length ≤ 1024 ∧ Hid (RowT1 wr w.heap.size o acc) ∧ Hid (Below w.heap.size w wr) ∧
      Hid (cutF acc k ((bl s).drop k) = X)) (fun _ v _ => s.size - (intOf v).toNat)
  case atStart => exact ⟨0, none, 0, [], Nat.zero_le _, rfl, rfl, by simp, Lib.hid (World.ownsRow_nil _ _ _ _), Lib.hid (Below.refl _ _), HX0⟩
  case round =>
    obtain ⟨k, ao, cv, acc, hk, rfl, rfl, hacc, HR, HB, HC⟩ := hrel
    by_cases hlt : k < s.size
    · have hd : (bl s).drop k = s[k] :: (bl s).drop (k + 1) := drop_at (l := bl s) hlt
      have hC := HC.out
      rw [hd] at hC
      obtain ⟨c, hc⟩ : ∃ c, s[k] = c := ⟨_, rfl⟩
      have hc' : ∀ h, s[k]'h = c := fun _ => hc
      have BL := fun w => rblank_any c w
      cases hbl : blankB c
      · rw [hbl] at BL
        cases h37 : (c == 37)
        · have hv : ((c.toNat : Int) == 37) = false := beq_false_of_ne fun e => by rw [show c = 37 from i64_u8 (by rw [e]; rfl)] at h37; exact absurd h37 (by decide)
          have hns := skip_not (r := (bl s).drop (k + 1)) hbl h37
          rw [← hc] at hns
          have T := rone_any s k wr hlt hs hns
          cases hn : nextC s[k] ((bl s).drop (k + 1)) with
          | skip j => exact absurd hn (hns j)
          | bad o =>
            rw [hn] at T
            rw [cutF_bad hn] at hC
            subst hC
            clear HC HX0 hd hn hns hbl h37 hc
            cases o
            · (go_wp2_with fail; go_fit (BL _); rintro e w' ⟨rfl, rfl⟩)
              (go_wp2_with fail; go_fit (T); rintro e w1 ⟨⟨κ, tt, n, b, rfl⟩, b1⟩)
              obtain ⟨w2, hw2, hb2, hz2, hx2⟩ := box_new w1 #[.int .i64 κ, .string tt, .int .i64 n, .bool false, .int .i64 0] 138
              have HB2 := Lib.hid (Ext.trans' HB.out (Ext.trans' b1 hb2))
              have HW2 := Lib.hid hw2
              clear b1 hb2 hz2 hx2 hw2
              go_upto_region 12 with fail
              rw [HW2.out]
              go_wp2
              go_ret3
              exact ⟨rfl, HB2.out⟩
            · (go_wp2_with fail; go_fit (BL _); rintro e w' ⟨rfl, rfl⟩)
              (go_wp2_with fail; go_fit (T); rintro e w1 ⟨⟨κ, tt, n, b, rfl⟩, b1⟩)
              obtain ⟨w2, hw2, hb2, hz2, hx2⟩ := box_new w1 #[.int .i64 κ, .string tt, .int .i64 n, .bool false, .int .i64 0] 138
              have HB2 := Lib.hid (Ext.trans' HB.out (Ext.trans' b1 hb2))
              have HW2 := Lib.hid hw2
              clear b1 hb2 hz2 hx2 hw2
              go_upto_region 12 with fail
              rw [HW2.out]
              go_wp2
              go_ret3
              exact ⟨rfl, HB2.out⟩
          | tok t =>
            have hnl := next_len s[k] ((bl s).drop (k + 1))
            rw [hn, List.length_drop, bl_len] at hnl
            have hnl' : t.len ≤ s.size - (k + 1) + 1 := hnl
            have hpos : 1 ≤ t.len := by
              rcases next_pos s[k] ((bl s).drop (k + 1)) with ⟨j, h, _⟩ | ⟨u, h, hu⟩ | ⟨o, h⟩
              · rw [hn] at h; cases h
              · rw [hn] at h; cases h; exact hu
              · rw [hn] at h; cases h
            rw [hn] at T
            replace T : Calls Tryz.prog 114 #[.string s, .int .i64 k] wr fun e w' => e = roneV (t.kind : Int) ⟨t.text.toArray⟩ (t.n : Int) ((k + t.len : Nat) : Int) 0 ∧ Below wr.heap.size wr w' := T
            by_cases hf : acc.length = 1024
            · rw [cutF_full hn hf] at hC
              subst hC
              clear HC HX0 hd hn hns hbl h37 hc hnl hnl' hpos
              (go_wp2_with fail; go_fit (BL _); rintro e w' ⟨rfl, rfl⟩)
              (go_wp2_with fail; go_fit (T); rintro e w1 ⟨rfl, b1⟩)
              obtain ⟨w2, hw2, hb2, hz2, hx2⟩ := box_new w1 #[.int .i64 (t.kind : Int), .string ⟨t.text.toArray⟩, .int .i64 (t.n : Int), .bool false, .int .i64 0] 138
              have HB2 := Lib.hid (Ext.trans' HB.out (Ext.trans' b1 hb2))
              have HW2 := Lib.hid hw2
              clear b1 hb2 hz2 hx2 hw2
              go_upto_region 12 with fail
              rw [HW2.out]
              go_wp2
              go_ret3
              exact ⟨rfl, HB2.out⟩
            · have hop := next_open hn
              rw [← hd, List.drop_drop] at hop
              rw [cutF_tok hn hpos hf, ← hd, List.drop_drop] at hC
              have hkl : k + t.len ≤ s.size := by omega
              have hoa := open_at s (k + t.len) hkl
              rw [← hop] at hoa
              generalize hbk : k + t.len = b at T hC hoa hkl
              have hkb : k < b := by omega
              have HC2 := Lib.hid hC
              obtain ⟨κ, tt, n, ln, o⟩ := t
              replace hoa : OpenAt s b o := hoa
              have HOA := Lib.hid hoa
              have hac : acc.length < 1024 := by omega
              clear hC HC HX0 hd hn hns hbl h37 hc hnl hnl' hpos hop hf hbk hoa hacc
              (go_wp2_with fail; go_fit (BL _); rintro e w' ⟨rfl, rfl⟩)
              (go_wp2_with fail; go_fit (T); rintro e w1 ⟨rfl, b1⟩)
              have HR1 := Lib.hid (row_ext HR.out b1)
              have HB1 := Lib.hid (Ext.trans' HB.out b1)
              have hsz1 : w.heap.size ≤ w1.heap.size := HB1.out.size
              obtain ⟨w2, hw2, hb2, hz2, hx2⟩ := box_new w1 #[.int .i64 (κ : Int), .string ⟨tt.toArray⟩, .int .i64 (n : Int), .bool false, .int .i64 0] 138
              have HW2 := Lib.hid hw2
              have hl2 : w1.heap.size < w2.heap.size := by omega
              have HX2 := Lib.hid hx2
              obtain ⟨r0, r1, r2, r3, r4, rf⟩ := hx2.five
              have HB2 := Lib.hid hb2
              clear b1 HR HB hw2 hx2 hb2
              go_upto_region 14 with fail
              rw [HW2.out]
              rcases HOA.out with ⟨hbe, rfl⟩ | ⟨hlt2, ho⟩
              · have hbe' : s.size ≤ b := by omega
                clear hbe
                go_upto_region 18 with fail
                have hb3 : Below w1.heap.size w1 ((w2.setCell ⟨w1.heap.size, 4, none⟩ (.int .i64 k)).setCell ⟨w1.heap.size, 3, none⟩ (.bool false)) := (HB2.out.setCell (p := ⟨w1.heap.size, 4, none⟩) (Nat.le_refl _) _).setCell (p := ⟨w1.heap.size, 3, none⟩) (Nat.le_refl _) _
                have hx3 : Box ((w2.setCell ⟨w1.heap.size, 4, none⟩ (.int .i64 k)).setCell ⟨w1.heap.size, 3, none⟩ (.bool false)) w1.heap.size [.int .i64 (κ : Int), .string ⟨tt.toArray⟩, .int .i64 (n : Int), .bool false, .int .i64 k] := (HX2.out.set (k := 4) (by show 4 < 5; omega)).set (k := 3) (by show 3 < 5; omega)
                generalize (w2.setCell ⟨w1.heap.size, 4, none⟩ (.int .i64 k)).setCell ⟨w1.heap.size, 3, none⟩ (.bool false) = w3 at hb3 hx3 ⊢
                have hz3 := hx3.lt
                clear r0 r1 r2 r3 r4 rf
                obtain ⟨r0, r1, r2, r3, r4, rf⟩ := hx3.five
                have HR3 := Lib.hid (row_ext HR1.out hb3)
                have HB3 := Lib.hid (Ext.trans' HB1.out hb3)
                clear hx3 hb3
                go_wp2_with (at_builtin; refine wpList_append_k rfl _ _ 130 rfl w.heap.size 138 i0 (.agg #[.int .i64 0, .string ⟨#[]⟩, .int .i64 0, .bool false, .int .i64 0]) 5 48 Tryz.underlying130 hi0 hz0 hs0 (by decide) hb0 rfl (.slice ao acc.length cv) acc.length (acc.flatMap tCells) rfl (HR3.out.alloc _) (some ⟨w3.heap.size, 0, none⟩) 1 1 (tCells (⟨κ, tt, n, ln, false⟩, k)) rfl rfl (Or.inr ⟨_, rfl, fun j u hu => cell_new w3 (tCells (⟨κ, tt, n, ln, false⟩, k)).toArray _ j u hu⟩) (fun u hu => tCells_one [(⟨κ, tt, n, ln, false⟩, k)] u (by simpa using hu)) (by unfold maxLen; omega) (by omega) (by first | omega | (simp; omega)) (acc.length + 1) ((acc ++ [((⟨κ, tt, n, ln, false⟩, k) : TokB × Nat)] : List (TokB × Nat)).flatMap tCells) rfl (by rw [List.flatMap_append]; rfl) ?_; intro a7 c7 w7 hown7 hgrow7 hat7)
                go_roundw
                case rel =>
                  refine ⟨b, a7, c7, acc ++ [(⟨κ, tt, n, ln, false⟩, k)], hkl, rfl, by rw [List.length_append]; rfl, by rw [List.length_append, List.length_singleton]; omega, Lib.hid ?_, Lib.hid ?_, HC2⟩
                  · unfold RowT1
                    rw [List.length_append]
                    exact hown7
                  · exact (Ext.trans' HB3.out (bel1' w3 _)).grown hgrow7 (by simp; omega) (fun q hq => (HR3.out.lt q hq).1)
                case measure => simp [intOf]; omega
              · cases o
                · have hlt3 := Lib.hid hlt2
                  go_upto_region 18 with fail
                  have hb3 : Below w1.heap.size w1 ((w2.setCell ⟨w1.heap.size, 4, none⟩ (.int .i64 k)).setCell ⟨w1.heap.size, 3, none⟩ (.bool false)) := (HB2.out.setCell (p := ⟨w1.heap.size, 4, none⟩) (Nat.le_refl _) _).setCell (p := ⟨w1.heap.size, 3, none⟩) (Nat.le_refl _) _
                  have hx3 : Box ((w2.setCell ⟨w1.heap.size, 4, none⟩ (.int .i64 k)).setCell ⟨w1.heap.size, 3, none⟩ (.bool false)) w1.heap.size [.int .i64 (κ : Int), .string ⟨tt.toArray⟩, .int .i64 (n : Int), .bool false, .int .i64 k] := (HX2.out.set (k := 4) (by show 4 < 5; omega)).set (k := 3) (by show 3 < 5; omega)
                  generalize (w2.setCell ⟨w1.heap.size, 4, none⟩ (.int .i64 k)).setCell ⟨w1.heap.size, 3, none⟩ (.bool false) = w3 at hb3 hx3 ⊢
                  have hz3 := hx3.lt
                  clear r0 r1 r2 r3 r4 rf
                  obtain ⟨r0, r1, r2, r3, r4, rf⟩ := hx3.five
                  have HR3 := Lib.hid (row_ext HR1.out hb3)
                  have HB3 := Lib.hid (Ext.trans' HB1.out hb3)
                  clear hx3 hb3
                  go_wp2_with (at_builtin; refine wpList_append_k rfl _ _ 130 rfl w.heap.size 138 i0 (.agg #[.int .i64 0, .string ⟨#[]⟩, .int .i64 0, .bool false, .int .i64 0]) 5 48 Tryz.underlying130 hi0 hz0 hs0 (by decide) hb0 rfl (.slice ao acc.length cv) acc.length (acc.flatMap tCells) rfl (HR3.out.alloc _) (some ⟨w3.heap.size, 0, none⟩) 1 1 (tCells (⟨κ, tt, n, ln, false⟩, k)) rfl rfl (Or.inr ⟨_, rfl, fun j u hu => cell_new w3 (tCells (⟨κ, tt, n, ln, false⟩, k)).toArray _ j u hu⟩) (fun u hu => tCells_one [(⟨κ, tt, n, ln, false⟩, k)] u (by simpa using hu)) (by unfold maxLen; omega) (by omega) (by first | omega | (simp; omega)) (acc.length + 1) ((acc ++ [((⟨κ, tt, n, ln, false⟩, k) : TokB × Nat)] : List (TokB × Nat)).flatMap tCells) rfl (by rw [List.flatMap_append]; rfl) ?_; intro a7 c7 w7 hown7 hgrow7 hat7)
                  go_roundw
                  case rel =>
                    refine ⟨b, a7, c7, acc ++ [(⟨κ, tt, n, ln, false⟩, k)], hkl, rfl, by rw [List.length_append]; rfl, by rw [List.length_append, List.length_singleton]; omega, Lib.hid ?_, Lib.hid ?_, HC2⟩
                    · unfold RowT1
                      rw [List.length_append]
                      exact hown7
                    · exact (Ext.trans' HB3.out (bel1' w3 _)).grown hgrow7 (by simp; omega) (fun q hq => (HR3.out.lt q hq).1)
                  case measure => simp [intOf]; omega
                · have ho' := eq_of_beq ho
                  clear ho
                  go_upto_region 18 with fail
                  have hb3 : Below w1.heap.size w1 ((w2.setCell ⟨w1.heap.size, 4, none⟩ (.int .i64 k)).setCell ⟨w1.heap.size, 3, none⟩ (.bool true)) := (HB2.out.setCell (p := ⟨w1.heap.size, 4, none⟩) (Nat.le_refl _) _).setCell (p := ⟨w1.heap.size, 3, none⟩) (Nat.le_refl _) _
                  have hx3 : Box ((w2.setCell ⟨w1.heap.size, 4, none⟩ (.int .i64 k)).setCell ⟨w1.heap.size, 3, none⟩ (.bool true)) w1.heap.size [.int .i64 (κ : Int), .string ⟨tt.toArray⟩, .int .i64 (n : Int), .bool true, .int .i64 k] := (HX2.out.set (k := 4) (by show 4 < 5; omega)).set (k := 3) (by show 3 < 5; omega)
                  generalize (w2.setCell ⟨w1.heap.size, 4, none⟩ (.int .i64 k)).setCell ⟨w1.heap.size, 3, none⟩ (.bool true) = w3 at hb3 hx3 ⊢
                  have hz3 := hx3.lt
                  clear r0 r1 r2 r3 r4 rf
                  obtain ⟨r0, r1, r2, r3, r4, rf⟩ := hx3.five
                  have HR3 := Lib.hid (row_ext HR1.out hb3)
                  have HB3 := Lib.hid (Ext.trans' HB1.out hb3)
                  clear hx3 hb3
                  go_wp2_with (at_builtin; refine wpList_append_k rfl _ _ 130 rfl w.heap.size 138 i0 (.agg #[.int .i64 0, .string ⟨#[]⟩, .int .i64 0, .bool false, .int .i64 0]) 5 48 Tryz.underlying130 hi0 hz0 hs0 (by decide) hb0 rfl (.slice ao acc.length cv) acc.length (acc.flatMap tCells) rfl (HR3.out.alloc _) (some ⟨w3.heap.size, 0, none⟩) 1 1 (tCells (⟨κ, tt, n, ln, true⟩, k)) rfl rfl (Or.inr ⟨_, rfl, fun j u hu => cell_new w3 (tCells (⟨κ, tt, n, ln, true⟩, k)).toArray _ j u hu⟩) (fun u hu => tCells_one [(⟨κ, tt, n, ln, true⟩, k)] u (by simpa using hu)) (by unfold maxLen; omega) (by omega) (by first | omega | (simp; omega)) (acc.length + 1) ((acc ++ [((⟨κ, tt, n, ln, true⟩, k) : TokB × Nat)] : List (TokB × Nat)).flatMap tCells) rfl (by rw [List.flatMap_append]; rfl) ?_; intro a7 c7 w7 hown7 hgrow7 hat7)
                  go_roundw
                  case rel =>
                    refine ⟨b, a7, c7, acc ++ [(⟨κ, tt, n, ln, true⟩, k)], hkl, rfl, by rw [List.length_append]; rfl, by rw [List.length_append, List.length_singleton]; omega, Lib.hid ?_, Lib.hid ?_, HC2⟩
                    · unfold RowT1
                      rw [List.length_append]
                      exact hown7
                    · exact (Ext.trans' HB3.out (bel1' w3 _)).grown hgrow7 (by simp; omega) (fun q hq => (HR3.out.lt q hq).1)
                  case measure => simp [intOf]; omega
        · obtain rfl : c = 37 := eq_of_beq h37
          have hline := skip_line (r := (bl s).drop (k + 1)) hbl rfl
          obtain ⟨T, hT⟩ : ∃ T, k + twK lineB (bl s) k = T := ⟨_, rfl⟩
          have htw := tw_in (l := bl s) (p := lineB) (k := k) hlt (by show lineB s[k] = true; rw [hc]; rfl)
          have hle := tw_max lineB (bl s) k hk
          rw [cutF_skip (k := twK lineB (bl s) k) (by rw [hc, hline, htw]; rfl) (by omega), ← hd, List.drop_drop, hT] at hC
          have HC2 := Lib.hid hC
          have hTs : T ≤ s.size := by rw [← hT]; exact hle
          have hkT : k < T := by omega
          have HT := Lib.hid hT
          clear hC HC HX0 hd hline htw hle hbl h37 hT
          (go_wp2_with fail; go_fit (BL _); rintro e w' ⟨rfl, rfl⟩)
          go_wp2_with fail
          go_loop [6] (fun v => ∃ j : Nat, j ≤ s.size ∧ v = .int .i64 j ∧ Hid (j + twK lineB (bl s) j = T)) (fun v => s.size - (intOf v).toNat)
          case atStart => exact ⟨k, hk, rfl, HT⟩
          case round =>
            obtain ⟨j, hj, rfl, HJ⟩ := hrel
            by_cases hjl : j < s.size
            · have hln := (line_eq s[j]).symm
              cases hp : lineB s[j]
              · rw [hp] at hln
                have hjT := HJ.out
                rw [tw_out (l := bl s) (p := lineB) (k := j) hjl hp] at hjT
                obtain rfl : j = T := by omega
                clear hp HJ HT hjT
                go_wp2
                go_roundw
                case rel => exact ⟨j, ao, cv, acc, hj, rfl, rfl, hacc, HR, HB, HC2⟩
                case measure => simp [intOf]; omega
              · rw [hp] at hln
                have he := tw_in (l := bl s) (p := lineB) (k := j) hjl hp
                have HE := Lib.hid he
                clear hp he
                go_wp2
                go_round
                case rel => exact ⟨j + 1, by omega, by go_num, Lib.hid (by have := HJ.out; rw [HE.out] at this; omega)⟩
                case measure => simp [intOf]; omega
            · have hjT := HJ.out
              rw [tw_end (l := bl s) (p := lineB) (k := j) (show s.size ≤ j by omega)] at hjT
              obtain rfl : j = T := by omega
              clear HJ HT hjT
              go_wp2
              go_roundw
              case rel => exact ⟨j, ao, cv, acc, hj, rfl, rfl, hacc, HR, HB, HC2⟩
              case measure => simp [intOf]; omega
      · rw [hbl] at BL
        rw [cutF_skip (k := 1) (by rw [hc]; unfold nextC; rw [if_pos hbl]) (Nat.le_refl _), ← hd, List.drop_drop] at hC
        have HC2 := Lib.hid hC
        clear hC HC HX0 hd hbl
        (go_wp2_with fail; go_fit (BL _); rintro e w' ⟨rfl, rfl⟩)
        go_wp2
        go_roundw
        case rel => exact ⟨k + 1, ao, cv, acc, by omega, by go_num, rfl, hacc, HR, HB, HC2⟩
        case measure => simp [intOf]; omega
    · have hkk : k = s.size := by omega
      have hC := HC.out
      rw [List.drop_eq_nil_of_le (by rw [bl_len]; omega), cutF_nil] at hC
      subst hC
      clear HC HX0
      go_wp2
      go_ret3
      exact ⟨⟨_, _, rfl, HR.out⟩, HB.out⟩
end Go.Proofs.YtobdhcaoeholhaaGreatDoor
/- The text of a number, and its reading, as plain functions. -/
namespace Go.Proofs.YtobdhcaoeholhaaGreatDoor
open Go.RowKit
def isDig (c : UInt8) : Bool := !decide ((c.toNat : Int) < 48) && !decide (57 < (c.toNat : Int))
end Go.Proofs.YtobdhcaoeholhaaGreatDoor
/- The document's own reckonings, as plain functions, beside the exact ones. -/
namespace Go.Proofs.YtobdhcaoeholhaaGreatDoor
open Go.RowKit
set_option linter.unusedVariables false
theorem all_cons {c : UInt8} {r : List UInt8} (h : (c :: r).all isDig = true) : isDig c = true ∧ r.all isDig = true := by
  rw [List.all_cons, Bool.and_eq_true] at h; exact h
end Go.Proofs.YtobdhcaoeholhaaGreatDoor
/- The document's own writer (sizarref8): levels of names; what a writer needs. -/
namespace Go.Proofs.YtobdhcaoeholhaaGreatDoor
open Go.Shelf Go.RowKit
set_option linter.unusedVariables false
set_option maxRecDepth 100000

/-- The greatest level of a name so far. -/
def lvF (xs : List O) (n : List UInt8) : Int := xs.foldl (fun m o => if bl o.n == n && decide (m < o.l) then o.l else m) 0
theorem lvF_next {xs : List O} {n : List UInt8} {k : Nat} {x : O} (h : xs[k]? = some x) : lvF (xs.take (k + 1)) n = if bl x.n == n && decide (lvF (xs.take k) n < x.l) then x.l else lvF (xs.take k) n := by
  unfold lvF
  rw [List.take_add_one, h, List.foldl_append]
  rfl
theorem oplevel_walk {w : World} {v : Value} {xs : List O} (h : Ops w v xs) (n : ByteArray) : Calls Tryz.prog 100 #[v, .string n] w fun e w' => e = .returned (.int .i64 (lvF xs (bl n))) ∧ w = w' := by
  obtain ⟨a, c, rfl, hl1, hl2⟩ := h.form
  unfold maxLen at hl2
  have H := Lib.hid h
  obtain ⟨T, hT⟩ : ∃ T, lvF xs (bl n) = T := ⟨_, rfl⟩
  rw [hT]
  have HT := Lib.hid hT
  clear h hT
  obtain ⟨m, hm⟩ : ∃ m, xs.length = m := ⟨_, rfl⟩
  have HM := Lib.hid hm
  rw [hm] at hl1 ⊢
  clear hm
  go_enter Tryz.func100, Tryz.ntmps100
  go_wp2_with fail
  go_loop [5, 6] (fun z i => ∃ (k : Nat) (q : Int), k ≤ m ∧ i = .int .i64 k ∧ z = .int .i64 q ∧ Hid (lvF (xs.take k) (bl n) = q)) (fun _ i => m - (intOf i).toNat)
  case atStart => exact ⟨0, 0, by omega, rfl, rfl, Lib.hid rfl⟩
  case round =>
    obtain ⟨k, q, hk, rfl, rfl, HQ⟩ := hrel
    by_cases hlt : k < m
    · obtain ⟨x, hx⟩ : ∃ x, xs[k]? = some x := ⟨_, List.getElem?_eq_getElem (by rw [HM.out]; exact hlt)⟩
      have H' := H.out
      rw [HM.out] at H'
      obtain ⟨b, off, rfl, hbs, d0, d1, d2⟩ := H'.cells hx
      have hnx := lvF_next (n := bl n) hx
      rw [HQ.out] at hnx
      rcases x with ⟨xn, xk, xl⟩
      simp only at d0 d1 d2 hnx
      clear H' hx
      have htt : (xn.toList == n.toList) = (bl xn == bl n) := by rw [Lib.toList_data, Lib.toList_data]
      cases hn : (bl xn == bl n)
      · rw [hn] at htt
        rw [hn, Bool.false_and, if_neg (by decide)] at hnx
        have HNX := Lib.hid hnx
        clear hnx hn
        go_wp2
        go_round
        case rel => exact ⟨k + 1, q, by omega, by go_num, rfl, HNX⟩
        case measure => simp [intOf]; omega
      · rw [hn] at htt
        rw [hn, Bool.true_and] at hnx
        by_cases hql : q < xl
        · have hqd : decide (q < xl) = true := decide_eq_true hql
          rw [hqd, if_pos rfl] at hnx
          have HNX := Lib.hid hnx
          clear hnx hn
          go_wp2
          go_round
          case rel => exact ⟨k + 1, xl, by omega, by go_num, rfl, HNX⟩
          case measure => simp [intOf]; omega
        · have hqd : decide (q < xl) = false := decide_eq_false hql
          rw [hqd, if_neg (by decide)] at hnx
          have HNX := Lib.hid hnx
          clear hnx hn
          go_wp2
          go_round
          case rel => exact ⟨k + 1, q, by omega, by go_num, rfl, HNX⟩
          case measure => simp [intOf]; omega
    · obtain rfl : k = m := by omega
      have ht : xs.take k = xs := List.take_of_length_le (by rw [HM.out]; exact Nat.le_refl _)
      have hq := HQ.out
      rw [ht, HT.out] at hq
      subst hq
      clear ht HQ HT
      go_wp2
      go_ret
      exact ⟨rfl, rfl⟩
end Go.Proofs.YtobdhcaoeholhaaGreatDoor
