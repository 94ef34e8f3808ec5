/- The document's LabelParse. -/
import Derived.Test.YtpmjpnapokhkaaaRefC
namespace Go.Proofs.Ytpmjpnapokhkaaa
open Go.RowKit
set_option linter.unusedVariables false
set_option maxRecDepth 100000
theorem rParse_no {n : List (List UInt8)} {s : List UInt8} (h : ¬ (goodNames n = true ∧ 2 ≤ s.length ∧ s[0]? = some 123 ∧ s[s.length - 1]? = some 125)) : rParse n s = (0, false) := by
  unfold rParse; rw [if_neg h]
theorem at_ne {s : ByteArray} {i : Nat} {c : UInt8} (hi : i < s.size) (h : ((s[i].toNat : Int) != (c.toNat : Int)) = true) : (bl s)[i]? ≠ some c := by
  intro e
  obtain ⟨_, e2⟩ := List.getElem?_eq_some_iff.1 e
  have : s[i] = c := e2
  rw [this] at h; simp at h
theorem at_eq {s : ByteArray} {i : Nat} {c : UInt8} (hi : i < s.size) (h : ((s[i].toNat : Int) != (c.toNat : Int)) = false) : (bl s)[i]? = some c := by
  have h1 : s[i].toNat = c.toNat := by simp at h; omega
  rw [List.getElem?_eq_some_iff]
  exact ⟨hi, UInt8.toNat_inj.1 h1⟩
theorem any_succ (f : Nat → Bool) (m : Nat) : (List.range (m + 1)).any f = ((List.range m).any f || f m) := by
  rw [List.range_succ, List.any_append]; simp
theorem any_done {f : Nat → Bool} {m M : Nat} (h : m ≤ M) (hf : ∀ i, m ≤ i → i < M → f i = false) : (List.range M).any f = (List.range m).any f := by
  obtain ⟨d, rfl⟩ : ∃ d, M = m + d := ⟨M - m, by omega⟩
  clear h
  induction d with
  | zero => rfl
  | succ d ih => rw [show m + (d + 1) = m + d + 1 by omega, any_succ, ih (fun i h1 h2 => hf i h1 (by omega)), hf (m + d) (by omega) (by omega), Bool.or_false]
theorem hit_is {x s : ByteArray} {m : Nat} (h1 : 1 ≤ m) (h2 : m + x.size < s.size) : hitIn (bl x) (bl s) m = (((s.extract m (m + x.size)).toList == x.toList) && (((s[m - 1].toNat : Int) == 123) || ((s[m - 1].toNat : Int) == 44)) && (((s[m + x.size].toNat : Int) == 44) || ((s[m + x.size].toNat : Int) == 125))) := by
  have e1 : (((bl s).drop m).take (bl x).length == bl x) = ((s.extract m (m + x.size)).toList == x.toList) := by
    rw [Lib.toList_data, Lib.toList_data]
    have : (s.extract m (m + x.size)).data.toList = ((bl s).drop m).take (bl x).length := by
      rw [bl_len]
      simp [bl, List.take_drop]
    rw [this]
  have one (i : Nat) (hi : i < s.size) (c : UInt8) : ((bl s)[i]? == some c) = ((s[i].toNat : Int) == (c.toNat : Int)) := by
    rw [List.getElem?_eq_getElem (show i < (bl s).length from hi)]
    show (some s[i] == some c) = _
    by_cases h : s[i] = c
    · rw [h]; simp
    · rw [beq_false_of_ne (fun e => h (by simpa using e)), beq_false_of_ne (fun e => h (UInt8.toNat_inj.1 (by omega)))]
  unfold hitIn hit
  rw [e1, one (m - 1) (by omega) 123, one (m - 1) (by omega) 44, bl_len, one (m + x.size) h2 44, one (m + x.size) h2 125]
  rw [show decide (1 ≤ m) = true from decide_eq_true h1, show decide (m + x.size < (bl s).length) = true from decide_eq_true h2]
  rfl
/-- The number so far, one place more. -/
def Found (n : List (List UInt8)) (s : ByteArray) (x : ByteArray) (z o : Int) (m : Nat) (y : Int) : Prop := y = if (List.range m).any (hitIn (bl x) (bl s)) = true then bits .or .u64 z o else z
theorem found_no {n : List (List UInt8)} {s x : ByteArray} {z o y : Int} {m : Nat} (h : Found n s x z o m y) (hh : hitIn (bl x) (bl s) m = false) : Found n s x z o (m + 1) y := by
  unfold Found at *; rw [any_succ, hh, Bool.or_false]; exact h
theorem or_again {Z O : Nat} (hZ : Z < 18446744073709551616) (hO : O < 18446744073709551616) : bits .or .u64 (bits .or .u64 (Z : Int) O) (O : Int) = bits .or .u64 (Z : Int) O := by
  have hl := or_lt hZ hO
  rw [u64_or_nat Z O hZ hO, u64_or_nat (Z ||| O) O hl hO, Nat.or_assoc, Nat.or_self]
theorem found_yes {n : List (List UInt8)} {s x : ByteArray} {z o y : Int} {m Z O : Nat} (hz : z = Z) (ho : o = O) (hZ : Z < 18446744073709551616) (hO : O < 18446744073709551616) (h : Found n s x z o m y) (hh : hitIn (bl x) (bl s) m = true) : Found n s x z o (m + 1) (bits .or .u64 y o) := by
  subst hz; subst ho
  unfold Found at *
  rw [any_succ, hh, Bool.or_true, if_pos rfl, h]
  split
  · exact or_again hZ hO
  · rfl
theorem found_mask {n : List (List UInt8)} {s x : ByteArray} {z o y : Int} {k m : Nat} (hk : k < 64) (hx : n[k]? = some (bl x)) (hz : z = (mask n (bl s) k : Nat)) (ho : o = (2 ^ k : Nat)) (hm : m ≤ s.size) (he : s.size ≤ m + x.size) (h : Found n s x z o m y) : y = (mask n (bl s) (k + 1) : Nat) := by
  unfold Found at h
  have hocc : occ (bl x) (bl s) = (List.range m).any (hitIn (bl x) (bl s)) := any_done (by rw [bl_len]; exact hm) (fun i h1 h2 => by
    unfold hitIn
    rw [show decide (i + (bl x).length < (bl s).length) = false from decide_eq_false (by rw [bl_len, bl_len]; omega)]; simp)
  have hlt : mask n (bl s) k < 18446744073709551616 := Nat.lt_of_lt_of_le (mask_lt n (bl s) k) (Nat.pow_le_pow_right (by decide) (show k ≤ 64 by omega))
  have hpl : 2 ^ k < 18446744073709551616 := Nat.pow_lt_pow_right (by decide) hk
  simp only [mask, hx]
  rw [hocc, h, hz, ho]
  split
  · rw [u64_or_nat _ _ hlt hpl]
  · rfl
set_option maxHeartbeats 4000000 in
theorem rparse_some (b off n cap : Nat) (s : ByteArray) (ss : List ByteArray) (w : World) (hsz : s.size ≤ 100000) (hn : ss.length = n) (hcap : n ≤ cap) (hz : n * 16 ≤ 140737488351232) (hs : ∀ s ∈ ss, s.size ≤ 140737488351232)
    (hc : ∀ (i : Nat) (x : ByteArray), ss[i]? = some x → w.cell? ⟨b, off + i, none⟩ = some (.string x)) (hS : Strs w (.slice (some ⟨b, off, none⟩) n cap) ss) :
    Calls Try.prog 6 #[.slice (some ⟨b, off, none⟩) n cap, .string s] w fun e w' => e = .returned (.tuple #[.int .u64 (rParse (ss.map bl) (bl s)).1, .bool (rParse (ss.map bl) (bl s)).2]) ∧ Below w.heap.size w w' := by
  have G := @rgood_any _ ss w hS
  have HC := Lib.hid hc; clear hc
  have HS := Lib.hid hS; clear hS
  have HM := Lib.hid hn; clear hn
  generalize hr : rParse (ss.map bl) (bl s) = r
  have HR := Lib.hid hr; clear hr
  obtain ⟨r1, r2⟩ := r
  cases hg : goodNames (ss.map bl)
  · rw [hg] at G
    obtain ⟨rfl, rfl⟩ : r1 = 0 ∧ r2 = false := by have := HR.out; rw [rParse_no (by rw [hg]; simp)] at this; cases this; exact ⟨rfl, rfl⟩
    go_enter Try.func6, Try.ntmps6
    (go_wp2_with fail; go_fit (G); rintro e w1 ⟨rfl, b1⟩)
    go_wp2
    go_ret2
    exact ⟨rfl, b1⟩
  rw [hg] at G
  by_cases h2 : s.size < 2
  · obtain ⟨rfl, rfl⟩ : r1 = 0 ∧ r2 = false := by have := HR.out; rw [rParse_no (by rintro ⟨_, h, _⟩; rw [bl_len] at h; omega)] at this; cases this; exact ⟨rfl, rfl⟩
    go_enter Try.func6, Try.ntmps6
    (go_wp2_with fail; go_fit (G); rintro e w1 ⟨rfl, b1⟩)
    go_wp2
    go_ret2
    exact ⟨rfl, b1⟩
  have bad3 : ((s[0].toNat : Int) != 123) = true ∨ ((s[0].toNat : Int) != 123) = false := by cases ((s[0].toNat : Int) != 123) <;> simp
  rcases bad3 with h3 | h3
  · obtain ⟨rfl, rfl⟩ : r1 = 0 ∧ r2 = false := by have := HR.out; rw [rParse_no (by rintro ⟨_, _, h, _⟩; exact at_ne (c := 123) (by omega) h3 h)] at this; cases this; exact ⟨rfl, rfl⟩
    go_enter Try.func6, Try.ntmps6
    (go_wp2_with fail; go_fit (G); rintro e w1 ⟨rfl, b1⟩)
    go_wp2
    go_ret2
    exact ⟨rfl, b1⟩
  have hlast : (s.size : Int) - 1 = ((s.size - 1 : Nat) : Int) := by omega
  have hlt : s.size - 1 < s.size := by omega
  have bad4 : ((s[s.size - 1].toNat : Int) != 125) = true ∨ ((s[s.size - 1].toNat : Int) != 125) = false := by cases ((s[s.size - 1].toNat : Int) != 125) <;> simp
  rcases bad4 with h4 | h4
  · obtain ⟨rfl, rfl⟩ : r1 = 0 ∧ r2 = false := by have := HR.out; rw [rParse_no (by rintro ⟨_, _, _, h⟩; exact at_ne (c := 125) hlt h4 h)] at this; cases this; exact ⟨rfl, rfl⟩
    go_enter Try.func6, Try.ntmps6
    (go_wp2_with fail; go_fit (G); rintro e w1 ⟨rfl, b1⟩)
    go_wp2
    go_ret2
    exact ⟨rfl, b1⟩
  have HG := Lib.hid (show rParse (ss.map bl) (bl s) = if text (ss.map bl) (mask (ss.map bl) (bl s) (ss.map bl).length) = bl s then (mask (ss.map bl) (bl s) (ss.map bl).length, true) else (0, false) from by
    unfold rParse; rw [if_pos ⟨hg, by rw [bl_len]; omega, at_eq (c := 123) (by omega) h3, at_eq (c := 125) hlt h4⟩])
  have hn64 : n ≤ 64 := by have := (goodNames_len hg).2; rw [List.length_map, HM.out] at this; exact this
  have HGN := Lib.hid (fun x (hx : x ∈ ss) => goodName_len (goodNames_name hg (List.mem_map.2 ⟨x, hx, rfl⟩)))
  clear hg
  go_enter Try.func6, Try.ntmps6
  (go_wp2_with fail; go_fit (G); rintro e w1 ⟨rfl, b1⟩)
  go_wp2
  go_loopw [6, 7, 8] (fun zl zo i wr => ∃ (k : Nat) (z o : Int), k ≤ n ∧ i = .int .i64 k ∧ zl = .int .u64 z ∧ zo = .int .u64 o ∧ Hid (z = (mask (ss.map bl) (bl s) k : Nat) ∧ (k < 64 → o = (2 ^ k : Nat))) ∧ Hid (Below w.heap.size w wr)) (fun _ _ i _ => n - (intOf i).toNat)
  case atStart => exact ⟨0, 0, 1, Nat.zero_le _, rfl, rfl, rfl, Lib.hid ⟨rfl, fun _ => rfl⟩, Lib.hid b1⟩
  case round =>
    obtain ⟨k, z, o, hk, rfl, rfl, rfl, HZ, HB⟩ := hrel
    by_cases hlt : k < n
    · obtain ⟨x, hx⟩ : ∃ x, ss[k]? = some x := ⟨_, List.getElem?_eq_getElem (by rw [HM.out]; exact hlt)⟩
      have HX := Lib.hid hx
      have hcx := cell_later HB.out (HC.out k x hx)
      have hx1 : 1 ≤ x.size := (HGN.out x (List.mem_of_getElem? hx)).1
      have hx2 : x.size ≤ 16 := (HGN.out x (List.mem_of_getElem? hx)).2
      clear hx
      go_wp2
      go_loopw [6, 9] (fun zl j wr => ∃ (m : Nat) (y : Int), 1 ≤ m ∧ m ≤ s.size ∧ j = .int .i64 m ∧ zl = .int .u64 y ∧ Hid (Found (ss.map bl) s x z o m y) ∧ Hid (Below w.heap.size w wr)) (fun _ j _ => s.size - (intOf j).toNat)
      case atStart => exact ⟨1, z, by omega, by omega, rfl, rfl, Lib.hid (by unfold Found; rw [if_neg]; simp [hitIn]), HB⟩
      case round =>
        obtain ⟨m, y, hm1, hm, rfl, rfl, HY, HB2⟩ := hrel
        have hcx2 := cell_later HB2.out (HC.out k x HX.out)
        by_cases hml : m + x.size < s.size
        · have hmI : (m : Int) + x.size < s.size := by omega
          have w1 : IntKind.i64.wrap ((m : Int) + x.size) = (m : Int) + x.size := IntWalk.i64_in _ (by omega)
          have w2 : IntKind.i64.wrap ((m : Int) - 1) = (m : Int) - 1 := IntWalk.i64_in _ (by omega)
          have w3 : ((m : Int) - 1).toNat = m - 1 := by omega
          have w4 : ((m : Int) + x.size).toNat = m + x.size := by omega
          have w5 : (0 : Int) ≤ (m : Int) - 1 := by omega
          have w6 : (m : Int) - 1 < s.size := by omega
          have w7 : (m : Int) ≤ (m : Int) + x.size := by omega
          have w8 : (m : Int) + x.size ≤ s.size := by omega
          have w9 : m - 1 < s.size := by omega
          have w0 : m + x.size < s.size := hml
          have hyes (h : hitIn (bl x) (bl s) m = true) : Found (ss.map bl) s x z o (m + 1) (bits .or .u64 y o) := by
            obtain ⟨e1, e2⟩ := HZ.out
            exact found_yes e1 (e2 (by omega)) (Nat.lt_of_lt_of_le (mask_lt _ (bl s) k) (Nat.pow_le_pow_right (by decide) (show k ≤ 64 by omega))) (Nat.pow_lt_pow_right (by decide) (show k < 64 by omega)) HY.out h
          have HYY := Lib.hid hyes; clear hyes
          cases hA : ((s.extract m (m + x.size)).toList == x.toList)
          · have HNo := Lib.hid (found_no HY.out (by rw [hit_is hm1 hml, hA]; rfl))
            try have ehA := eq_of_beq hA
            go_wp2_with fail
            go_quiet (fail)
            go_wp2
            go_roundw
            case rel => exact ⟨m + 1, y, by omega, by omega, by go_num, rfl, HNo, Lib.hid (bel_drewN HB2.out _)⟩
            case measure => simp [intOf]; omega
          · cases hP1 : ((s[m - 1].toNat : Int) == 123)
            · cases hP2 : ((s[m - 1].toNat : Int) == 44)
              · have HNo := Lib.hid (found_no HY.out (by rw [hit_is hm1 hml, hA, hP1, hP2]; rfl))
                have ehA := eq_of_beq hA
                obtain ⟨c, hcc⟩ : ∃ c : UInt8, ∀ h, s[m - 1]'h = c := ⟨s[m - 1], fun _ => rfl⟩
                rw [hcc] at hP1 hP2
                go_wp2_with fail
                go_quiet (fail)
                go_wp2
                go_roundw
                case rel => exact ⟨m + 1, y, by omega, by omega, by go_num, rfl, HNo, Lib.hid (bel_drewN HB2.out _)⟩
                case measure => simp [intOf]; omega
              · skip
                cases hQ1 : ((s[m + x.size].toNat : Int) == 44)
                · cases hQ2 : ((s[m + x.size].toNat : Int) == 125)
                  · have HNo := Lib.hid (found_no HY.out (by rw [hit_is hm1 hml, hA, hP1, hP2, hQ1, hQ2]; rfl))
                    try have ehA := eq_of_beq hA
                    try have ehP1 := eq_of_beq hP1
                    try have ehP2 := eq_of_beq hP2
                    try have ehQ1 := eq_of_beq hQ1
                    try have ehQ2 := eq_of_beq hQ2
                    go_wp2_with fail
                    go_quiet (fail)
                    go_wp2
                    go_roundw
                    case rel => exact ⟨m + 1, y, by omega, by omega, by go_num, rfl, HNo, Lib.hid (bel_drewN HB2.out _)⟩
                    case measure => simp [intOf]; omega
                  · have HYes := Lib.hid (HYY.out (by rw [hit_is hm1 hml, hA, hP1, hP2, hQ1, hQ2]; rfl))
                    try have ehA := eq_of_beq hA
                    try have ehP1 := eq_of_beq hP1
                    try have ehP2 := eq_of_beq hP2
                    try have ehQ1 := eq_of_beq hQ1
                    try have ehQ2 := eq_of_beq hQ2
                    go_wp2_with fail
                    go_quiet (fail)
                    go_wp2
                    go_roundw
                    case rel => exact ⟨m + 1, _, by omega, by omega, by go_num, rfl, HYes, Lib.hid (bel_drewN HB2.out _)⟩
                    case measure => simp [intOf]; omega
                · have HYes := Lib.hid (HYY.out (by rw [hit_is hm1 hml, hA, hP1, hP2, hQ1]; rfl))
                  try have ehA := eq_of_beq hA
                  try have ehP1 := eq_of_beq hP1
                  try have ehP2 := eq_of_beq hP2
                  try have ehQ1 := eq_of_beq hQ1
                  go_wp2_with fail
                  go_quiet (fail)
                  go_wp2
                  go_roundw
                  case rel => exact ⟨m + 1, _, by omega, by omega, by go_num, rfl, HYes, Lib.hid (bel_drewN HB2.out _)⟩
                  case measure => simp [intOf]; omega
            · skip
              cases hQ1 : ((s[m + x.size].toNat : Int) == 44)
              · cases hQ2 : ((s[m + x.size].toNat : Int) == 125)
                · have HNo := Lib.hid (found_no HY.out (by rw [hit_is hm1 hml, hA, hP1, hQ1, hQ2]; rfl))
                  try have ehA := eq_of_beq hA
                  try have ehP1 := eq_of_beq hP1
                  try have ehQ1 := eq_of_beq hQ1
                  try have ehQ2 := eq_of_beq hQ2
                  go_wp2_with fail
                  go_quiet (fail)
                  go_wp2
                  go_roundw
                  case rel => exact ⟨m + 1, y, by omega, by omega, by go_num, rfl, HNo, Lib.hid (bel_drewN HB2.out _)⟩
                  case measure => simp [intOf]; omega
                · have HYes := Lib.hid (HYY.out (by rw [hit_is hm1 hml, hA, hP1, hQ1, hQ2]; rfl))
                  try have ehA := eq_of_beq hA
                  try have ehP1 := eq_of_beq hP1
                  try have ehQ1 := eq_of_beq hQ1
                  try have ehQ2 := eq_of_beq hQ2
                  go_wp2_with fail
                  go_quiet (fail)
                  go_wp2
                  go_roundw
                  case rel => exact ⟨m + 1, _, by omega, by omega, by go_num, rfl, HYes, Lib.hid (bel_drewN HB2.out _)⟩
                  case measure => simp [intOf]; omega
              · have HYes := Lib.hid (HYY.out (by rw [hit_is hm1 hml, hA, hP1, hQ1]; rfl))
                try have ehA := eq_of_beq hA
                try have ehP1 := eq_of_beq hP1
                try have ehQ1 := eq_of_beq hQ1
                go_wp2_with fail
                go_quiet (fail)
                go_wp2
                go_roundw
                case rel => exact ⟨m + 1, _, by omega, by omega, by go_num, rfl, HYes, Lib.hid (bel_drewN HB2.out _)⟩
                case measure => simp [intOf]; omega
        · have HK := Lib.hid (show y = (mask (ss.map bl) (bl s) (k + 1) : Nat) from found_mask (by omega) (by have := HX.out; simp [this]) HZ.out.1 (HZ.out.2 (by omega)) hm (by omega) HY.out)
          obtain ⟨o', ho', HO⟩ : ∃ o' : Int, IntKind.u64.wrap (2 * o) = o' ∧ Hid (k + 1 < 64 → o' = (2 ^ (k + 1) : Nat)) := by
            refine ⟨_, rfl, Lib.hid (fun h => ?_)⟩
            rw [HZ.out.2 (by omega), IntKind.wrap_u64]
            have h1 : 2 ^ (k + 1) < 18446744073709551616 := Nat.pow_lt_pow_right (by decide) h
            have h2 : 2 ^ (k + 1) = 2 ^ k * 2 := Nat.pow_succ 2 k
            omega
          have hnl : ¬ ((m : Int) + x.size < s.size) := by omega
          clear HZ HY
          go_wp2
          go_roundw
          case rel => exact ⟨k + 1, y, o', by omega, by go_num, rfl, rfl, Lib.hid ⟨HK.out, HO.out⟩, HB2⟩
          case measure => simp [intOf]; omega
    · obtain rfl : k = n := by omega
      have hZ := HZ.out.1
      have HLn := Lib.hid (show (ss.map bl).length = k by rw [List.length_map]; exact HM.out)
      have hzl : mask (ss.map bl) (bl s) k < 18446744073709551616 := Nat.lt_of_lt_of_le (mask_lt _ (bl s) k) (Nat.pow_le_pow_right (by decide) (show k ≤ 64 by omega))
      obtain ⟨Z, HZe⟩ : ∃ Z, Hid (Z = mask (ss.map bl) (bl s) k) := ⟨_, Lib.hid rfl⟩
      rw [← HZe.out] at hZ hzl
      subst hZ
      have TX := @rtext_any _ ss wr Z hzl (HS.out.ext HB.out)
      generalize hT : (⟨(text (ss.map bl) Z).toArray⟩ : ByteArray) = T at TX
      have HT := Lib.hid (show bl T = text (ss.map bl) Z by rw [← hT])
      clear hT hzl HZ
      have hRR : (r1, r2) = if bl T = bl s then (Z, true) else (0, false) := by
        rw [HT.out, ← HR.out, HG.out, HLn.out, ← HZe.out]
      have HRR := Lib.hid hRR; clear hRR
      cases hq : (T.toList == s.toList)
      · obtain ⟨rfl, rfl⟩ : r1 = 0 ∧ r2 = false := by
          have := HRR.out
          rw [if_neg (fun e => by rw [Lib.toList_data, Lib.toList_data, show T.data.toList = s.data.toList from e] at hq; simp at hq)] at this
          cases this; exact ⟨rfl, rfl⟩
        go_wp2_with fail
        (go_wp2_with fail; go_fit (TX); rintro e w2 ⟨rfl, b2⟩)
        go_wp2
        go_ret2
        exact ⟨rfl, Ext.trans' HB.out b2⟩
      · obtain ⟨rfl, rfl⟩ : r1 = Z ∧ r2 = true := by
          have := HRR.out
          rw [if_pos (by rw [Lib.toList_data, Lib.toList_data] at hq; exact (by simpa using hq : T.data.toList = s.data.toList))] at this
          cases this; exact ⟨rfl, rfl⟩
        go_wp2_with fail
        (go_wp2_with fail; go_fit (TX); rintro e w2 ⟨rfl, b2⟩)
        go_wp2
        go_ret2
        exact ⟨rfl, Ext.trans' HB.out b2⟩
theorem rparse_any {v : Value} {ss : List ByteArray} {w : World} (s : ByteArray) (hsz : s.size ≤ 100000) (h : Strs w v ss) :
    Calls Try.prog 6 #[v, .string s] w fun e w' => e = .returned (.tuple #[.int .u64 (rParse (ss.map bl) (bl s)).1, .bool (rParse (ss.map bl) (bl s)).2]) ∧ Below w.heap.size w w' := by
  have HS := h
  obtain ⟨a, cap, rfl, hl, hm, hz, hs, rfl | ⟨b, off, rfl, hb, hc⟩⟩ := h
  · have G := @rgood_any _ [] w HS
    rw [rParse_no (by rintro ⟨h, _⟩; exact absurd h (by decide))]
    rw [show goodNames (([] : List ByteArray).map bl) = false from rfl] at G
    go_enter Try.func6, Try.ntmps6
    (go_wp2_with fail; go_fit (G); rintro e w1 ⟨rfl, b1⟩)
    go_wp2
    go_ret2
    exact ⟨rfl, b1⟩
  · exact rparse_some b off _ cap s ss w hsz rfl hl hz hs hc HS
end Go.Proofs.Ytpmjpnapokhkaaa
