/- Package lex: a quoted name. -/
import Derived.Test.YtdjdkhbaemjnnaaDoorLexE
import Derived.OwnWalk
namespace Go.Proofs.YtdjdkhbaemjnnaaDoor
open Go.RowKit
set_option linter.unusedVariables false

theorem drop_at {l : List UInt8} {i : Nat} (h : i < l.length) : l.drop i = l[i] :: l.drop (i + 1) := List.drop_eq_getElem_cons h
theorem quo_end {l : List UInt8} {i : Nat} (h : l.length ≤ i) : quoB (l.drop i) = none := by
  rw [List.drop_eq_nil_of_le h]; rfl
theorem quo_shut {l : List UInt8} {i : Nat} (h : i < l.length) (hc : (l[i] == 39) = true) (hp : Lib.hasPrefix (l.drop i) [39, 39] = false) : quoB (l.drop i) = some ([], 1) := by
  rw [drop_at h] at hp ⊢
  have e : l[i] = 39 := by simpa using hc
  cases hr : l.drop (i + 1) with
  | nil => rw [quoB, if_pos hc]
  | cons d r =>
    rw [quoB, if_pos hc, if_neg]
    intro hd
    rw [hr, e, show d = 39 by simpa using hd] at hp
    simp [Lib.hasPrefix] at hp
theorem quo_two {l : List UInt8} {i : Nat} (h : i < l.length) (hc : (l[i] == 39) = true) (hp : Lib.hasPrefix (l.drop i) [39, 39] = true) : i + 2 ≤ l.length ∧ quoB (l.drop i) = (quoB (l.drop (i + 2))).map fun p => (39 :: p.1, p.2 + 2) := by
  rw [drop_at h] at hp ⊢
  have e : l[i] = 39 := by simpa using hc
  cases hr : l.drop (i + 1) with
  | nil => rw [hr] at hp; simp [Lib.hasPrefix] at hp
  | cons d r =>
    have hl : i + 2 ≤ l.length := by
      have := congrArg List.length hr
      rw [List.length_drop] at this
      simp at this
      omega
    have hr2 : l.drop (i + 2) = r := by
      have h2 := drop_at (l := l) (i := i + 1) (by omega)
      rw [hr] at h2
      exact (List.cons.inj h2).2.symm
    rw [hr] at hp
    refine ⟨hl, ?_⟩
    rw [quoB, if_pos hc, if_pos, hr2]
    simp [Lib.hasPrefix] at hp
    simp [← hp.2]
theorem quo_wrong {l : List UInt8} {i : Nat} (h : i < l.length) (hq : (l[i] == 39) = false) (hc : (l[i] == 92) = true) (he : escH (l.drop (i + 1)) = none) : quoB (l.drop i) = none := by
  rw [drop_at h]
  cases hr : l.drop (i + 1) with
  | nil => rw [quoB, if_neg (by simp [hq])]
  | cons d r =>
    rw [hr] at he
    have he' : escB d = none := he
    rw [quoB, if_neg (by simp [hq]), if_pos hc, he']
theorem quo_esc {l : List UInt8} {i : Nat} {d : UInt8} (h : i < l.length) (hq : (l[i] == 39) = false) (hc : (l[i] == 92) = true) (he : escH (l.drop (i + 1)) = some d) : i + 2 ≤ l.length ∧ quoB (l.drop i) = (quoB (l.drop (i + 2))).map fun p => (d :: p.1, p.2 + 2) := by
  rw [drop_at h]
  cases hr : l.drop (i + 1) with
  | nil => rw [hr] at he; cases he
  | cons x r =>
    have hl : i + 2 ≤ l.length := by
      have := congrArg List.length hr
      rw [List.length_drop] at this
      simp at this
      omega
    have hr2 : l.drop (i + 2) = r := by
      have h2 := drop_at (l := l) (i := i + 1) (by omega)
      rw [hr] at h2
      exact (List.cons.inj h2).2.symm
    rw [hr] at he
    have he' : escB x = some d := he
    refine ⟨hl, ?_⟩
    rw [quoB, if_neg (by simp [hq]), if_pos hc, he', hr2]
theorem quo_plain {l : List UInt8} {i : Nat} (h : i < l.length) (hq : (l[i] == 39) = false) (hc : (l[i] == 92) = false) (hs : shownB l[i] = true) : quoB (l.drop i) = (quoB (l.drop (i + 1))).map fun p => (l[i] :: p.1, p.2 + 1) := by
  rw [drop_at h]
  cases hr : l.drop (i + 1) with
  | nil => simp [quoB, hq]
  | cons x r =>
    rw [quoB, if_neg (by simp [hq]), if_neg (by simp [hc]), if_pos (by unfold shownB at hs; exact hs)]
theorem quo_ill {l : List UInt8} {i : Nat} (h : i < l.length) (hq : (l[i] == 39) = false) (hc : (l[i] == 92) = false) (hs : shownB l[i] = false) : quoB (l.drop i) = none := by
  rw [drop_at h]
  cases hr : l.drop (i + 1) with
  | nil => rw [quoB, if_neg (by simp [hq])]
  | cons x r =>
    rw [quoB, if_neg (by simp [hq]), if_neg (by simp [hc]), if_neg]
    unfold shownB at hs
    simp [hs]
/-- What unquote answers. -/
def unqV (i : Nat) : Option (List UInt8 × Nat) → Value
  | none => .tuple #[.string ⟨#[]⟩, .int .i64 0, .int .i64 2]
  | some p => .tuple #[.string ⟨p.1.toArray⟩, .int .i64 ((i + 1 + p.2 : Nat) : Int), .int .i64 0]
theorem infoU8 : (Tryd.prog.info? 5).map (fun i => (i.zero, i.size, i.bytes)) = some (some (.int .u8 0), 1, 1) := by kernel_rfl
theorem bytesV_snoc (l : List UInt8) (c : UInt8) : bytesV (l ++ [c]) = bytesV l ++ [.int .u8 (c.toNat : Int)] := by simp [bytesV]
set_option maxHeartbeats 800000 in
theorem unquote_any (s : ByteArray) (i : Nat) (w : World) (hi : i < s.size) (hs : s.size ≤ 140737488351232) : Calls Tryd.prog 20 #[.string s, .int .i64 i] w fun e w' => e = .returned (unqV i (quoB ((bl s).drop (i + 1)))) ∧ Below w.heap.size w w' := by
  obtain ⟨X, hX⟩ : ∃ X, quoB ((bl s).drop (i + 1)) = X := ⟨_, rfl⟩
  rw [hX]
  have HX := Lib.hid hX
  clear hX
  obtain ⟨i0, hi0, hz0, hs0, hb0⟩ := info_parts infoU8
  go_enter Tryd.func20, Tryd.ntmps20
  go_wp2
  go_loopw [7, 8] (fun o v wr => ∃ (k : Nat) (ao : Option Addr) (cv : Nat) (l : List UInt8), i + 1 ≤ k ∧ k ≤ s.size ∧ v = .int .i64 k ∧ o = .slice ao l.length cv ∧ l.length ≤ k ∧ Hid (RowB wr w.heap.size o l) ∧ Hid (Below w.heap.size w wr) ∧
      Hid (X = (quoB ((bl s).drop k)).map fun p => (l ++ p.1, k - (i + 1) + p.2))) (fun _ v _ => s.size - (intOf v).toNat)
  case atStart => exact ⟨i + 1, none, 0, [], Nat.le_refl _, by omega, by go_num, rfl, by simp, Lib.hid (RowB.nil _ _), Lib.hid (Below.refl _ _), Lib.hid (by
    rw [HX.out]
    cases X with
    | none => rfl
    | some p => simp)⟩
  case round =>
    obtain ⟨k, ao, cv, l, hik, hk, rfl, rfl, hlk, HR, HB, HQ⟩ := hrel
    by_cases hlt : k < s.size
    · have hv : ((bl s)[k]'hlt) = s[k] := rfl
      cases hq : (s[k] == 39)
      · have gq := u8_ne hq
        rw [show ((39 : UInt8).toNat : Int) = 39 from rfl] at gq
        cases hc : (s[k] == 92)
        · have gc := u8_ne hc
          rw [show ((92 : UInt8).toNat : Int) = 92 from rfl] at gc
          cases hsh : shownB s[k]
          · have he := quo_ill (l := bl s) (i := k) hlt hq hc hsh
            have hxn : X = none := by rw [HQ.out, he]; rfl
            have SH := fun w => shown_any s[k] w
            rw [hsh] at SH
            subst hxn
            clear HX HQ he hq hc hsh
            go_wp2_with (go_at_call 15; go_fit (SH _); rintro e w' ⟨rfl, rfl⟩)
            go_ret3
            exact ⟨rfl, HB.out⟩
          · have he := quo_plain (l := bl s) (i := k) hlt hq hc hsh
            have HN : Hid (X = (quoB ((bl s).drop (k + 1))).map fun p => ((l ++ [s[k]]) ++ p.1, k + 1 - (i + 1) + p.2)) := Lib.hid (by
              rw [HQ.out, he, hv]
              cases quoB ((bl s).drop (k + 1)) with
              | none => rfl
              | some p => simp; omega)
            have SH := fun w => shown_any s[k] w
            rw [hsh] at SH
            clear HX HQ he hq hc hsh
            go_wp2_with (first | (go_at_call 15; go_fit (SH _); rintro e w' ⟨rfl, rfl⟩) | (at_builtin; refine wpList_append_own _ rfl _ _ 37 rfl w.heap.size 5 i0 (.int .u8 0) 1 1 Tryd.underlying37 hi0 hz0 hs0 hb0 rfl (by decide) _ _ _ rfl (HR.out.alloc _) ⟨wr.heap.size, 0, none⟩ 1 1 [.int .u8 (s[k].toNat : Int)] rfl rfl (cell_one_new _ _ _) (fun x hx => by simp at hx; subst hx; rfl) (by unfold maxLen; omega) (by omega) (by have := HB.out.size; simp; omega) ?_; intro v' w3 hown' hgrow3 hnil3))
            go_roundw
            case rel =>
              obtain ⟨g3, cap3, hv3⟩ : ∃ g3 cap3, v' = .slice (some ⟨g3, 0, none⟩) (l.length + 1) cap3 := by
                rcases hown'.2 with ⟨_, h⟩ | ⟨g3, cap3, _, h, _⟩
                · omega
                · exact ⟨g3, cap3, h⟩
              refine ⟨k + 1, some ⟨g3, 0, none⟩, cap3, l ++ [s[k]], by omega, by omega, by go_num, by rw [hv3]; simp, by simp; omega, Lib.hid ?_, Lib.hid ?_, HN⟩
              · unfold RowB
                rw [bytesV_snoc, List.length_append]
                exact hown'
              · exact (HB.out.alloc HB.out.size _).grown hgrow3 (by have := HB.out.size; simp; omega) (fun q hq => (HR.out.lt q hq).1)
            case measure => simp [intOf]; omega
        · have gc : (s[k].toNat : Int) = 92 := by rw [show s[k] = 92 by simpa using hc]; rfl
          have hq1 : bl (s.extract (k + 1) s.size) = (bl s).drop (k + 1) := sub_bl s (k + 1) (by omega)
          have hq2 : (s.extract (k + 1) s.size).size ≤ 140737488351232 := by rw [sub_size]; omega
          cases hes : escH ((bl s).drop (k + 1)) with
          | none =>
            have he := quo_wrong (l := bl s) (i := k) hlt hq hc hes
            have hxn : X = none := by rw [HQ.out, he]; rfl
            have M := fun w => meant_none (s.extract (k + 1) s.size) w (by rw [hq1]; exact hes) hq2
            subst hxn
            clear HX HQ he hq hc hes hq1 hq2 hv gq
            go_wp2_with (go_at_call 30; go_fit (M _); rintro e w' ⟨rfl, rfl⟩)
            go_ret3
            exact ⟨rfl, HB.out⟩
          | some d =>
            obtain ⟨hk2, he⟩ := quo_esc (l := bl s) (i := k) hlt hq hc hes
            have hk2' : k + 2 ≤ s.size := hk2
            have HN : Hid (X = (quoB ((bl s).drop (k + 2))).map fun p => ((l ++ [d]) ++ p.1, k + 2 - (i + 1) + p.2)) := Lib.hid (by
              rw [HQ.out, he]
              cases quoB ((bl s).drop (k + 2)) with
              | none => rfl
              | some p => simp; omega)
            have M := fun w => meant_some (s.extract (k + 1) s.size) d w (by rw [hq1]; exact hes) hq2
            clear HX HQ he hq hc hes hq1 hq2 hv gq hk2
            go_wp2_with (first | (go_at_call 30; go_fit (M _); rintro e w' ⟨rfl, rfl⟩) | (at_builtin; refine wpList_append_own _ rfl _ _ 37 rfl w.heap.size 5 i0 (.int .u8 0) 1 1 Tryd.underlying37 hi0 hz0 hs0 hb0 rfl (by decide) _ _ _ rfl (HR.out.alloc _) ⟨wr.heap.size, 0, none⟩ 1 1 [.int .u8 (d.toNat : Int)] rfl rfl (cell_one_new _ _ _) (fun x hx => by simp at hx; subst hx; rfl) (by unfold maxLen; omega) (by omega) (by have := HB.out.size; simp; omega) ?_; intro v' w3 hown' hgrow3 hnil3))
            go_roundw
            case rel =>
              obtain ⟨g3, cap3, hv3⟩ : ∃ g3 cap3, v' = .slice (some ⟨g3, 0, none⟩) (l.length + 1) cap3 := by
                rcases hown'.2 with ⟨_, h⟩ | ⟨g3, cap3, _, h, _⟩
                · omega
                · exact ⟨g3, cap3, h⟩
              refine ⟨k + 2, some ⟨g3, 0, none⟩, cap3, l ++ [d], by omega, by omega, by go_num, by rw [hv3]; simp, by simp; omega, Lib.hid ?_, Lib.hid ?_, HN⟩
              · unfold RowB
                rw [bytesV_snoc, List.length_append]
                exact hown'
              · exact (HB.out.alloc HB.out.size _).grown hgrow3 (by have := HB.out.size; simp; omega) (fun q hq => (HR.out.lt q hq).1)
            case measure => simp [intOf]; omega
      · have gc : (s[k].toNat : Int) = 39 := by rw [show s[k] = 39 by simpa using hq]; rfl
        have P := fun w => prefix_any (s.extract k s.size) ⟨#[39, 39]⟩ w
        rw [show bl (s.extract k s.size) = (bl s).drop k from sub_bl s k (by omega), show bl (⟨#[39, 39]⟩ : ByteArray) = [39, 39] from rfl] at P
        cases hpf : Lib.hasPrefix ((bl s).drop k) [39, 39]
        · rw [hpf] at P
          have he := quo_shut (l := bl s) (i := k) hlt hq hpf
          have hxn : X = some (l, k - (i + 1) + 1) := by rw [HQ.out, he]; simp
          have CV := conv_row HR.out
          subst hxn
          clear HX HQ he hq hpf hv
          go_wp2_with (go_at_call 29; go_fit (P _); rintro e w' ⟨rfl, rfl⟩)
          go_ret3
          refine ⟨?_, HB.out⟩
          unfold unqV
          simp only
          rw [show i + 1 + (k - (i + 1) + 1) = k + 1 by omega]
          rfl
        · rw [hpf] at P
          obtain ⟨hk2, he⟩ := quo_two (l := bl s) (i := k) hlt hq hpf
          have hk2' : k + 2 ≤ s.size := hk2
          have HN : Hid (X = (quoB ((bl s).drop (k + 2))).map fun p => ((l ++ [39]) ++ p.1, k + 2 - (i + 1) + p.2)) := Lib.hid (by
            rw [HQ.out, he]
            cases quoB ((bl s).drop (k + 2)) with
            | none => rfl
            | some p => simp; omega)
          clear HX HQ he hq hpf hv hk2
          go_wp2_with (first | (go_at_call 29; go_fit (P _); rintro e w' ⟨rfl, rfl⟩) | (at_builtin; refine wpList_append_own _ rfl _ _ 37 rfl w.heap.size 5 i0 (.int .u8 0) 1 1 Tryd.underlying37 hi0 hz0 hs0 hb0 rfl (by decide) _ _ _ rfl (HR.out.alloc _) ⟨wr.heap.size, 0, none⟩ 1 1 [.int .u8 39] rfl rfl (cell_one_new _ _ _) (fun x hx => by simp at hx; subst hx; rfl) (by unfold maxLen; omega) (by omega) (by have := HB.out.size; simp; omega) ?_; intro v' w3 hown' hgrow3 hnil3))
          go_roundw
          case rel =>
            obtain ⟨g3, cap3, hv3⟩ : ∃ g3 cap3, v' = .slice (some ⟨g3, 0, none⟩) (l.length + 1) cap3 := by
              rcases hown'.2 with ⟨_, h⟩ | ⟨g3, cap3, _, h, _⟩
              · omega
              · exact ⟨g3, cap3, h⟩
            refine ⟨k + 2, some ⟨g3, 0, none⟩, cap3, l ++ [39], by omega, by omega, by go_num, by rw [hv3]; simp, by simp; omega, Lib.hid ?_, Lib.hid ?_, HN⟩
            · unfold RowB
              rw [bytesV_snoc, List.length_append]
              exact hown'
            · exact (HB.out.alloc HB.out.size _).grown hgrow3 (by have := HB.out.size; simp; omega) (fun q hq => (HR.out.lt q hq).1)
          case measure => simp [intOf]; omega
    · have he := quo_end (l := bl s) (i := k) (show s.size ≤ k by omega)
      have hxn : X = none := by rw [HQ.out, he]; rfl
      subst hxn
      go_wp2
      go_ret3
      exact ⟨rfl, HB.out⟩
end Go.Proofs.YtdjdkhbaemjnnaaDoor
