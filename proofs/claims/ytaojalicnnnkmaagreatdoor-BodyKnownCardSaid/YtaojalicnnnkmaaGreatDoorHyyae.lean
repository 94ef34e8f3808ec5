import Derived.Test.YtaojalicnnnkmaaGreatDoorHyyad
import Derived.OwnWalk
import Derived.Laws.ResultCell
set_option linter.unusedVariables false
set_option linter.unusedSimpArgs false
/- Package lex: a quoted name. -/
namespace Go.Proofs.YtaojalicnnnkmaaGreatDoor
open Go.RowKit
set_option linter.unusedVariables false

theorem drop_at {l : List UInt8} {i : Nat} (h : i < l.length) : l.drop i = l[i] :: l.drop (i + 1) := List.drop_eq_getElem_cons h
theorem quo_end {l : List UInt8} {i : Nat} (h : l.length ≤ i) : quoB (l.drop i) = none := by
  rw [List.drop_eq_nil_of_le h]; rfl
theorem quo_shut {l : List UInt8} {i : Nat} (h : i < l.length) (hc : (l[i] == 39) = true) (hp : Lib.hasPrefix (l.drop i) [39, 39] = false) : quoB (l.drop i) = some ([], 1) := by
  rw [drop_at h] at hp ⊢
  have e : l[i] = 39 := by simpa using hc
  cases hr : l.drop (i + 1) with
  | nil => rw [quoB, if_pos hc]
  | cons d r =>
    rw [quoB, if_pos hc, if_neg]
    intro hd
    rw [hr, e, show d = 39 by simpa using hd] at hp
    simp [Lib.hasPrefix] at hp
theorem quo_two {l : List UInt8} {i : Nat} (h : i < l.length) (hc : (l[i] == 39) = true) (hp : Lib.hasPrefix (l.drop i) [39, 39] = true) : i + 2 ≤ l.length ∧ quoB (l.drop i) = (quoB (l.drop (i + 2))).map fun p => (39 :: p.1, p.2 + 2) := by
  rw [drop_at h] at hp ⊢
  have e : l[i] = 39 := by simpa using hc
  cases hr : l.drop (i + 1) with
  | nil => rw [hr] at hp; simp [Lib.hasPrefix] at hp
  | cons d r =>
    have hl : i + 2 ≤ l.length := by
      have := congrArg List.length hr
      rw [List.length_drop] at this
      simp at this
      omega
    have hr2 : l.drop (i + 2) = r := by
      have h2 := drop_at (l := l) (i := i + 1) (by omega)
      rw [hr] at h2
      exact (List.cons.inj h2).2.symm
    rw [hr] at hp
    refine ⟨hl, ?_⟩
    rw [quoB, if_pos hc, if_pos, hr2]
    simp [Lib.hasPrefix] at hp
    simp [← hp.2]
theorem quo_wrong {l : List UInt8} {i : Nat} (h : i < l.length) (hq : (l[i] == 39) = false) (hc : (l[i] == 92) = true) (he : escH (l.drop (i + 1)) = none) : quoB (l.drop i) = none := by
  rw [drop_at h]
  cases hr : l.drop (i + 1) with
  | nil => rw [quoB, if_neg (by simp [hq])]
  | cons d r =>
    rw [hr] at he
    have he' : escB d = none := he
    rw [quoB, if_neg (by simp [hq]), if_pos hc, he']
theorem quo_esc {l : List UInt8} {i : Nat} {d : UInt8} (h : i < l.length) (hq : (l[i] == 39) = false) (hc : (l[i] == 92) = true) (he : escH (l.drop (i + 1)) = some d) : i + 2 ≤ l.length ∧ quoB (l.drop i) = (quoB (l.drop (i + 2))).map fun p => (d :: p.1, p.2 + 2) := by
  rw [drop_at h]
  cases hr : l.drop (i + 1) with
  | nil => rw [hr] at he; cases he
  | cons x r =>
    have hl : i + 2 ≤ l.length := by
      have := congrArg List.length hr
      rw [List.length_drop] at this
      simp at this
      omega
    have hr2 : l.drop (i + 2) = r := by
      have h2 := drop_at (l := l) (i := i + 1) (by omega)
      rw [hr] at h2
      exact (List.cons.inj h2).2.symm
    rw [hr] at he
    have he' : escB x = some d := he
    refine ⟨hl, ?_⟩
    rw [quoB, if_neg (by simp [hq]), if_pos hc, he', hr2]
theorem quo_plain {l : List UInt8} {i : Nat} (h : i < l.length) (hq : (l[i] == 39) = false) (hc : (l[i] == 92) = false) (hs : shownB l[i] = true) : quoB (l.drop i) = (quoB (l.drop (i + 1))).map fun p => (l[i] :: p.1, p.2 + 1) := by
  rw [drop_at h]
  cases hr : l.drop (i + 1) with
  | nil => simp [quoB, hq]
  | cons x r =>
    rw [quoB, if_neg (by simp [hq]), if_neg (by simp [hc]), if_pos (by unfold shownB at hs; exact hs)]
theorem quo_ill {l : List UInt8} {i : Nat} (h : i < l.length) (hq : (l[i] == 39) = false) (hc : (l[i] == 92) = false) (hs : shownB l[i] = false) : quoB (l.drop i) = none := by
  rw [drop_at h]
  cases hr : l.drop (i + 1) with
  | nil => rw [quoB, if_neg (by simp [hq])]
  | cons x r =>
    rw [quoB, if_neg (by simp [hq]), if_neg (by simp [hc]), if_neg]
    unfold shownB at hs
    simp [hs]
/-- What unquote answers. -/
def unqV (i : Nat) : Option (List UInt8 × Nat) → Value
  | none => .tuple #[.string ⟨#[]⟩, .int .i64 0, .int .i64 2]
  | some p => .tuple #[.string ⟨p.1.toArray⟩, .int .i64 ((i + 1 + p.2 : Nat) : Int), .int .i64 0]
theorem infoU8 : (Tryz.prog.info? 5).map (fun i => (i.zero, i.size, i.bytes)) = some (some (.int .u8 0), 1, 1) := by kernel_rfl
theorem bytesV_snoc (l : List UInt8) (c : UInt8) : bytesV (l ++ [c]) = bytesV l ++ [.int .u8 (c.toNat : Int)] := by simp [bytesV]
set_option maxHeartbeats 800000 in
theorem unquote_any (s : ByteArray) (i : Nat) (w : World) (hi : i < s.size) (hs : s.size ≤ 140737488351232) : Calls Tryz.prog 94 #[.string s, .int .i64 i] w fun e w' => e = .returned (unqV i (quoB ((bl s).drop (i + 1)))) ∧ Below w.heap.size w w' := by
  obtain ⟨X, hX⟩ : ∃ X, quoB ((bl s).drop (i + 1)) = X := ⟨_, rfl⟩
  rw [hX]
  have HX := Lib.hid hX
  clear hX
  obtain ⟨i0, hi0, hz0, hs0, hb0⟩ := info_parts infoU8
  go_enter Tryz.func94, Tryz.ntmps94
  go_wp2
  go_loopw [7, 8] (fun o v wr => ∃ (k : Nat) (ao : Option Addr) (cv : Nat) (l : List UInt8), i + 1 ≤ k ∧ k ≤ s.size ∧ v = .int .i64 k ∧ o = .slice ao l.length cv ∧ l.length ≤ k ∧ Hid (RowB wr w.heap.size o l) ∧ Hid (Below w.heap.size w wr) ∧
      Hid (X = (quoB ((bl s).drop k)).map fun p => (l ++ p.1, k - (i + 1) + p.2))) (fun _ v _ => s.size - (intOf v).toNat)
  case atStart => exact ⟨i + 1, none, 0, [], Nat.le_refl _, by omega, by go_num, rfl, by simp, Lib.hid (RowB.nil _ _), Lib.hid (Below.refl _ _), Lib.hid (by
    rw [HX.out]
    cases X with
    | none => rfl
    | some p => simp)⟩
  case round =>
    obtain ⟨k, ao, cv, l, hik, hk, rfl, rfl, hlk, HR, HB, HQ⟩ := hrel
    by_cases hlt : k < s.size
    · have hv : ((bl s)[k]'hlt) = s[k] := rfl
      cases hq : (s[k] == 39)
      · have gq := u8_ne hq
        rw [show ((39 : UInt8).toNat : Int) = 39 from rfl] at gq
        cases hc : (s[k] == 92)
        · have gc := u8_ne hc
          rw [show ((92 : UInt8).toNat : Int) = 92 from rfl] at gc
          cases hsh : shownB s[k]
          · have he := quo_ill (l := bl s) (i := k) hlt hq hc hsh
            have hxn : X = none := by rw [HQ.out, he]; rfl
            have SH := fun w => shown_any s[k] w
            rw [hsh] at SH
            subst hxn
            clear HX HQ he hq hc hsh
            go_wp2_with (go_at_call 113; go_fit (SH _); rintro e w' ⟨rfl, rfl⟩)
            go_ret3
            exact ⟨rfl, HB.out⟩
          · have he := quo_plain (l := bl s) (i := k) hlt hq hc hsh
            have HN : Hid (X = (quoB ((bl s).drop (k + 1))).map fun p => ((l ++ [s[k]]) ++ p.1, k + 1 - (i + 1) + p.2)) := Lib.hid (by
              rw [HQ.out, he, hv]
              cases quoB ((bl s).drop (k + 1)) with
              | none => rfl
              | some p => simp; omega)
            have SH := fun w => shown_any s[k] w
            rw [hsh] at SH
            clear HX HQ he hq hc hsh
            go_wp2_with (first | (go_at_call 113; go_fit (SH _); rintro e w' ⟨rfl, rfl⟩) | (at_builtin; refine wpList_append_own _ rfl _ _ 167 rfl w.heap.size 5 i0 (.int .u8 0) 1 1 Tryz.underlying167 hi0 hz0 hs0 hb0 rfl (by decide) _ _ _ rfl (HR.out.alloc _) ⟨wr.heap.size, 0, none⟩ 1 1 [.int .u8 (s[k].toNat : Int)] rfl rfl (cell_one_new _ _ _) (fun x hx => by simp at hx; subst hx; rfl) (by unfold maxLen; omega) (by omega) (by have := HB.out.size; simp; omega) ?_; intro v' w3 hown' hgrow3 hnil3))
            go_roundw
            case rel =>
              obtain ⟨g3, cap3, hv3⟩ : ∃ g3 cap3, v' = .slice (some ⟨g3, 0, none⟩) (l.length + 1) cap3 := by
                rcases hown'.2 with ⟨_, h⟩ | ⟨g3, cap3, _, h, _⟩
                · omega
                · exact ⟨g3, cap3, h⟩
              refine ⟨k + 1, some ⟨g3, 0, none⟩, cap3, l ++ [s[k]], by omega, by omega, by go_num, by rw [hv3]; simp, by simp; omega, Lib.hid ?_, Lib.hid ?_, HN⟩
              · unfold RowB
                rw [bytesV_snoc, List.length_append]
                exact hown'
              · exact (HB.out.alloc HB.out.size _).grown hgrow3 (by have := HB.out.size; simp; omega) (fun q hq => (HR.out.lt q hq).1)
            case measure => simp [intOf]; omega
        · have gc : (s[k].toNat : Int) = 92 := by rw [show s[k] = 92 by simpa using hc]; rfl
          have hq1 : bl (s.extract (k + 1) s.size) = (bl s).drop (k + 1) := sub_bl s (k + 1) (by omega)
          have hq2 : (s.extract (k + 1) s.size).size ≤ 140737488351232 := by rw [sub_size]; omega
          cases hes : escH ((bl s).drop (k + 1)) with
          | none =>
            have he := quo_wrong (l := bl s) (i := k) hlt hq hc hes
            have hxn : X = none := by rw [HQ.out, he]; rfl
            have M := fun w => meant_none (s.extract (k + 1) s.size) w (by rw [hq1]; exact hes) hq2
            subst hxn
            clear HX HQ he hq hc hes hq1 hq2 hv gq
            go_wp2_with (go_at_call 112; go_fit (M _); rintro e w' ⟨rfl, rfl⟩)
            go_ret3
            exact ⟨rfl, HB.out⟩
          | some d =>
            obtain ⟨hk2, he⟩ := quo_esc (l := bl s) (i := k) hlt hq hc hes
            have hk2' : k + 2 ≤ s.size := hk2
            have HN : Hid (X = (quoB ((bl s).drop (k + 2))).map fun p => ((l ++ [d]) ++ p.1, k + 2 - (i + 1) + p.2)) := Lib.hid (by
              rw [HQ.out, he]
              cases quoB ((bl s).drop (k + 2)) with
              | none => rfl
              | some p => simp; omega)
            have M := fun w => meant_some (s.extract (k + 1) s.size) d w (by rw [hq1]; exact hes) hq2
            clear HX HQ he hq hc hes hq1 hq2 hv gq hk2
            go_wp2_with (first | (go_at_call 112; go_fit (M _); rintro e w' ⟨rfl, rfl⟩) | (at_builtin; refine wpList_append_own _ rfl _ _ 167 rfl w.heap.size 5 i0 (.int .u8 0) 1 1 Tryz.underlying167 hi0 hz0 hs0 hb0 rfl (by decide) _ _ _ rfl (HR.out.alloc _) ⟨wr.heap.size, 0, none⟩ 1 1 [.int .u8 (d.toNat : Int)] rfl rfl (cell_one_new _ _ _) (fun x hx => by simp at hx; subst hx; rfl) (by unfold maxLen; omega) (by omega) (by have := HB.out.size; simp; omega) ?_; intro v' w3 hown' hgrow3 hnil3))
            go_roundw
            case rel =>
              obtain ⟨g3, cap3, hv3⟩ : ∃ g3 cap3, v' = .slice (some ⟨g3, 0, none⟩) (l.length + 1) cap3 := by
                rcases hown'.2 with ⟨_, h⟩ | ⟨g3, cap3, _, h, _⟩
                · omega
                · exact ⟨g3, cap3, h⟩
              refine ⟨k + 2, some ⟨g3, 0, none⟩, cap3, l ++ [d], by omega, by omega, by go_num, by rw [hv3]; simp, by simp; omega, Lib.hid ?_, Lib.hid ?_, HN⟩
              · unfold RowB
                rw [bytesV_snoc, List.length_append]
                exact hown'
              · exact (HB.out.alloc HB.out.size _).grown hgrow3 (by have := HB.out.size; simp; omega) (fun q hq => (HR.out.lt q hq).1)
            case measure => simp [intOf]; omega
      · have gc : (s[k].toNat : Int) = 39 := by rw [show s[k] = 39 by simpa using hq]; rfl
        have P := fun w => prefix_any (s.extract k s.size) ⟨#[39, 39]⟩ w
        rw [show bl (s.extract k s.size) = (bl s).drop k from sub_bl s k (by omega), show bl (⟨#[39, 39]⟩ : ByteArray) = [39, 39] from rfl] at P
        cases hpf : Lib.hasPrefix ((bl s).drop k) [39, 39]
        · rw [hpf] at P
          have he := quo_shut (l := bl s) (i := k) hlt hq hpf
          have hxn : X = some (l, k - (i + 1) + 1) := by rw [HQ.out, he]; simp
          have CV := conv_row HR.out
          subst hxn
          clear HX HQ he hq hpf hv
          go_wp2_with (go_at_call 111; go_fit (P _); rintro e w' ⟨rfl, rfl⟩)
          go_ret3
          refine ⟨?_, HB.out⟩
          unfold unqV
          simp only
          rw [show i + 1 + (k - (i + 1) + 1) = k + 1 by omega]
          rfl
        · rw [hpf] at P
          obtain ⟨hk2, he⟩ := quo_two (l := bl s) (i := k) hlt hq hpf
          have hk2' : k + 2 ≤ s.size := hk2
          have HN : Hid (X = (quoB ((bl s).drop (k + 2))).map fun p => ((l ++ [39]) ++ p.1, k + 2 - (i + 1) + p.2)) := Lib.hid (by
            rw [HQ.out, he]
            cases quoB ((bl s).drop (k + 2)) with
            | none => rfl
            | some p => simp; omega)
          clear HX HQ he hq hpf hv hk2
          go_wp2_with (first | (go_at_call 111; go_fit (P _); rintro e w' ⟨rfl, rfl⟩) | (at_builtin; refine wpList_append_own _ rfl _ _ 167 rfl w.heap.size 5 i0 (.int .u8 0) 1 1 Tryz.underlying167 hi0 hz0 hs0 hb0 rfl (by decide) _ _ _ rfl (HR.out.alloc _) ⟨wr.heap.size, 0, none⟩ 1 1 [.int .u8 39] rfl rfl (cell_one_new _ _ _) (fun x hx => by simp at hx; subst hx; rfl) (by unfold maxLen; omega) (by omega) (by have := HB.out.size; simp; omega) ?_; intro v' w3 hown' hgrow3 hnil3))
          go_roundw
          case rel =>
            obtain ⟨g3, cap3, hv3⟩ : ∃ g3 cap3, v' = .slice (some ⟨g3, 0, none⟩) (l.length + 1) cap3 := by
              rcases hown'.2 with ⟨_, h⟩ | ⟨g3, cap3, _, h, _⟩
              · omega
              · exact ⟨g3, cap3, h⟩
            refine ⟨k + 2, some ⟨g3, 0, none⟩, cap3, l ++ [39], by omega, by omega, by go_num, by rw [hv3]; simp, by simp; omega, Lib.hid ?_, Lib.hid ?_, HN⟩
            · unfold RowB
              rw [bytesV_snoc, List.length_append]
              exact hown'
            · exact (HB.out.alloc HB.out.size _).grown hgrow3 (by have := HB.out.size; simp; omega) (fun q hq => (HR.out.lt q hq).1)
          case measure => simp [intOf]; omega
    · have he := quo_end (l := bl s) (i := k) (show s.size ≤ k by omega)
      have hxn : X = none := by rw [HQ.out, he]; rfl
      subst hxn
      go_wp2
      go_ret3
      exact ⟨rfl, HB.out⟩
end Go.Proofs.YtaojalicnnnkmaaGreatDoor
/- Package lex: the kind of what begins at a place, and where it ends. -/
namespace Go.Proofs.YtaojalicnnnkmaaGreatDoor
open Go.RowKit
set_option linter.unusedVariables false

def pieceP (bs bg bd q be y o p1 p2 m : Bool) (i rw_ rd rs : Nat) : Nat × Nat :=
  if bs then (1, rw_) else if bg then (3, rw_) else if bd then (4, rd) else if q then (2, i) else if be then (6, i + 1) else if y then (1, rs) else if o then (1, i + 1) else if p1 || p2 then (1, i + 2) else if m then (5, i + 1) else (0, i)
def pairV (p : Nat × Nat) : Value := .tuple #[.int .i64 (p.1 : Int), .int .i64 (p.2 : Int)]
section
set_option maxHeartbeats 800000
theorem piece_core {s : ByteArray} {i : Nat} (w : World) (hi : i < s.size) (hs : s.size ≤ 140737488351232) {bs bg bd q be y o p1 p2 m : Bool} {rw_ rd rs : Nat}
    (S : ∀ w, Calls Tryz.prog 105 #[.int .u8 s[i].toNat] w fun e w' => e = .returned (.bool bs) ∧ w = w')
    (G : ∀ w, Calls Tryz.prog 107 #[.int .u8 s[i].toNat] w fun e w' => e = .returned (.bool bg) ∧ w = w')
    (D : ∀ w, Calls Tryz.prog 108 #[.int .u8 s[i].toNat] w fun e w' => e = .returned (.bool bd) ∧ w = w')
    (Q : ((s[i].toNat : Int) == 39) = q)
    (E : ∀ w, Calls Tryz.prog 109 #[.string s, .int .i64 i] w fun e w' => e = .returned (.bool be) ∧ w = w')
    (Y : ∀ w, Calls Tryz.prog 90 #[.string ⟨#[43, 45, 42, 47, 92, 94, 60, 62, 61, 126, 58, 46, 63, 64, 35, 38, 36]⟩, .int .u8 s[i].toNat] w fun e w' => e = .returned (.bool y) ∧ w = w')
    (O : ∀ w, Calls Tryz.prog 90 #[.string ⟨#[59, 33]⟩, .int .u8 s[i].toNat] w fun e w' => e = .returned (.bool o) ∧ w = w')
    (P1 : ∀ w, Calls Tryz.prog 111 #[.string (s.extract i s.size), .string ⟨#[91, 93]⟩] w fun e w' => e = .returned (.bool p1) ∧ w = w')
    (P2 : ∀ w, Calls Tryz.prog 111 #[.string (s.extract i s.size), .string ⟨#[123, 125]⟩] w fun e w' => e = .returned (.bool p2) ∧ w = w')
    (M : ∀ w, Calls Tryz.prog 90 #[.string ⟨#[40, 41, 91, 93, 123, 125, 44, 124]⟩, .int .u8 s[i].toNat] w fun e w' => e = .returned (.bool m) ∧ w = w')
    (RW : ∀ w, Calls Tryz.prog 91 #[.string s, .int .i64 i, .func (.func 106) #[] #[]] w fun e w' => e = .returned (.int .i64 (rw_ : Int)) ∧ w = w')
    (RD : ∀ w, Calls Tryz.prog 91 #[.string s, .int .i64 i, .func (.func 108) #[] #[]] w fun e w' => e = .returned (.int .i64 (rd : Int)) ∧ w = w')
    (YR : ∀ w, Calls Tryz.prog 110 #[.string s, .int .i64 i] w fun e w' => e = .returned (.int .i64 (rs : Int)) ∧ w = w') :
    Calls Tryz.prog 93 #[.string s, .int .i64 i] w fun e w' => e = .returned (pairV (pieceP bs bg bd q be y o p1 p2 m i rw_ rd rs)) ∧ w = w' := by
  cases bs
  · cases bg
    · cases bd
      · cases q
        · cases be
          · cases y
            · cases o
              · cases p1
                · cases p2
                  · cases m
                    · go_enter Tryz.func93, Tryz.ntmps93
                      go_wp2_with (first | (go_at_call 105; go_fit (S _); rintro e w' ⟨rfl, rfl⟩) | (go_at_call 107; go_fit (G _); rintro e w' ⟨rfl, rfl⟩) | (go_at_call 108; go_fit (D _); rintro e w' ⟨rfl, rfl⟩) | (go_at_call 109; go_fit (E _); rintro e w' ⟨rfl, rfl⟩) | (go_at_call 110; go_fit (YR _); rintro e w' ⟨rfl, rfl⟩) | (go_at_call 90; (first | go_fit (Y _) | go_fit (O _) | go_fit (M _)); rintro e w' ⟨rfl, rfl⟩) | (go_at_call 111; (first | go_fit (P1 _) | go_fit (P2 _)); rintro e w' ⟨rfl, rfl⟩) | (go_at_call 91; (first | go_fit (RW _) | go_fit (RD _)); rintro e w' ⟨rfl, rfl⟩))
                      go_ret2
                      exact ⟨rfl, rfl⟩
                    · go_enter Tryz.func93, Tryz.ntmps93
                      go_wp2_with (first | (go_at_call 105; go_fit (S _); rintro e w' ⟨rfl, rfl⟩) | (go_at_call 107; go_fit (G _); rintro e w' ⟨rfl, rfl⟩) | (go_at_call 108; go_fit (D _); rintro e w' ⟨rfl, rfl⟩) | (go_at_call 109; go_fit (E _); rintro e w' ⟨rfl, rfl⟩) | (go_at_call 110; go_fit (YR _); rintro e w' ⟨rfl, rfl⟩) | (go_at_call 90; (first | go_fit (Y _) | go_fit (O _) | go_fit (M _)); rintro e w' ⟨rfl, rfl⟩) | (go_at_call 111; (first | go_fit (P1 _) | go_fit (P2 _)); rintro e w' ⟨rfl, rfl⟩) | (go_at_call 91; (first | go_fit (RW _) | go_fit (RD _)); rintro e w' ⟨rfl, rfl⟩))
                      go_ret2
                      exact ⟨rfl, rfl⟩
                  · go_enter Tryz.func93, Tryz.ntmps93
                    go_wp2_with (first | (go_at_call 105; go_fit (S _); rintro e w' ⟨rfl, rfl⟩) | (go_at_call 107; go_fit (G _); rintro e w' ⟨rfl, rfl⟩) | (go_at_call 108; go_fit (D _); rintro e w' ⟨rfl, rfl⟩) | (go_at_call 109; go_fit (E _); rintro e w' ⟨rfl, rfl⟩) | (go_at_call 110; go_fit (YR _); rintro e w' ⟨rfl, rfl⟩) | (go_at_call 90; (first | go_fit (Y _) | go_fit (O _) | go_fit (M _)); rintro e w' ⟨rfl, rfl⟩) | (go_at_call 111; (first | go_fit (P1 _) | go_fit (P2 _)); rintro e w' ⟨rfl, rfl⟩) | (go_at_call 91; (first | go_fit (RW _) | go_fit (RD _)); rintro e w' ⟨rfl, rfl⟩))
                    go_ret2
                    exact ⟨rfl, rfl⟩
                · go_enter Tryz.func93, Tryz.ntmps93
                  go_wp2_with (first | (go_at_call 105; go_fit (S _); rintro e w' ⟨rfl, rfl⟩) | (go_at_call 107; go_fit (G _); rintro e w' ⟨rfl, rfl⟩) | (go_at_call 108; go_fit (D _); rintro e w' ⟨rfl, rfl⟩) | (go_at_call 109; go_fit (E _); rintro e w' ⟨rfl, rfl⟩) | (go_at_call 110; go_fit (YR _); rintro e w' ⟨rfl, rfl⟩) | (go_at_call 90; (first | go_fit (Y _) | go_fit (O _) | go_fit (M _)); rintro e w' ⟨rfl, rfl⟩) | (go_at_call 111; (first | go_fit (P1 _) | go_fit (P2 _)); rintro e w' ⟨rfl, rfl⟩) | (go_at_call 91; (first | go_fit (RW _) | go_fit (RD _)); rintro e w' ⟨rfl, rfl⟩))
                  go_ret2
                  exact ⟨rfl, rfl⟩
              · go_enter Tryz.func93, Tryz.ntmps93
                go_wp2_with (first | (go_at_call 105; go_fit (S _); rintro e w' ⟨rfl, rfl⟩) | (go_at_call 107; go_fit (G _); rintro e w' ⟨rfl, rfl⟩) | (go_at_call 108; go_fit (D _); rintro e w' ⟨rfl, rfl⟩) | (go_at_call 109; go_fit (E _); rintro e w' ⟨rfl, rfl⟩) | (go_at_call 110; go_fit (YR _); rintro e w' ⟨rfl, rfl⟩) | (go_at_call 90; (first | go_fit (Y _) | go_fit (O _) | go_fit (M _)); rintro e w' ⟨rfl, rfl⟩) | (go_at_call 111; (first | go_fit (P1 _) | go_fit (P2 _)); rintro e w' ⟨rfl, rfl⟩) | (go_at_call 91; (first | go_fit (RW _) | go_fit (RD _)); rintro e w' ⟨rfl, rfl⟩))
                go_ret2
                exact ⟨rfl, rfl⟩
            · go_enter Tryz.func93, Tryz.ntmps93
              go_wp2_with (first | (go_at_call 105; go_fit (S _); rintro e w' ⟨rfl, rfl⟩) | (go_at_call 107; go_fit (G _); rintro e w' ⟨rfl, rfl⟩) | (go_at_call 108; go_fit (D _); rintro e w' ⟨rfl, rfl⟩) | (go_at_call 109; go_fit (E _); rintro e w' ⟨rfl, rfl⟩) | (go_at_call 110; go_fit (YR _); rintro e w' ⟨rfl, rfl⟩) | (go_at_call 90; (first | go_fit (Y _) | go_fit (O _) | go_fit (M _)); rintro e w' ⟨rfl, rfl⟩) | (go_at_call 111; (first | go_fit (P1 _) | go_fit (P2 _)); rintro e w' ⟨rfl, rfl⟩) | (go_at_call 91; (first | go_fit (RW _) | go_fit (RD _)); rintro e w' ⟨rfl, rfl⟩))
              go_ret2
              exact ⟨rfl, rfl⟩
          · go_enter Tryz.func93, Tryz.ntmps93
            go_wp2_with (first | (go_at_call 105; go_fit (S _); rintro e w' ⟨rfl, rfl⟩) | (go_at_call 107; go_fit (G _); rintro e w' ⟨rfl, rfl⟩) | (go_at_call 108; go_fit (D _); rintro e w' ⟨rfl, rfl⟩) | (go_at_call 109; go_fit (E _); rintro e w' ⟨rfl, rfl⟩) | (go_at_call 110; go_fit (YR _); rintro e w' ⟨rfl, rfl⟩) | (go_at_call 90; (first | go_fit (Y _) | go_fit (O _) | go_fit (M _)); rintro e w' ⟨rfl, rfl⟩) | (go_at_call 111; (first | go_fit (P1 _) | go_fit (P2 _)); rintro e w' ⟨rfl, rfl⟩) | (go_at_call 91; (first | go_fit (RW _) | go_fit (RD _)); rintro e w' ⟨rfl, rfl⟩))
            go_ret2
            exact ⟨rfl, rfl⟩
        · go_enter Tryz.func93, Tryz.ntmps93
          go_wp2_with (first | (go_at_call 105; go_fit (S _); rintro e w' ⟨rfl, rfl⟩) | (go_at_call 107; go_fit (G _); rintro e w' ⟨rfl, rfl⟩) | (go_at_call 108; go_fit (D _); rintro e w' ⟨rfl, rfl⟩) | (go_at_call 109; go_fit (E _); rintro e w' ⟨rfl, rfl⟩) | (go_at_call 110; go_fit (YR _); rintro e w' ⟨rfl, rfl⟩) | (go_at_call 90; (first | go_fit (Y _) | go_fit (O _) | go_fit (M _)); rintro e w' ⟨rfl, rfl⟩) | (go_at_call 111; (first | go_fit (P1 _) | go_fit (P2 _)); rintro e w' ⟨rfl, rfl⟩) | (go_at_call 91; (first | go_fit (RW _) | go_fit (RD _)); rintro e w' ⟨rfl, rfl⟩))
          go_ret2
          exact ⟨rfl, rfl⟩
      · go_enter Tryz.func93, Tryz.ntmps93
        go_wp2_with (first | (go_at_call 105; go_fit (S _); rintro e w' ⟨rfl, rfl⟩) | (go_at_call 107; go_fit (G _); rintro e w' ⟨rfl, rfl⟩) | (go_at_call 108; go_fit (D _); rintro e w' ⟨rfl, rfl⟩) | (go_at_call 109; go_fit (E _); rintro e w' ⟨rfl, rfl⟩) | (go_at_call 110; go_fit (YR _); rintro e w' ⟨rfl, rfl⟩) | (go_at_call 90; (first | go_fit (Y _) | go_fit (O _) | go_fit (M _)); rintro e w' ⟨rfl, rfl⟩) | (go_at_call 111; (first | go_fit (P1 _) | go_fit (P2 _)); rintro e w' ⟨rfl, rfl⟩) | (go_at_call 91; (first | go_fit (RW _) | go_fit (RD _)); rintro e w' ⟨rfl, rfl⟩))
        go_ret2
        exact ⟨rfl, rfl⟩
    · go_enter Tryz.func93, Tryz.ntmps93
      go_wp2_with (first | (go_at_call 105; go_fit (S _); rintro e w' ⟨rfl, rfl⟩) | (go_at_call 107; go_fit (G _); rintro e w' ⟨rfl, rfl⟩) | (go_at_call 108; go_fit (D _); rintro e w' ⟨rfl, rfl⟩) | (go_at_call 109; go_fit (E _); rintro e w' ⟨rfl, rfl⟩) | (go_at_call 110; go_fit (YR _); rintro e w' ⟨rfl, rfl⟩) | (go_at_call 90; (first | go_fit (Y _) | go_fit (O _) | go_fit (M _)); rintro e w' ⟨rfl, rfl⟩) | (go_at_call 111; (first | go_fit (P1 _) | go_fit (P2 _)); rintro e w' ⟨rfl, rfl⟩) | (go_at_call 91; (first | go_fit (RW _) | go_fit (RD _)); rintro e w' ⟨rfl, rfl⟩))
      go_ret2
      exact ⟨rfl, rfl⟩
  · go_enter Tryz.func93, Tryz.ntmps93
    go_wp2_with (first | (go_at_call 105; go_fit (S _); rintro e w' ⟨rfl, rfl⟩) | (go_at_call 107; go_fit (G _); rintro e w' ⟨rfl, rfl⟩) | (go_at_call 108; go_fit (D _); rintro e w' ⟨rfl, rfl⟩) | (go_at_call 109; go_fit (E _); rintro e w' ⟨rfl, rfl⟩) | (go_at_call 110; go_fit (YR _); rintro e w' ⟨rfl, rfl⟩) | (go_at_call 90; (first | go_fit (Y _) | go_fit (O _) | go_fit (M _)); rintro e w' ⟨rfl, rfl⟩) | (go_at_call 111; (first | go_fit (P1 _) | go_fit (P2 _)); rintro e w' ⟨rfl, rfl⟩) | (go_at_call 91; (first | go_fit (RW _) | go_fit (RD _)); rintro e w' ⟨rfl, rfl⟩))
    go_ret2
    exact ⟨rfl, rfl⟩
end
end Go.Proofs.YtaojalicnnnkmaaGreatDoor
/- Package lex: what piece tells is what the document says stands next. Nothing here is walked but by contract. -/
namespace Go.Proofs.YtaojalicnnnkmaaGreatDoor
open Go.RowKit
set_option linter.unusedVariables false

def pieceK (l : List UInt8) (i : Nat) (c : UInt8) : Nat × Nat :=
  pieceP (smallB c) (greatB c) (digitB c) (c == 39) (endK l i) (symB c) (soloB c) (Lib.hasPrefix (l.drop i) [91, 93]) (Lib.hasPrefix (l.drop i) [123, 125]) (markB c) i (i + twK wordB l i) (i + twK digitB l i) (i + symK l i)
theorem piece_any (s : ByteArray) (i : Nat) (w : World) (hi : i < s.size) (hs : s.size ≤ 140737488351232) : Calls Tryz.prog 93 #[.string s, .int .i64 i] w fun e w' => e = .returned (pairV (pieceK (bl s) i s[i])) ∧ w = w' := by
  have hx : bl (s.extract i s.size) = (bl s).drop i := sub_bl s i (by omega)
  refine piece_core w hi hs (fun w => small_any _ w) (fun w => great_any _ w) (fun w => digit_any _ w) ?_ (fun w => ends_any s i w hi hs) (fun w => sym_any _ w) (fun w => solo_any _ w) (fun w => ?_) (fun w => ?_) (fun w => mark_any _ w)
    (fun w => run_word s i w (by omega) hs) (fun w => run_digit s i w (by omega) hs) (fun w => symbols_any s i w (by omega) hs)
  · rw [Bool.eq_iff_iff]
    simp only [beq_iff_eq]
    constructor
    · intro h; exact i64_u8 (by rw [h]; rfl)
    · intro h; rw [h]; rfl
  · have := prefix_any (s.extract i s.size) ⟨#[91, 93]⟩ w
    rw [hx] at this
    exact this
  · have := prefix_any (s.extract i s.size) ⟨#[123, 125]⟩ w
    rw [hx] at this
    exact this
theorem tw_take (p : UInt8 → Bool) : ∀ l : List UInt8, (l.take (l.takeWhile p).length).all p = true
  | [] => by simp
  | c :: r => by
    rw [List.takeWhile_cons]
    by_cases h : p c = true
    · rw [if_pos h]
      simp only [List.length_cons, List.take_succ_cons, List.all_cons, h, Bool.true_and]
      exact tw_take p r
    · rw [if_neg h]
      simp
/-- What stands next, by its kind. -/
theorem piece_next {l : List UInt8} {i : Nat} (h : i < l.length) (hns : ∀ k, nextC l[i] (l.drop (i + 1)) ≠ .skip k) :
    (∃ k, 1 ≤ k ∧ i + k ≤ l.length ∧ pieceK l i l[i] = (1, i + k) ∧ nextC l[i] (l.drop (i + 1)) = nameB k (l.drop i)) ∨
    (pieceK l i l[i] = (2, i) ∧ nextC l[i] (l.drop (i + 1)) = (match quoB (l.drop (i + 1)) with | none => .bad false | some p => if decide (p.1.length ≤ 64) then tokB 2 p.1 0 (p.2 + 1) (l.drop i) else .bad true)) ∨
    (∃ k, 1 ≤ k ∧ i + k ≤ l.length ∧ pieceK l i l[i] = (3, i + k) ∧ nextC l[i] (l.drop (i + 1)) = tokB 3 ((l.drop i).take k) 0 k (l.drop i)) ∨
    (∃ k, 1 ≤ k ∧ i + k ≤ l.length ∧ ((l.drop i).take k).all digitB = true ∧ pieceK l i l[i] = (4, i + k) ∧ nextC l[i] (l.drop (i + 1)) = if decide (numB ((l.drop i).take k) ≤ 9223372036854775807) then tokB 4 [] (numB ((l.drop i).take k)) k (l.drop i) else .bad true) ∨
    (pieceK l i l[i] = (5, i + 1) ∧ nextC l[i] (l.drop (i + 1)) = tokB 5 ((l.drop i).take 1) 0 1 (l.drop i)) ∨
    (pieceK l i l[i] = (6, i + 1) ∧ nextC l[i] (l.drop (i + 1)) = tokB 6 [] 0 1 (l.drop i)) ∨
    (pieceK l i l[i] = (0, i) ∧ nextC l[i] (l.drop (i + 1)) = .bad false) := by
  have hd := drop_at h
  have he := endK_at h
  have hw : wordB l[i] = (smallB l[i] || greatB l[i] || digitB l[i]) := rfl
  have htw := tw_max wordB l i (by omega)
  have htd := tw_max digitB l i (by omega)
  have hsy : symK l i ≤ l.length - i := by
    have := sym_le (l.drop i)
    rw [List.length_drop] at this
    exact this
  have hsk : symK l i = symRun (l[i] :: l.drop (i + 1)) := by unfold symK; rw [hd]
  have htk : ∀ p : UInt8 → Bool, p l[i] = true → twK p l i = ((l.drop (i + 1)).takeWhile p).length + 1 := fun p hp => tw_in h hp
  unfold pieceK pieceP
  generalize hc : l[i] = c at *
  generalize hr : l.drop (i + 1) = r at *
  have hns' := hns
  unfold nextC at hns ⊢
  by_cases h1 : blankB c = true
  · rw [if_pos h1] at hns; exact absurd rfl (hns 1)
  rw [if_neg h1]
  rw [if_neg h1] at hns
  by_cases h2 : (c == 37) = true
  · rw [if_pos h2] at hns; exact absurd rfl (hns _)
  rw [if_neg h2]
  clear hns
  by_cases h3 : smallB c = true
  · left
    have hp : wordB c = true := by rw [hw, h3]; rfl
    refine ⟨twK wordB l i, by rw [htk _ hp]; omega, htw, by rw [if_pos h3], ?_⟩
    rw [if_pos h3, htk _ hp, hd]
  rw [if_neg h3, if_neg h3]
  by_cases h4 : greatB c = true
  · right; right; left
    have hp : wordB c = true := by rw [hw, h4]; simp
    refine ⟨twK wordB l i, by rw [htk _ hp]; omega, htw, by rw [if_pos h4], ?_⟩
    rw [if_pos h4, htk _ hp, hd]
  rw [if_neg h4, if_neg h4]
  by_cases h5 : digitB c = true
  · right; right; right; left
    refine ⟨twK digitB l i, by rw [htk _ h5]; omega, htd, tw_take digitB (l.drop i), by rw [if_pos h5], ?_⟩
    rw [if_pos h5, htk _ h5, hd]
  rw [if_neg h5, if_neg h5]
  by_cases h6 : (c == 39) = true
  · right; left
    refine ⟨by rw [if_pos h6], ?_⟩
    rw [if_pos h6, hd]
    cases quoB r <;> rfl
  rw [if_neg h6, if_neg h6]
  by_cases h7 : (c == 46 && endB r) = true
  · right; right; right; right; right; left
    rw [he, h7]
    refine ⟨by rw [if_pos rfl], ?_⟩
    rw [if_pos rfl, hd]
  rw [he, if_neg h7, if_neg h7]
  by_cases h8 : symB c = true
  · left
    refine ⟨symK l i, by rw [hsk]; exact sym_pos h8 h7, by omega, by rw [if_pos h8], ?_⟩
    rw [if_pos h8, hd, hsk]
  rw [if_neg h8, if_neg h8]
  by_cases h9 : (c == 59 || c == 33) = true
  · left
    refine ⟨1, Nat.le_refl _, by omega, by rw [if_pos (show soloB c = true from h9)], ?_⟩
    rw [if_pos h9, hd]
  rw [if_neg h9, if_neg (show ¬ soloB c = true from h9)]
  have hpp : (Lib.hasPrefix (l.drop i) [91, 93] || Lib.hasPrefix (l.drop i) [123, 125]) = ((c == 91 && r.head? == some 93) || (c == 123 && r.head? == some 125)) := by
    rw [hd]
    have one : ∀ a b : UInt8, Lib.hasPrefix (c :: r) [a, b] = (c == a && r.head? == some b) := fun a b => by
      unfold Lib.hasPrefix
      cases r with
      | nil => simp [List.isPrefixOf]
      | cons x r =>
        simp only [List.isPrefixOf, Bool.and_true, List.head?_cons]
        rw [Bool.eq_iff_iff]
        simp only [Bool.and_eq_true, beq_iff_eq, Option.some.injEq]
        constructor
        · rintro ⟨h1, h2⟩; exact ⟨h1.symm, h2.symm⟩
        · rintro ⟨h1, h2⟩; exact ⟨h1.symm, h2.symm⟩
    rw [one, one]
  rw [hpp]
  by_cases h10 : ((c == 91 && r.head? == some 93) || (c == 123 && r.head? == some 125)) = true
  · left
    have hl : 1 ≤ r.length := by
      cases r with
      | nil => simp at h10
      | cons x r => simp
    refine ⟨2, by omega, ?_, by rw [if_pos h10], ?_⟩
    · rw [← hr, List.length_drop] at hl; omega
    · rw [if_pos h10, hd]
  rw [if_neg h10, if_neg h10]
  by_cases h11 : [40, 41, 91, 93, 123, 125, 44, 124].contains c = true
  · right; right; right; right; left
    refine ⟨by rw [if_pos (show markB c = true from h11)], ?_⟩
    rw [if_pos h11, hd]
    rfl
  rw [if_neg h11, if_neg (show ¬ markB c = true from h11)]
  right; right; right; right; right; right
  exact ⟨rfl, rfl⟩
end Go.Proofs.YtaojalicnnnkmaaGreatDoor
/- Package lex: a token. -/
namespace Go.Proofs.YtaojalicnnnkmaaGreatDoor
open Go.RowKit
set_option linter.unusedVariables false

theorem results_cell3 {fn : Func} {p u v : Tmp} {ty : TypeId} (h : fn.results = #[.cell p ty, .tmp u, .tmp v]) (tmps : Array Value) (P : Program) (w : World) :
    (results fn tmps).run P w =
      ((asAddr (tmps.getD p undef)).run P w).andThen fun a w₁ => ((loadVar ty a).run P w₁).andThen fun x w₂ => .ok (.tuple #[x, tmps.getD u undef, tmps.getD v undef]) w₂ := by
  simp only [results, h]
  simp [Sem.run_bind, Result.andThen]
def tokV (t : TokB) (i : Nat) : Value := .agg #[.int .i64 (t.kind : Int), .string ⟨t.text.toArray⟩, .int .i64 (t.n : Int), .bool t.opens, .int .i64 (i : Int)]
def zeroV : Value := .agg #[.int .i64 0, .string ⟨#[]⟩, .int .i64 0, .bool false, .int .i64 0]
/-- What token answers. -/
def tokenV (i : Nat) : NextB → Value
  | .tok t => .tuple #[tokV t i, .int .i64 ((i + t.len : Nat) : Int), .int .i64 0]
  | .bad true => .tuple #[zeroV, .int .i64 0, .int .i64 3]
  | _ => .tuple #[zeroV, .int .i64 0, .int .i64 2]
theorem token_none {s : ByteArray} {i : Nat} (w : World) (hi : i < s.size) (hs : s.size ≤ 140737488351232)
    (P : ∀ w, Calls Tryz.prog 93 #[.string s, .int .i64 i] w fun e w' => e = .returned (.tuple #[.int .i64 0, .int .i64 (i : Int)]) ∧ w = w') :
    Calls Tryz.prog 78 #[.string s, .int .i64 i] w fun e w' => e = .returned (tokenV i (.bad false)) ∧ Below w.heap.size w w' := by
  go_enter Tryz.func78, Tryz.ntmps78
  (go_wp2_with fail; go_fit (P _); rintro e w' ⟨rfl, rfl⟩)
  go_wp2
  (try simp only [Exit.inBlock, Exit.then])
  refine bodyPost_ret (v := tokenV i (.bad false)) (by rw [results_cell3 rfl]; go_simp; rfl) rfl ⟨rfl, ?_⟩
  repeat' (first | with_reducible exact Below.refl _ _ | (with_reducible refine Below.setCell ?_ ?_ _) | (with_reducible refine Below.alloc ?_ ?_ _) | (simp; done) | (simp; omega))
/-- A '(' stands at this place. -/
def OpenAt (s : ByteArray) (b : Nat) (o : Bool) : Prop := (b = s.size ∧ o = false) ∨ ∃ h : b < s.size, ((s[b].toNat : Int) == 40) = o
set_option maxHeartbeats 4000000 in
theorem token_text {s : ByteArray} {i b : Nat} (κ : Nat) (hκ : κ = 1 ∨ κ = 3 ∨ κ = 5) (w : World) (hi : i < s.size) (hs : s.size ≤ 140737488351232) (hb : i < b) (hbs : b ≤ s.size) (h64 : κ = 1 → b - i ≤ 64) (o : Bool) (ho : OpenAt s b o)
    (P : ∀ w, Calls Tryz.prog 93 #[.string s, .int .i64 i] w fun e w' => e = .returned (.tuple #[.int .i64 (κ : Int), .int .i64 (b : Int)]) ∧ w = w') :
    Calls Tryz.prog 78 #[.string s, .int .i64 i] w fun e w' => e = .returned (.tuple #[.agg #[.int .i64 (κ : Int), .string (s.extract i b), .int .i64 0, .bool o, .int .i64 (i : Int)], .int .i64 (b : Int), .int .i64 0]) ∧ Below w.heap.size w w' := by
  have hsz : (s.extract i b).size = b - i := by simp; omega
  rcases hκ with rfl | rfl | rfl
  · have h65 := h64 rfl
    clear h64
    rcases ho with ⟨rfl, rfl⟩ | ⟨hlt, ho⟩
    · go_enter Tryz.func78, Tryz.ntmps78
      (go_wp2_with fail; go_fit (P _); rintro e w' ⟨rfl, rfl⟩)
      go_wp2
      (try simp only [Exit.inBlock, Exit.then])
      refine bodyPost_ret (v := .tuple #[.agg #[.int .i64 1, .string (s.extract i s.size), .int .i64 0, .bool false, .int .i64 (i : Int)], .int .i64 (s.size : Int), .int .i64 0]) (by rw [results_cell3 rfl]; go_simp) rfl ⟨rfl, ?_⟩
      repeat' (first | with_reducible exact Below.refl _ _ | (with_reducible refine Below.setCell ?_ ?_ _) | (with_reducible refine Below.alloc ?_ ?_ _) | (simp; done) | (simp; omega))
    · cases o
      · go_enter Tryz.func78, Tryz.ntmps78
        (go_wp2_with fail; go_fit (P _); rintro e w' ⟨rfl, rfl⟩)
        go_wp2
        (try simp only [Exit.inBlock, Exit.then])
        refine bodyPost_ret (v := .tuple #[.agg #[.int .i64 1, .string (s.extract i b), .int .i64 0, .bool false, .int .i64 (i : Int)], .int .i64 (b : Int), .int .i64 0]) (by rw [results_cell3 rfl]; go_simp) rfl ⟨rfl, ?_⟩
        repeat' (first | with_reducible exact Below.refl _ _ | (with_reducible refine Below.setCell ?_ ?_ _) | (with_reducible refine Below.alloc ?_ ?_ _) | (simp; done) | (simp; omega))
      · have ho' := eq_of_beq ho
        clear ho
        go_enter Tryz.func78, Tryz.ntmps78
        (go_wp2_with fail; go_fit (P _); rintro e w' ⟨rfl, rfl⟩)
        go_wp2
        (try simp only [Exit.inBlock, Exit.then])
        refine bodyPost_ret (v := .tuple #[.agg #[.int .i64 1, .string (s.extract i b), .int .i64 0, .bool true, .int .i64 (i : Int)], .int .i64 (b : Int), .int .i64 0]) (by rw [results_cell3 rfl]; go_simp) rfl ⟨rfl, ?_⟩
        repeat' (first | with_reducible exact Below.refl _ _ | (with_reducible refine Below.setCell ?_ ?_ _) | (with_reducible refine Below.alloc ?_ ?_ _) | (simp; done) | (simp; omega))
  · clear h64
    rcases ho with ⟨rfl, rfl⟩ | ⟨hlt, ho⟩
    · go_enter Tryz.func78, Tryz.ntmps78
      (go_wp2_with fail; go_fit (P _); rintro e w' ⟨rfl, rfl⟩)
      go_wp2
      (try simp only [Exit.inBlock, Exit.then])
      refine bodyPost_ret (v := .tuple #[.agg #[.int .i64 3, .string (s.extract i s.size), .int .i64 0, .bool false, .int .i64 (i : Int)], .int .i64 (s.size : Int), .int .i64 0]) (by rw [results_cell3 rfl]; go_simp) rfl ⟨rfl, ?_⟩
      repeat' (first | with_reducible exact Below.refl _ _ | (with_reducible refine Below.setCell ?_ ?_ _) | (with_reducible refine Below.alloc ?_ ?_ _) | (simp; done) | (simp; omega))
    · cases o
      · go_enter Tryz.func78, Tryz.ntmps78
        (go_wp2_with fail; go_fit (P _); rintro e w' ⟨rfl, rfl⟩)
        go_wp2
        (try simp only [Exit.inBlock, Exit.then])
        refine bodyPost_ret (v := .tuple #[.agg #[.int .i64 3, .string (s.extract i b), .int .i64 0, .bool false, .int .i64 (i : Int)], .int .i64 (b : Int), .int .i64 0]) (by rw [results_cell3 rfl]; go_simp) rfl ⟨rfl, ?_⟩
        repeat' (first | with_reducible exact Below.refl _ _ | (with_reducible refine Below.setCell ?_ ?_ _) | (with_reducible refine Below.alloc ?_ ?_ _) | (simp; done) | (simp; omega))
      · have ho' := eq_of_beq ho
        clear ho
        go_enter Tryz.func78, Tryz.ntmps78
        (go_wp2_with fail; go_fit (P _); rintro e w' ⟨rfl, rfl⟩)
        go_wp2
        (try simp only [Exit.inBlock, Exit.then])
        refine bodyPost_ret (v := .tuple #[.agg #[.int .i64 3, .string (s.extract i b), .int .i64 0, .bool true, .int .i64 (i : Int)], .int .i64 (b : Int), .int .i64 0]) (by rw [results_cell3 rfl]; go_simp) rfl ⟨rfl, ?_⟩
        repeat' (first | with_reducible exact Below.refl _ _ | (with_reducible refine Below.setCell ?_ ?_ _) | (with_reducible refine Below.alloc ?_ ?_ _) | (simp; done) | (simp; omega))
  · clear h64
    rcases ho with ⟨rfl, rfl⟩ | ⟨hlt, ho⟩
    · go_enter Tryz.func78, Tryz.ntmps78
      (go_wp2_with fail; go_fit (P _); rintro e w' ⟨rfl, rfl⟩)
      go_wp2
      (try simp only [Exit.inBlock, Exit.then])
      refine bodyPost_ret (v := .tuple #[.agg #[.int .i64 5, .string (s.extract i s.size), .int .i64 0, .bool false, .int .i64 (i : Int)], .int .i64 (s.size : Int), .int .i64 0]) (by rw [results_cell3 rfl]; go_simp) rfl ⟨rfl, ?_⟩
      repeat' (first | with_reducible exact Below.refl _ _ | (with_reducible refine Below.setCell ?_ ?_ _) | (with_reducible refine Below.alloc ?_ ?_ _) | (simp; done) | (simp; omega))
    · cases o
      · go_enter Tryz.func78, Tryz.ntmps78
        (go_wp2_with fail; go_fit (P _); rintro e w' ⟨rfl, rfl⟩)
        go_wp2
        (try simp only [Exit.inBlock, Exit.then])
        refine bodyPost_ret (v := .tuple #[.agg #[.int .i64 5, .string (s.extract i b), .int .i64 0, .bool false, .int .i64 (i : Int)], .int .i64 (b : Int), .int .i64 0]) (by rw [results_cell3 rfl]; go_simp) rfl ⟨rfl, ?_⟩
        repeat' (first | with_reducible exact Below.refl _ _ | (with_reducible refine Below.setCell ?_ ?_ _) | (with_reducible refine Below.alloc ?_ ?_ _) | (simp; done) | (simp; omega))
      · have ho' := eq_of_beq ho
        clear ho
        go_enter Tryz.func78, Tryz.ntmps78
        (go_wp2_with fail; go_fit (P _); rintro e w' ⟨rfl, rfl⟩)
        go_wp2
        (try simp only [Exit.inBlock, Exit.then])
        refine bodyPost_ret (v := .tuple #[.agg #[.int .i64 5, .string (s.extract i b), .int .i64 0, .bool true, .int .i64 (i : Int)], .int .i64 (b : Int), .int .i64 0]) (by rw [results_cell3 rfl]; go_simp) rfl ⟨rfl, ?_⟩
        repeat' (first | with_reducible exact Below.refl _ _ | (with_reducible refine Below.setCell ?_ ?_ _) | (with_reducible refine Below.alloc ?_ ?_ _) | (simp; done) | (simp; omega))
set_option maxHeartbeats 4000000 in
theorem token_long {s : ByteArray} {i b : Nat} (w : World) (hi : i < s.size) (hs : s.size ≤ 140737488351232) (hb : i < b) (hbs : b ≤ s.size) (h64 : ¬ b - i ≤ 64)
    (P : ∀ w, Calls Tryz.prog 93 #[.string s, .int .i64 i] w fun e w' => e = .returned (.tuple #[.int .i64 1, .int .i64 (b : Int)]) ∧ w = w') :
    Calls Tryz.prog 78 #[.string s, .int .i64 i] w fun e w' => e = .returned (tokenV i (.bad true)) ∧ Below w.heap.size w w' := by
  have hsz : (s.extract i b).size = b - i := by simp; omega
  go_enter Tryz.func78, Tryz.ntmps78
  (go_wp2_with fail; go_fit (P _); rintro e w' ⟨rfl, rfl⟩)
  go_wp2
  (try simp only [Exit.inBlock, Exit.then])
  refine bodyPost_ret (v := tokenV i (.bad true)) (by rw [results_cell3 rfl]; go_simp; rfl) rfl ⟨rfl, ?_⟩
  repeat' (first | with_reducible exact Below.refl _ _ | (with_reducible refine Below.setCell ?_ ?_ _) | (with_reducible refine Below.alloc ?_ ?_ _) | (simp; done) | (simp; omega))
set_option maxHeartbeats 4000000 in
theorem token_end {s : ByteArray} {i : Nat} (w : World) (hi : i < s.size) (hs : s.size ≤ 140737488351232) (o : Bool) (ho : OpenAt s (i + 1) o)
    (P : ∀ w, Calls Tryz.prog 93 #[.string s, .int .i64 i] w fun e w' => e = .returned (.tuple #[.int .i64 6, .int .i64 ((i : Int) + 1)]) ∧ w = w') :
    Calls Tryz.prog 78 #[.string s, .int .i64 i] w fun e w' => e = .returned (.tuple #[.agg #[.int .i64 6, .string ⟨#[]⟩, .int .i64 0, .bool o, .int .i64 (i : Int)], .int .i64 ((i : Int) + 1), .int .i64 0]) ∧ Below w.heap.size w w' := by
  rcases ho with ⟨hlt, rfl⟩ | ⟨hlt, ho⟩
  · go_enter Tryz.func78, Tryz.ntmps78
    (go_wp2_with fail; go_fit (P _); rintro e w' ⟨rfl, rfl⟩)
    go_wp2
    (try simp only [Exit.inBlock, Exit.then])
    refine bodyPost_ret (v := .tuple #[.agg #[.int .i64 6, .string ⟨#[]⟩, .int .i64 0, .bool false, .int .i64 (i : Int)], .int .i64 ((i : Int) + 1), .int .i64 0]) (by rw [results_cell3 rfl]; go_simp) rfl ⟨rfl, ?_⟩
    repeat' (first | with_reducible exact Below.refl _ _ | (with_reducible refine Below.setCell ?_ ?_ _) | (with_reducible refine Below.alloc ?_ ?_ _) | (simp; done) | (simp; omega))
  · cases o
    · go_enter Tryz.func78, Tryz.ntmps78
      (go_wp2_with fail; go_fit (P _); rintro e w' ⟨rfl, rfl⟩)
      go_wp2
      (try simp only [Exit.inBlock, Exit.then])
      refine bodyPost_ret (v := .tuple #[.agg #[.int .i64 6, .string ⟨#[]⟩, .int .i64 0, .bool false, .int .i64 (i : Int)], .int .i64 ((i : Int) + 1), .int .i64 0]) (by rw [results_cell3 rfl]; go_simp) rfl ⟨rfl, ?_⟩
      repeat' (first | with_reducible exact Below.refl _ _ | (with_reducible refine Below.setCell ?_ ?_ _) | (with_reducible refine Below.alloc ?_ ?_ _) | (simp; done) | (simp; omega))
    · have ho' := eq_of_beq ho
      clear ho
      go_enter Tryz.func78, Tryz.ntmps78
      (go_wp2_with fail; go_fit (P _); rintro e w' ⟨rfl, rfl⟩)
      go_wp2
      (try simp only [Exit.inBlock, Exit.then])
      refine bodyPost_ret (v := .tuple #[.agg #[.int .i64 6, .string ⟨#[]⟩, .int .i64 0, .bool true, .int .i64 (i : Int)], .int .i64 ((i : Int) + 1), .int .i64 0]) (by rw [results_cell3 rfl]; go_simp) rfl ⟨rfl, ?_⟩
      repeat' (first | with_reducible exact Below.refl _ _ | (with_reducible refine Below.setCell ?_ ?_ _) | (with_reducible refine Below.alloc ?_ ?_ _) | (simp; done) | (simp; omega))
set_option maxHeartbeats 4000000 in
theorem token_quote {s : ByteArray} {i : Nat} (w : World) (hi : i < s.size) (hs : s.size ≤ 140737488351232)
    (P : ∀ w, Calls Tryz.prog 93 #[.string s, .int .i64 i] w fun e w' => e = .returned (.tuple #[.int .i64 2, .int .i64 (i : Int)]) ∧ w = w')
    (U : ∀ w, Calls Tryz.prog 94 #[.string s, .int .i64 i] w fun e w' => e = .returned (.tuple #[.string ⟨#[]⟩, .int .i64 0, .int .i64 2]) ∧ Below w.heap.size w w') :
    Calls Tryz.prog 78 #[.string s, .int .i64 i] w fun e w' => e = .returned (tokenV i (.bad false)) ∧ Below w.heap.size w w' := by
    go_enter Tryz.func78, Tryz.ntmps78
    (go_wp2_with fail; go_fit (P _); rintro e w' ⟨rfl, rfl⟩)
    (go_wp2_with fail; go_fit (U _); rintro e w1 ⟨rfl, hb1⟩)
    have c0 : w1.cell? ⟨w.heap.size, 0, none⟩ = some (.int .i64 0) := cell_later hb1 (by simp <;> omega)
    have c1 : w1.cell? ⟨w.heap.size, 1, none⟩ = some (.string ⟨#[]⟩) := cell_later hb1 (by simp <;> omega)
    have c2 : w1.cell? ⟨w.heap.size, 2, none⟩ = some (.int .i64 0) := cell_later hb1 (by simp <;> omega)
    have c3 : w1.cell? ⟨w.heap.size, 3, none⟩ = some (.bool false) := cell_later hb1 (by simp <;> omega)
    have c4 : w1.cell? ⟨w.heap.size, 4, none⟩ = some (.int .i64 0) := cell_later hb1 (by simp <;> omega)
    have d0 : w1.cell? ⟨w.heap.size + 1, 0, none⟩ = some (.int .i64 2) := cell_later hb1 (by simp <;> omega)
    have d1 : w1.cell? ⟨w.heap.size + 1, 1, none⟩ = some (.string ⟨#[]⟩) := cell_later hb1 (by simp <;> omega)
    have d2 : w1.cell? ⟨w.heap.size + 1, 2, none⟩ = some (.int .i64 0) := cell_later hb1 (by simp <;> omega)
    have d3 : w1.cell? ⟨w.heap.size + 1, 3, none⟩ = some (.bool false) := cell_later hb1 (by simp <;> omega)
    have d4 : w1.cell? ⟨w.heap.size + 1, 4, none⟩ = some (.int .i64 (i : Int)) := cell_later hb1 (by simp <;> omega)
    have f0 : ∀ j, w1.frozen? ⟨w.heap.size, j, none⟩ = false := fun j => (hb1.frozen (p := ⟨w.heap.size, j, none⟩) (by simp <;> omega)).trans (by simp)
    have f1 : ∀ j, w1.frozen? ⟨w.heap.size + 1, j, none⟩ = false := fun j => (hb1.frozen (p := ⟨w.heap.size + 1, j, none⟩) (by simp <;> omega)).trans (by simp)
    have hz1 : w.heap.size + 2 ≤ w1.heap.size := by have := hb1.size; simpa using this
    have HW := Lib.hid (show Below w.heap.size w w1 from (show Below w.heap.size w _ by repeat' (first | with_reducible exact Below.refl _ _ | (with_reducible refine Below.setCell ?_ ?_ _) | (with_reducible refine Below.alloc ?_ ?_ _) | (simp; done) | (simp; omega))).trans (hb1.mono (by simp; omega)))
    clear hb1
    go_wp2
    (try simp only [Exit.inBlock, Exit.then])
    refine bodyPost_ret (v := tokenV i (.bad false)) (by rw [results_cell3 rfl]; go_simp; rfl) rfl ⟨rfl, ?_⟩
    repeat' (first | with_reducible exact HW.out | (with_reducible refine Below.setCell ?_ ?_ _) | (with_reducible refine Below.alloc ?_ ?_ _) | (simp; done) | (simp; omega))
end Go.Proofs.YtaojalicnnnkmaaGreatDoor
