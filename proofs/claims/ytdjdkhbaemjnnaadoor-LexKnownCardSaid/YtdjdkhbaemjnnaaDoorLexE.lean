/- Package lex: what a letter behind a '\' stands for; the value of digits; rows of bytes. -/
import Derived.Test.YtdjdkhbaemjnnaaDoorLexD
import Derived.Test.YtdjdkhbaemjnnaaDoorLexN
import Derived.Laws.IdiomStrings
import Derived.Stop.Joined
import Derived.Lib.AtoiErrMem
import Derived.Lib.SmallJoins
import Derived.Test.YtdjdkhbaemjnnaaDoorOpen
namespace Go.Proofs.YtdjdkhbaemjnnaaDoor
open Go.RowKit
set_option linter.unusedVariables false

def escH : List UInt8 → Option UInt8
  | [] => none
  | d :: _ => escB d
theorem meant_empty (w : World) : Calls Tryd.prog 30 #[.string ⟨#[]⟩] w fun e w' => e = .returned (.tuple #[.int .u8 0, .bool false]) ∧ w = w' := by
  go_enter Tryd.func30, Tryd.ntmps30
  go_wp2
  go_ret2
  exact ⟨rfl, rfl⟩
theorem ne_of_pos {q : ByteArray} (h : 0 < q.size) : q.toList.isEmpty = false := by
  rw [Lib.toList_data]
  have h2 : q.data.toList.length = q.size := rfl
  cases hq : q.data.toList with
  | nil => rw [hq] at h2; simp at h2; omega
  | cons a r => rfl
theorem meant_some (q : ByteArray) (d : UInt8) (w : World) (h : escH (bl q) = some d) (hs : q.size ≤ 140737488351232) : Calls Tryd.prog 30 #[.string q] w fun e w' => e = .returned (.tuple #[.int .u8 d.toNat, .bool true]) ∧ w = w' := by
  have hp : 0 < q.size := by
    rcases Nat.eq_zero_or_pos q.size with h0 | h0
    · rw [bl_nil h0] at h; cases h
    · exact h0
  have hh : escB q[0] = some d := by
    have e : bl q = q[0] :: (bl q).drop 1 := by
      have := List.drop_eq_getElem_cons (l := bl q) (i := 0) hp
      rw [List.drop_zero] at this
      exact this
    rw [e] at h
    exact h
  have hne := ne_of_pos hp
  clear h
  unfold escB at hh
  split at hh
  · rename_i hc
    have hv : (q[0].toNat : Int) = 110 := by rw [show q[0] = 110 by simpa using hc]; rfl
    cases hh
    clear hc
    go_enter Tryd.func30, Tryd.ntmps30
    go_wp2
    go_ret2
    exact ⟨rfl, rfl⟩
  split at hh
  · rename_i hc
    have hv : (q[0].toNat : Int) = 116 := by rw [show q[0] = 116 by simpa using hc]; rfl
    cases hh
    clear hc
    go_enter Tryd.func30, Tryd.ntmps30
    go_wp2
    go_ret2
    exact ⟨rfl, rfl⟩
  split at hh
  · rename_i hc
    have hv : (q[0].toNat : Int) = 92 := by rw [show q[0] = 92 by simpa using hc]; rfl
    cases hh
    clear hc
    go_enter Tryd.func30, Tryd.ntmps30
    go_wp2
    go_ret2
    exact ⟨rfl, rfl⟩
  split at hh
  · rename_i hc
    have hv : (q[0].toNat : Int) = 39 := by rw [show q[0] = 39 by simpa using hc]; rfl
    cases hh
    clear hc
    go_enter Tryd.func30, Tryd.ntmps30
    go_wp2
    go_ret2
    exact ⟨rfl, rfl⟩
  · cases hh
theorem meant_none (q : ByteArray) (w : World) (h : escH (bl q) = none) (hs : q.size ≤ 140737488351232) : Calls Tryd.prog 30 #[.string q] w fun e w' => e = .returned (.tuple #[.int .u8 0, .bool false]) ∧ w = w' := by
  by_cases h0 : q.size = 0
  · obtain rfl : q = ⟨#[]⟩ := bl_inj (bl_nil h0)
    exact meant_empty w
  have hp : 0 < q.size := by omega
  have hh : escB q[0] = none := by
    have e : bl q = q[0] :: (bl q).drop 1 := by
      have := List.drop_eq_getElem_cons (l := bl q) (i := 0) hp
      rw [List.drop_zero] at this
      exact this
    rw [e] at h
    exact h
  have hne := ne_of_pos hp
  clear h
  unfold escB at hh
  cases h1 : (q[0] == 110)
  · cases h2 : (q[0] == 116)
    · cases h3 : (q[0] == 92)
      · cases h4 : (q[0] == 39)
        · have g1 := u8_ne h1
          have g2 := u8_ne h2
          have g3 := u8_ne h3
          have g4 := u8_ne h4
          have e1 : ((110 : UInt8).toNat : Int) = 110 := rfl
          have e2 : ((116 : UInt8).toNat : Int) = 116 := rfl
          have e3 : ((92 : UInt8).toNat : Int) = 92 := rfl
          have e4 : ((39 : UInt8).toNat : Int) = 39 := rfl
          rw [e1] at g1
          rw [e2] at g2
          rw [e3] at g3
          rw [e4] at g4
          clear hh h1 h2 h3 h4 e1 e2 e3 e4
          go_enter Tryd.func30, Tryd.ntmps30
          go_wp2
          go_ret2
          exact ⟨rfl, rfl⟩
        · rw [h1, h2, h3, h4] at hh; cases hh
      · rw [h1, h2, h3] at hh; cases hh
    · rw [h1, h2] at hh; cases hh
  · rw [h1] at hh; cases hh

theorem gRange : Tryd.prog.globalNamed "strconv.ErrRange" = some 2 := by kernel_rfl
/-- strconv's ErrRange is an error. -/
def Err (w : World) : Prop := ∃ tp p, w.var? Tryd.prog "strconv.ErrRange" = some #[.iface tp p]
theorem Err.ext {w w' : World} (h : Err w) (hb : Below w.heap.size w w') : Err w' := by
  obtain ⟨tp, p, h⟩ := h
  exact ⟨tp, p, Joins.var_stays gRange h hb (Nat.le_refl _)⟩
theorem parseInt_ok (s : ByteArray) {w : World} {v : Int} (hs : s.size ≤ 140737488351232) (h : Lib.parseIntB 64 (bl s) = .ok v) : Calls Tryd.prog 31 #[.string s, .int .i64 10, .int .i64 64] w fun e w' => e = .returned (.tuple #[.int .i64 v, .nilIface]) ∧ Below w.heap.size w w' :=
  (Tryd.strconv_ParseInt_10_at64_ok s (by omega) v h w).mono fun e w' h => ⟨h.1, by
    rcases h.2 with rfl | ⟨t, rfl⟩
    · exact Below.refl _ _
    · exact Lib.bytesWorld_below _ _ _⟩
theorem parseInt_range (s : ByteArray) {w : World} (he : Err w) (hs : s.size ≤ 140737488351232) (h : Lib.parseIntB 64 (bl s) = .range) : Calls Tryd.prog 31 #[.string s, .int .i64 10, .int .i64 64] w fun e w' => (∃ (x : Int) (t : TypeId) (q : Value), e = .returned (.tuple #[.int .i64 x, .iface t q])) ∧ Below w.heap.size w w' := by
  obtain ⟨tp, p, he⟩ := he
  refine (Tryd.strconv_ParseInt_10_at64_range_var s (by omega) h tp p w he).mono fun e w' h => ?_
  obtain ⟨N, h1, _, _, h4⟩ := h
  exact ⟨⟨_, _, _, h1⟩, h4⟩
theorem value_ok (s : ByteArray) {w : World} (hs : s.size ≤ 140737488351232) (hd : (bl s).all digitB = true) (hne : bl s ≠ []) (hv : numB (bl s) ≤ 9223372036854775807) : Calls Tryd.prog 21 #[.string s] w fun e w' => e = .returned (.tuple #[.int .i64 (numB (bl s)), .int .i64 0]) ∧ Below w.heap.size w w' := by
  have hp := int_val hd hne
  rw [if_pos hv] at hp
  have P := fun w => @parseInt_ok s w _ hs hp
  clear hp hd hne hv
  generalize numB (bl s) = n at P
  go_enter Tryd.func21, Tryd.ntmps21
  (go_wp2_with fail; go_fit (P _); rintro e w1 ⟨rfl, b1⟩)
  go_wp2
  go_ret2
  exact ⟨rfl, b1⟩
theorem value_over (s : ByteArray) {w : World} (he : Err w) (hs : s.size ≤ 140737488351232) (hd : (bl s).all digitB = true) (hne : bl s ≠ []) (hv : ¬ numB (bl s) ≤ 9223372036854775807) : Calls Tryd.prog 21 #[.string s] w fun e w' => e = .returned (.tuple #[.int .i64 0, .int .i64 3]) ∧ Below w.heap.size w w' := by
  have hp := int_val hd hne
  rw [if_neg hv] at hp
  have P := fun w h => @parseInt_range s w h hs hp
  clear hp hd hne hv
  go_enter Tryd.func21, Tryd.ntmps21
  (go_wp2_with fail; go_fit (P _ he); rintro e w1 ⟨⟨x, t, q, rfl⟩, b1⟩)
  go_wp2
  go_ret2
  exact ⟨rfl, b1⟩

/-- A row of bytes of the call's own. -/
def bytesV (l : List UInt8) : List Value := l.map fun c => .int .u8 (c.toNat : Int)
def RowB (w : World) (base : Nat) (v : Value) (l : List UInt8) : Prop := w.ownsRow base 5 1 v l.length (bytesV l)
theorem RowB.nil (w : World) (base : Nat) : RowB w base (.slice none 0 0) [] := World.ownsRow_nil _ _ _ _
theorem conv_row {w : World} {base : Nat} {v : Value} {l : List UInt8} (h : RowB w base v l) : (convert 37 9 v).run Tryd.prog w = .ok (.string ⟨l.toArray⟩) w := by
  rcases h.2 with ⟨rfl, h0⟩ | ⟨g, cap, cur, rfl, hg, hcur, h1, h2, h3, h4⟩
  · obtain rfl : l = [] := List.length_eq_zero_iff.1 h0
    have := run_convert_bytes_string (P := Tryd.prog) w 37 9 5 none 0 0 Tryd.underlying37 Tryd.underlying5 Tryd.underlying9
    rw [this]
    rfl
  · refine run_convert_bytes_back (P := Tryd.prog) w 37 9 5 ⟨g, 0, none⟩ cap l Tryd.underlying37 Tryd.underlying5 Tryd.underlying9 (fun j hj => ?_)
    rw [add_plain]
    simp only [World.cell?, hcur, Option.isSome_none]
    have h5 : (cur.toList.take (l.length * 1))[j]? = some (.int .u8 (l[j].toNat : Int)) := by
      rw [h4]
      simp [bytesV, List.getElem?_eq_getElem hj]
    rw [List.getElem?_take] at h5
    split at h5
    · simpa using h5
    · cases h5
end Go.Proofs.YtdjdkhbaemjnnaaDoor
