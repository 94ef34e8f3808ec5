/- Package lex: the kind of what begins at a place, and where it ends. -/
import Derived.Test.YtdjdkhbaemjnnaaDoorLexF
namespace Go.Proofs.YtdjdkhbaemjnnaaDoor
open Go.RowKit
set_option linter.unusedVariables false

def pieceP (bs bg bd q be y o p1 p2 m : Bool) (i rw_ rd rs : Nat) : Nat × Nat :=
  if bs then (1, rw_) else if bg then (3, rw_) else if bd then (4, rd) else if q then (2, i) else if be then (6, i + 1) else if y then (1, rs) else if o then (1, i + 1) else if p1 || p2 then (1, i + 2) else if m then (5, i + 1) else (0, i)
def pairV (p : Nat × Nat) : Value := .tuple #[.int .i64 (p.1 : Int), .int .i64 (p.2 : Int)]
section
set_option maxHeartbeats 800000
theorem piece_core {s : ByteArray} {i : Nat} (w : World) (hi : i < s.size) (hs : s.size ≤ 140737488351232) {bs bg bd q be y o p1 p2 m : Bool} {rw_ rd rs : Nat}
    (S : ∀ w, Calls Tryd.prog 23 #[.int .u8 s[i].toNat] w fun e w' => e = .returned (.bool bs) ∧ w = w')
    (G : ∀ w, Calls Tryd.prog 25 #[.int .u8 s[i].toNat] w fun e w' => e = .returned (.bool bg) ∧ w = w')
    (D : ∀ w, Calls Tryd.prog 26 #[.int .u8 s[i].toNat] w fun e w' => e = .returned (.bool bd) ∧ w = w')
    (Q : ((s[i].toNat : Int) == 39) = q)
    (E : ∀ w, Calls Tryd.prog 27 #[.string s, .int .i64 i] w fun e w' => e = .returned (.bool be) ∧ w = w')
    (Y : ∀ w, Calls Tryd.prog 16 #[.string ⟨#[43, 45, 42, 47, 92, 94, 60, 62, 61, 126, 58, 46, 63, 64, 35, 38, 36]⟩, .int .u8 s[i].toNat] w fun e w' => e = .returned (.bool y) ∧ w = w')
    (O : ∀ w, Calls Tryd.prog 16 #[.string ⟨#[59, 33]⟩, .int .u8 s[i].toNat] w fun e w' => e = .returned (.bool o) ∧ w = w')
    (P1 : ∀ w, Calls Tryd.prog 29 #[.string (s.extract i s.size), .string ⟨#[91, 93]⟩] w fun e w' => e = .returned (.bool p1) ∧ w = w')
    (P2 : ∀ w, Calls Tryd.prog 29 #[.string (s.extract i s.size), .string ⟨#[123, 125]⟩] w fun e w' => e = .returned (.bool p2) ∧ w = w')
    (M : ∀ w, Calls Tryd.prog 16 #[.string ⟨#[40, 41, 91, 93, 123, 125, 44, 124]⟩, .int .u8 s[i].toNat] w fun e w' => e = .returned (.bool m) ∧ w = w')
    (RW : ∀ w, Calls Tryd.prog 17 #[.string s, .int .i64 i, .func (.func 24) #[] #[]] w fun e w' => e = .returned (.int .i64 (rw_ : Int)) ∧ w = w')
    (RD : ∀ w, Calls Tryd.prog 17 #[.string s, .int .i64 i, .func (.func 26) #[] #[]] w fun e w' => e = .returned (.int .i64 (rd : Int)) ∧ w = w')
    (YR : ∀ w, Calls Tryd.prog 28 #[.string s, .int .i64 i] w fun e w' => e = .returned (.int .i64 (rs : Int)) ∧ w = w') :
    Calls Tryd.prog 19 #[.string s, .int .i64 i] w fun e w' => e = .returned (pairV (pieceP bs bg bd q be y o p1 p2 m i rw_ rd rs)) ∧ w = w' := by
  cases bs
  · cases bg
    · cases bd
      · cases q
        · cases be
          · cases y
            · cases o
              · cases p1
                · cases p2
                  · cases m
                    · go_enter Tryd.func19, Tryd.ntmps19
                      go_wp2_with (first | (go_at_call 23; go_fit (S _); rintro e w' ⟨rfl, rfl⟩) | (go_at_call 25; go_fit (G _); rintro e w' ⟨rfl, rfl⟩) | (go_at_call 26; go_fit (D _); rintro e w' ⟨rfl, rfl⟩) | (go_at_call 27; go_fit (E _); rintro e w' ⟨rfl, rfl⟩) | (go_at_call 28; go_fit (YR _); rintro e w' ⟨rfl, rfl⟩) | (go_at_call 16; (first | go_fit (Y _) | go_fit (O _) | go_fit (M _)); rintro e w' ⟨rfl, rfl⟩) | (go_at_call 29; (first | go_fit (P1 _) | go_fit (P2 _)); rintro e w' ⟨rfl, rfl⟩) | (go_at_call 17; (first | go_fit (RW _) | go_fit (RD _)); rintro e w' ⟨rfl, rfl⟩))
                      go_ret2
                      exact ⟨rfl, rfl⟩
                    · go_enter Tryd.func19, Tryd.ntmps19
                      go_wp2_with (first | (go_at_call 23; go_fit (S _); rintro e w' ⟨rfl, rfl⟩) | (go_at_call 25; go_fit (G _); rintro e w' ⟨rfl, rfl⟩) | (go_at_call 26; go_fit (D _); rintro e w' ⟨rfl, rfl⟩) | (go_at_call 27; go_fit (E _); rintro e w' ⟨rfl, rfl⟩) | (go_at_call 28; go_fit (YR _); rintro e w' ⟨rfl, rfl⟩) | (go_at_call 16; (first | go_fit (Y _) | go_fit (O _) | go_fit (M _)); rintro e w' ⟨rfl, rfl⟩) | (go_at_call 29; (first | go_fit (P1 _) | go_fit (P2 _)); rintro e w' ⟨rfl, rfl⟩) | (go_at_call 17; (first | go_fit (RW _) | go_fit (RD _)); rintro e w' ⟨rfl, rfl⟩))
                      go_ret2
                      exact ⟨rfl, rfl⟩
                  · go_enter Tryd.func19, Tryd.ntmps19
                    go_wp2_with (first | (go_at_call 23; go_fit (S _); rintro e w' ⟨rfl, rfl⟩) | (go_at_call 25; go_fit (G _); rintro e w' ⟨rfl, rfl⟩) | (go_at_call 26; go_fit (D _); rintro e w' ⟨rfl, rfl⟩) | (go_at_call 27; go_fit (E _); rintro e w' ⟨rfl, rfl⟩) | (go_at_call 28; go_fit (YR _); rintro e w' ⟨rfl, rfl⟩) | (go_at_call 16; (first | go_fit (Y _) | go_fit (O _) | go_fit (M _)); rintro e w' ⟨rfl, rfl⟩) | (go_at_call 29; (first | go_fit (P1 _) | go_fit (P2 _)); rintro e w' ⟨rfl, rfl⟩) | (go_at_call 17; (first | go_fit (RW _) | go_fit (RD _)); rintro e w' ⟨rfl, rfl⟩))
                    go_ret2
                    exact ⟨rfl, rfl⟩
                · go_enter Tryd.func19, Tryd.ntmps19
                  go_wp2_with (first | (go_at_call 23; go_fit (S _); rintro e w' ⟨rfl, rfl⟩) | (go_at_call 25; go_fit (G _); rintro e w' ⟨rfl, rfl⟩) | (go_at_call 26; go_fit (D _); rintro e w' ⟨rfl, rfl⟩) | (go_at_call 27; go_fit (E _); rintro e w' ⟨rfl, rfl⟩) | (go_at_call 28; go_fit (YR _); rintro e w' ⟨rfl, rfl⟩) | (go_at_call 16; (first | go_fit (Y _) | go_fit (O _) | go_fit (M _)); rintro e w' ⟨rfl, rfl⟩) | (go_at_call 29; (first | go_fit (P1 _) | go_fit (P2 _)); rintro e w' ⟨rfl, rfl⟩) | (go_at_call 17; (first | go_fit (RW _) | go_fit (RD _)); rintro e w' ⟨rfl, rfl⟩))
                  go_ret2
                  exact ⟨rfl, rfl⟩
              · go_enter Tryd.func19, Tryd.ntmps19
                go_wp2_with (first | (go_at_call 23; go_fit (S _); rintro e w' ⟨rfl, rfl⟩) | (go_at_call 25; go_fit (G _); rintro e w' ⟨rfl, rfl⟩) | (go_at_call 26; go_fit (D _); rintro e w' ⟨rfl, rfl⟩) | (go_at_call 27; go_fit (E _); rintro e w' ⟨rfl, rfl⟩) | (go_at_call 28; go_fit (YR _); rintro e w' ⟨rfl, rfl⟩) | (go_at_call 16; (first | go_fit (Y _) | go_fit (O _) | go_fit (M _)); rintro e w' ⟨rfl, rfl⟩) | (go_at_call 29; (first | go_fit (P1 _) | go_fit (P2 _)); rintro e w' ⟨rfl, rfl⟩) | (go_at_call 17; (first | go_fit (RW _) | go_fit (RD _)); rintro e w' ⟨rfl, rfl⟩))
                go_ret2
                exact ⟨rfl, rfl⟩
            · go_enter Tryd.func19, Tryd.ntmps19
              go_wp2_with (first | (go_at_call 23; go_fit (S _); rintro e w' ⟨rfl, rfl⟩) | (go_at_call 25; go_fit (G _); rintro e w' ⟨rfl, rfl⟩) | (go_at_call 26; go_fit (D _); rintro e w' ⟨rfl, rfl⟩) | (go_at_call 27; go_fit (E _); rintro e w' ⟨rfl, rfl⟩) | (go_at_call 28; go_fit (YR _); rintro e w' ⟨rfl, rfl⟩) | (go_at_call 16; (first | go_fit (Y _) | go_fit (O _) | go_fit (M _)); rintro e w' ⟨rfl, rfl⟩) | (go_at_call 29; (first | go_fit (P1 _) | go_fit (P2 _)); rintro e w' ⟨rfl, rfl⟩) | (go_at_call 17; (first | go_fit (RW _) | go_fit (RD _)); rintro e w' ⟨rfl, rfl⟩))
              go_ret2
              exact ⟨rfl, rfl⟩
          · go_enter Tryd.func19, Tryd.ntmps19
            go_wp2_with (first | (go_at_call 23; go_fit (S _); rintro e w' ⟨rfl, rfl⟩) | (go_at_call 25; go_fit (G _); rintro e w' ⟨rfl, rfl⟩) | (go_at_call 26; go_fit (D _); rintro e w' ⟨rfl, rfl⟩) | (go_at_call 27; go_fit (E _); rintro e w' ⟨rfl, rfl⟩) | (go_at_call 28; go_fit (YR _); rintro e w' ⟨rfl, rfl⟩) | (go_at_call 16; (first | go_fit (Y _) | go_fit (O _) | go_fit (M _)); rintro e w' ⟨rfl, rfl⟩) | (go_at_call 29; (first | go_fit (P1 _) | go_fit (P2 _)); rintro e w' ⟨rfl, rfl⟩) | (go_at_call 17; (first | go_fit (RW _) | go_fit (RD _)); rintro e w' ⟨rfl, rfl⟩))
            go_ret2
            exact ⟨rfl, rfl⟩
        · go_enter Tryd.func19, Tryd.ntmps19
          go_wp2_with (first | (go_at_call 23; go_fit (S _); rintro e w' ⟨rfl, rfl⟩) | (go_at_call 25; go_fit (G _); rintro e w' ⟨rfl, rfl⟩) | (go_at_call 26; go_fit (D _); rintro e w' ⟨rfl, rfl⟩) | (go_at_call 27; go_fit (E _); rintro e w' ⟨rfl, rfl⟩) | (go_at_call 28; go_fit (YR _); rintro e w' ⟨rfl, rfl⟩) | (go_at_call 16; (first | go_fit (Y _) | go_fit (O _) | go_fit (M _)); rintro e w' ⟨rfl, rfl⟩) | (go_at_call 29; (first | go_fit (P1 _) | go_fit (P2 _)); rintro e w' ⟨rfl, rfl⟩) | (go_at_call 17; (first | go_fit (RW _) | go_fit (RD _)); rintro e w' ⟨rfl, rfl⟩))
          go_ret2
          exact ⟨rfl, rfl⟩
      · go_enter Tryd.func19, Tryd.ntmps19
        go_wp2_with (first | (go_at_call 23; go_fit (S _); rintro e w' ⟨rfl, rfl⟩) | (go_at_call 25; go_fit (G _); rintro e w' ⟨rfl, rfl⟩) | (go_at_call 26; go_fit (D _); rintro e w' ⟨rfl, rfl⟩) | (go_at_call 27; go_fit (E _); rintro e w' ⟨rfl, rfl⟩) | (go_at_call 28; go_fit (YR _); rintro e w' ⟨rfl, rfl⟩) | (go_at_call 16; (first | go_fit (Y _) | go_fit (O _) | go_fit (M _)); rintro e w' ⟨rfl, rfl⟩) | (go_at_call 29; (first | go_fit (P1 _) | go_fit (P2 _)); rintro e w' ⟨rfl, rfl⟩) | (go_at_call 17; (first | go_fit (RW _) | go_fit (RD _)); rintro e w' ⟨rfl, rfl⟩))
        go_ret2
        exact ⟨rfl, rfl⟩
    · go_enter Tryd.func19, Tryd.ntmps19
      go_wp2_with (first | (go_at_call 23; go_fit (S _); rintro e w' ⟨rfl, rfl⟩) | (go_at_call 25; go_fit (G _); rintro e w' ⟨rfl, rfl⟩) | (go_at_call 26; go_fit (D _); rintro e w' ⟨rfl, rfl⟩) | (go_at_call 27; go_fit (E _); rintro e w' ⟨rfl, rfl⟩) | (go_at_call 28; go_fit (YR _); rintro e w' ⟨rfl, rfl⟩) | (go_at_call 16; (first | go_fit (Y _) | go_fit (O _) | go_fit (M _)); rintro e w' ⟨rfl, rfl⟩) | (go_at_call 29; (first | go_fit (P1 _) | go_fit (P2 _)); rintro e w' ⟨rfl, rfl⟩) | (go_at_call 17; (first | go_fit (RW _) | go_fit (RD _)); rintro e w' ⟨rfl, rfl⟩))
      go_ret2
      exact ⟨rfl, rfl⟩
  · go_enter Tryd.func19, Tryd.ntmps19
    go_wp2_with (first | (go_at_call 23; go_fit (S _); rintro e w' ⟨rfl, rfl⟩) | (go_at_call 25; go_fit (G _); rintro e w' ⟨rfl, rfl⟩) | (go_at_call 26; go_fit (D _); rintro e w' ⟨rfl, rfl⟩) | (go_at_call 27; go_fit (E _); rintro e w' ⟨rfl, rfl⟩) | (go_at_call 28; go_fit (YR _); rintro e w' ⟨rfl, rfl⟩) | (go_at_call 16; (first | go_fit (Y _) | go_fit (O _) | go_fit (M _)); rintro e w' ⟨rfl, rfl⟩) | (go_at_call 29; (first | go_fit (P1 _) | go_fit (P2 _)); rintro e w' ⟨rfl, rfl⟩) | (go_at_call 17; (first | go_fit (RW _) | go_fit (RD _)); rintro e w' ⟨rfl, rfl⟩))
    go_ret2
    exact ⟨rfl, rfl⟩
end
end Go.Proofs.YtdjdkhbaemjnnaaDoor
