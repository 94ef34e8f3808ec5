/- Package label: masks, texts, parsing. -/
import Derived.Test.YtpmjpnapokhkaaaLabA
import Derived.Test.YtpmjpnapokhkaaaShelf
namespace Go.Proofs.Ytpmjpnapokhkaaa
open Go.RowKit

theorem bit_any (k : Nat) (w : World) (hk : k < 64) :
    Calls Try.prog 20 #[.int .i64 k] w fun e w' => e = .returned (.int .u64 (2 ^ k : Nat)) ∧ w = w' := by
  go_enter Try.func20, Try.ntmps20
  go_wp2
  go_ret
  exact ⟨ret_int (wrap_pow hk), rfl⟩
theorem first_any (k : Nat) (w : World) (hk : k ≤ 64) :
    Calls Try.prog 25 #[.int .i64 k] w fun e w' => e = .returned (.int .u64 (2 ^ k - 1 : Nat)) ∧ w = w' := by
  go_enter Try.func25, Try.ntmps25
  go_wp2
  go_ret
  exact ⟨ret_int (first_eq hk), rfl⟩
theorem has_any (a b : Nat) (w : World) (ha : a < 18446744073709551616) (hb : b < 64) :
    Calls Try.prog 27 #[.int .u64 a, .int .i64 b] w fun e w' => e = .returned (.bool (a.testBit b)) ∧ w = w' := by
  go_enter Try.func27, Try.ntmps27
  go_wp2
  go_ret
  exact ⟨ret_bool (has_eq ha hb), rfl⟩
theorem leq_any (a b : Nat) (w : World) (ha : a < 18446744073709551616) (hb : b < 18446744073709551616) :
    Calls Try.prog 15 #[.int .u64 a, .int .u64 b] w fun e w' => e = .returned (.bool (leq a b)) ∧ w = w' := by
  go_enter Try.func15, Try.ntmps15
  go_wp2
  go_ret
  exact ⟨ret_bool (leq_eq ha hb), rfl⟩
theorem meet_any (a b : Nat) (w : World) (ha : a < 18446744073709551616) (hb : b < 18446744073709551616) :
    Calls Try.prog 14 #[.int .u64 a, .int .u64 b] w fun e w' => e = .returned (.int .u64 (a &&& b : Nat)) ∧ w = w' := by
  go_enter Try.func14, Try.ntmps14
  go_wp2
  go_ret
  exact ⟨ret_int (u64_and_nat a b ha hb), rfl⟩

theorem or_lt {a b : Nat} (ha : a < 18446744073709551616) (hb : b < 18446744073709551616) : a ||| b < 18446744073709551616 := by
  rw [show (18446744073709551616 : Nat) = 2 ^ 64 from by decide] at *; exact Nat.or_lt_two_pow ha hb
def joinL (l : List Nat) : Nat := l.foldl (· ||| ·) 0
theorem foldl_or_lt (l : List Nat) (a : Nat) (ha : a < 18446744073709551616) (h : ∀ x ∈ l, x < 18446744073709551616) : l.foldl (· ||| ·) a < 18446744073709551616 := by
  induction l generalizing a with
  | nil => exact ha
  | cons b r ih => exact ih _ (or_lt ha (h b (by simp))) (fun x hx => h x (by simp [hx]))
theorem joinL_lt (l : List Nat) (h : ∀ x ∈ l, x < 18446744073709551616) : joinL l < 18446744073709551616 := foldl_or_lt l 0 (by decide) h
theorem joinL_take (l : List Nat) (k x : Nat) (h : l[k]? = some x) : joinL (l.take (k + 1)) = joinL (l.take k) ||| x := by
  have : l.take (k + 1) = l.take k ++ [x] := by rw [List.take_add_one]; simp [h]
  rw [this]; simp [joinL]
theorem join_none (a : Option Addr) (cap : Nat) (w : World) :
    Calls Try.prog 13 #[.slice a 0 cap] w fun e w' => e = .returned (.int .u64 0) ∧ w = w' := by
  go_enter Try.func13, Try.ntmps13
  go_wp2
  refine wp_loop_rounds 1 ?_
  rw [rounds_succ]
  go_wp2
  go_ret
  exact ⟨rfl, rfl⟩
theorem join_some (b off n cap : Nat) (l : List Nat) (w : World) (hn : l.length = n) (hz : n * 8 ≤ 140737488351232) (hl : ∀ x ∈ l, x < 18446744073709551616)
    (hc : ∀ (i : Nat) (x : Nat), l[i]? = some x → w.cell? ⟨b, off + i, none⟩ = some (.int .u64 x)) :
    Calls Try.prog 13 #[.slice (some ⟨b, off, none⟩) n cap] w fun e w' => e = .returned (.int .u64 (joinL l)) ∧ w = w' := by
  have HC := Lib.hid hc; clear hc
  have HN := Lib.hid hn; clear hn
  have HL := Lib.hid hl; clear hl
  go_enter Try.func13, Try.ntmps13
  go_wp2
  go_loop [3, 8] (fun j i => ∃ k : Nat, k ≤ n ∧ i = .int .i64 k ∧ j = .int .u64 (joinL (l.take k))) (fun _ i => n - (intOf i).toNat)
  case atStart => exact ⟨0, Nat.zero_le _, rfl, rfl⟩
  case round =>
    obtain ⟨k, hk, rfl, rfl⟩ := hrel
    by_cases hlt : k < n
    · obtain ⟨x, hx⟩ : ∃ x, l[k]? = some x := ⟨_, List.getElem?_eq_getElem (by rw [HN.out]; exact hlt)⟩
      have hcx := HC.out k x hx
      have hxl := HL.out x (List.mem_of_getElem? hx)
      have hjl := joinL_lt (l.take k) (fun x hx => HL.out x (List.mem_of_mem_take hx))
      have hst := joinL_take l k x hx
      have HX := Lib.hid hst; clear hst hx
      generalize joinL (l.take k) = q at *
      have hor := u64_or_nat q x hjl hxl
      go_wp2
      go_round
      case rel => exact ⟨k + 1, by omega, by go_num, by rw [HX.out]⟩
      case measure => simp [intOf]; omega
    · go_wp2
      go_ret
      exact ⟨ret_int (by rw [List.take_of_length_le (by have := HN.out; omega)]), rfl⟩

theorem fits_any {v : Value} {ss : List ByteArray} {w : World} (l : Nat) (hl : l < 18446744073709551616) (h : Strs w v ss) :
    Calls Try.prog 9 #[v, .int .u64 l] w fun e w' => e = .returned (.bool (fits (ss.map bl) l)) ∧ w = w' := by
  have hg := @good_any v ss w h
  have HG := Lib.hid hg; clear hg
  obtain ⟨a, cap, rfl, _, _, hz, _, _⟩ := h
  have hlen : (ss.map bl).length = ss.length := by simp
  have HL := Lib.hid hlen; clear hlen
  cases h0 : goodNames (ss.map bl)
  · have hf := Lib.hid (show fits (ss.map bl) l = false by simp [fits, h0])
    go_enter Try.func9, Try.ntmps9
    go_wp2_with (go_at_call 8; refine HG.out.mono ?_; rintro e w' ⟨rfl, rfl⟩)
    go_ret
    exact ⟨ret_bool hf.out.symm, rfl⟩
  · have hf := Lib.hid (show fits (ss.map bl) l = decide (l < 2 ^ ss.length) by simp [fits, h0])
    have h64 := (goodNames_len h0).2
    have hn64 : ss.length ≤ 64 := by rw [HL.out] at h64; exact h64
    clear h64
    go_enter Try.func9, Try.ntmps9
    go_wp2_with (first | (go_at_call 8; refine HG.out.mono ?_; rintro e w' ⟨rfl, rfl⟩) | (go_at_call 25; go_fit (first_any _ _ hn64); rintro e w' ⟨rfl, rfl⟩) | (go_at_call 15; go_fit (leq_any _ _ _ hl (pow_lt hn64)); rintro e w' ⟨rfl, rfl⟩))
    go_ret
    exact ⟨ret_bool (by rw [hf.out]; exact leq_pow), rfl⟩

theorem top_any {v : Value} {ss : List ByteArray} {w : World} (h : Strs w v ss) :
    Calls Try.prog 16 #[v] w fun e w' => e = .returned (.int .u64 (top (ss.map bl))) ∧ w = w' := by
  have hg := @good_any v ss w h
  have HG := Lib.hid hg; clear hg
  obtain ⟨a, cap, rfl, _, _, hz, _, _⟩ := h
  have hlen : (ss.map bl).length = ss.length := by simp
  have HL := Lib.hid hlen; clear hlen
  cases h0 : goodNames (ss.map bl)
  · have hf := Lib.hid (show top (ss.map bl) = 0 by simp [top, h0])
    go_enter Try.func16, Try.ntmps16
    go_wp2_with (go_at_call 8; refine HG.out.mono ?_; rintro e w' ⟨rfl, rfl⟩)
    go_ret
    exact ⟨ret_int (by rw [hf.out]; rfl), rfl⟩
  · have hf := Lib.hid (show top (ss.map bl) = 2 ^ ss.length - 1 by simp [top, h0])
    have h64 := (goodNames_len h0).2
    have hn64 : ss.length ≤ 64 := by rw [HL.out] at h64; exact h64
    clear h64
    go_enter Try.func16, Try.ntmps16
    go_wp2_with (first | (go_at_call 8; refine HG.out.mono ?_; rintro e w' ⟨rfl, rfl⟩) | (go_at_call 25; go_fit (first_any _ _ hn64); rintro e w' ⟨rfl, rfl⟩))
    go_ret
    exact ⟨ret_int (by rw [hf.out]), rfl⟩

theorem cut_yes {s name : List UInt8} {f : Bool} {p r : List UInt8} (hp : (if f then name else 44 :: name) = p) (h : Lib.hasPrefix s p = true) (hr : Lib.trimPrefix s p = r)
    (hh : (r.head? == some 44 || r.head? == some 125) = true) : cut s name f = (r, true) := by
  unfold cut; simp only [hp, hr, h, hh]; rfl
theorem cut_no {s name : List UInt8} {f : Bool} {p r : List UInt8} (hp : (if f then name else 44 :: name) = p) (hr : Lib.trimPrefix s p = r)
    (hh : Lib.hasPrefix s p = false ∨ (r.head? == some 44 || r.head? == some 125) = false) : cut s name f = (s, false) := by
  unfold cut; simp only [hp, hr]; rcases hh with h | h <;> simp [h]

theorem cutPrefix_at (s p r : ByteArray) (b : Bool) (w : World) (hr : Lib.trimPrefix (bl s) (bl p) = bl r) (hb : Lib.hasPrefix (bl s) (bl p) = b) :
    Calls Try.prog 18 #[.string s, .string p] w fun e w' => e = .returned (.tuple #[.string r, .bool b]) ∧ w = w' :=
  (Try.strings_CutPrefix s p w).mono fun e w' ⟨h1, h2⟩ => ⟨by rw [h1, hr, hb], h2.symm⟩
theorem trim_exists (s p : List UInt8) : ∃ r : ByteArray, Lib.trimPrefix s p = bl r := ⟨⟨(Lib.trimPrefix s p).toArray⟩, by rw [bl]⟩
theorem head_at (r : ByteArray) (h : 0 < r.size) (c : UInt8) : ((bl r).head? == some c) = !((r[0].toNat : Int) != (c.toNat : Int)) := by
  have e : (bl r).head? = some r[0] := by
    rw [List.head?_eq_getElem?, List.getElem?_eq_getElem (show 0 < (bl r).length from h)]; rfl
  rw [e, Bool.eq_iff_iff]
  simp only [Option.some_beq_some, beq_iff_eq, Bool.not_eq_true', bne_eq_false_iff_eq]
  constructor
  · intro h; rw [h]
  · intro h; exact UInt8.toNat_inj.1 (by exact_mod_cast h)
def endsWell (r : ByteArray) : Bool := (bl r).head? == some 44 || (bl r).head? == some 125
theorem empty_facts {r : ByteArray} (h : r.size = 0) : r.toList = [] ∧ r.toList.isEmpty = true ∧ endsWell r = false := by
  have : bl r = [] := bl_nil h
  rw [Lib.toList_data]; exact ⟨this, by rw [show r.data.toList = [] from this]; rfl, by unfold endsWell; rw [this]; rfl⟩
theorem some_facts {r : ByteArray} (h : 0 < r.size) : ¬ r.toList = [] ∧ r.toList.isEmpty = false := by
  have : ¬ r.data.toList = [] := by
    intro e
    have : r.size = 0 := by rw [← bl_len, show bl r = [] from e]; rfl
    omega
  rw [Lib.toList_data]; exact ⟨this, by simpa using this⟩

set_option maxHeartbeats 400000 in
theorem cutName_core (s name p r : ByteArray) (f b : Bool) (w : World) (hp : f = true ∧ name = p ∨ f = false ∧ (⟨#[44]⟩ : ByteArray) ++ name = p)
    (hr : Lib.trimPrefix (bl s) (bl p) = bl r) (hb : Lib.hasPrefix (bl s) (bl p) = b) (hrs : r.size ≤ 140737488351232) (hns : name.size ≤ 1000)
    (x : ByteArray) (c : Bool) (hx : (b && endsWell r) = c) (hy : x = if c then r else s) :
    Calls Try.prog 19 #[.string s, .string name, .bool f] w fun e w' => e = .returned (.tuple #[.string x, .bool c]) ∧ w = w' := by
  have HR := Lib.hid hr; clear hr
  have HB := Lib.hid hb; clear hb
  have HX := Lib.hid hx; clear hx
  have HY := Lib.hid hy; clear hy
  rcases hp with ⟨rfl, hp⟩ | ⟨rfl, hp⟩
  all_goals have HP := Lib.hid hp; clear hp
  all_goals
    cases b
    · obtain rfl : c = false := by have := HX.out; simpa using this.symm
      obtain rfl : x = s := HY.out
      go_enter Try.func19, Try.ntmps19
      go_wp2_with (go_at_call 18; go_fit (cutPrefix_at _ _ r false _ (by rw [HP.out]; exact HR.out) (by rw [HP.out]; exact HB.out)); rintro e w' ⟨rfl, rfl⟩)
      go_ret2
      exact ⟨rfl, rfl⟩
    by_cases h0 : r.size = 0
    · obtain rfl : c = false := by have := HX.out; rw [(empty_facts h0).2.2] at this; simpa using this.symm
      obtain rfl : x = s := HY.out
      obtain ⟨e1, e2, _⟩ := empty_facts h0
      clear h0
      go_enter Try.func19, Try.ntmps19
      go_wp2_with (go_at_call 18; go_fit (cutPrefix_at _ _ r true _ (by rw [HP.out]; exact HR.out) (by rw [HP.out]; exact HB.out)); rintro e w' ⟨rfl, rfl⟩)
      go_ret2
      exact ⟨rfl, rfl⟩
    have h1 : 0 < r.size := by omega
    obtain ⟨e1, e2⟩ := some_facts h1
    have E1 := head_at r h1 44
    have E2 := head_at r h1 125
    have HE := Lib.hid (show endsWell r = (!((r[0].toNat : Int) != 44) || !((r[0].toNat : Int) != 125)) by unfold endsWell; rw [E1, E2]; rfl)
    clear E1 E2 h0
    cases h44 : ((r[0].toNat : Int) != 44)
    · obtain rfl : c = true := by have := HX.out; rw [HE.out, h44] at this; simpa using this.symm
      obtain rfl : x = r := HY.out
      go_enter Try.func19, Try.ntmps19
      go_wp2_with (go_at_call 18; go_fit (cutPrefix_at _ _ x true _ (by rw [HP.out]; exact HR.out) (by rw [HP.out]; exact HB.out)); rintro e w' ⟨rfl, rfl⟩)
      go_ret2
      exact ⟨rfl, rfl⟩
    cases h125 : ((r[0].toNat : Int) != 125)
    · obtain rfl : c = true := by have := HX.out; rw [HE.out, h125] at this; simpa using this.symm
      obtain rfl : x = r := HY.out
      go_enter Try.func19, Try.ntmps19
      go_wp2_with (go_at_call 18; go_fit (cutPrefix_at _ _ x true _ (by rw [HP.out]; exact HR.out) (by rw [HP.out]; exact HB.out)); rintro e w' ⟨rfl, rfl⟩)
      go_ret2
      exact ⟨rfl, rfl⟩
    · obtain rfl : c = false := by have := HX.out; rw [HE.out, h44, h125] at this; simpa using this.symm
      obtain rfl : x = s := HY.out
      go_enter Try.func19, Try.ntmps19
      go_wp2_with (go_at_call 18; go_fit (cutPrefix_at _ _ r true _ (by rw [HP.out]; exact HR.out) (by rw [HP.out]; exact HB.out)); rintro e w' ⟨rfl, rfl⟩)
      go_ret2
      exact ⟨rfl, rfl⟩

theorem comma_bl (q : ByteArray) : bl ((⟨#[44]⟩ : ByteArray) ++ q) = 44 :: bl q := by
  simp [bl]
theorem cut_spec (s name r : ByteArray) (f : Bool) (hr : Lib.trimPrefix (bl s) (if f then bl name else 44 :: bl name) = bl r) :
    cut (bl s) (bl name) f = (bl (if Lib.hasPrefix (bl s) (if f then bl name else 44 :: bl name) && endsWell r then r else s), Lib.hasPrefix (bl s) (if f then bl name else 44 :: bl name) && endsWell r) := by
  unfold cut endsWell
  simp only [hr]
  generalize Lib.hasPrefix (bl s) (if f = true then bl name else 44 :: bl name) = B
  generalize ((bl r).head? == some 44 || (bl r).head? == some 125) = C
  cases B <;> cases C <;> rfl
theorem cutName_any (s name : ByteArray) (f : Bool) (w : World) (hs : s.size ≤ 140737488351232) (hns : name.size ≤ 1000) :
    ∃ x : ByteArray, bl x = (cut (bl s) (bl name) f).1 ∧ x.size ≤ 140737488351232 ∧
    Calls Try.prog 19 #[.string s, .string name, .bool f] w fun e w' => e = .returned (.tuple #[.string x, .bool (cut (bl s) (bl name) f).2]) ∧ w = w' := by
  obtain ⟨r, hr⟩ := trim_exists (bl s) (if f then bl name else 44 :: bl name)
  have hrs : r.size ≤ s.size := by
    rw [← bl_len, ← bl_len, ← hr]; exact Lib.trimPrefix_le _ _
  rw [cut_spec s name r f hr]
  refine ⟨_, rfl, ?_, ?_⟩
  · generalize (Lib.hasPrefix (bl s) (if f = true then bl name else 44 :: bl name) && endsWell r) = B
    cases B
    · exact hs
    · exact Nat.le_trans hrs hs
  · cases f
    · exact cutName_core s name (⟨#[44]⟩ ++ name) r false _ w (Or.inr ⟨rfl, rfl⟩) (by rw [comma_bl]; exact hr) (by rw [comma_bl]; rfl) (by omega) hns _ _ rfl rfl
    · exact cutName_core s name name r true _ w (Or.inl ⟨rfl, rfl⟩) hr rfl (by omega) hns _ _ rfl rfl
end Go.Proofs.Ytpmjpnapokhkaaa
