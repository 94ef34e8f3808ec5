import Derived.Test.YtljgkfdnmikpfaaGreatDoorHgfag
import Derived.Test.YtljgkfdnmikpfaaGreatDoorHgfac
import Derived.Test.YtljgkfdnmikpfaaGreatDoorHgfaa
import Derived.Test.YtljgkfdnmikpfaaGreatDoorHgfae
import Derived.Laws.OwnMore
import Derived.Deep.RegionHeld3
import Derived.RangeFuncNested
import Derived.RangeFuncBound
import Derived.RangeFuncCalls
import Derived.RangeFuncLeaves
import Derived.Shelf.Abstract
import Derived.Shelf.RegionOpen
import Derived.WalkKit
import Derived.OwnWalkIn
import Derived.TacticsInMore
import Derived.LoopNIn
import Derived.LoopIn
import Derived.Test.YtljgkfdnmikpfaaGreatDoorHgfab
import Derived.Laws.StructEq
import Derived.Laws.ResultCell
import Derived.LoopTactic
import Derived.Test.YtljgkfdnmikpfaaGreatDoorRows
set_option linter.unusedVariables false
set_option linter.unusedSimpArgs false
/- Package lex: a token is what the document says stands next. -/
namespace Go.Proofs.YtljgkfdnmikpfaaGreatDoor
open Go.RowKit
set_option linter.unusedVariables false

theorem take_ext (s : ByteArray) (i k : Nat) : (⟨(((bl s).drop i).take k).toArray⟩ : ByteArray) = s.extract i (i + k) := by
  apply bl_inj
  simp only [bl, ByteArray.data_extract, Array.toList_extract, List.extract_eq_take_drop, Nat.add_sub_cancel_left]
theorem open_at (s : ByteArray) (b : Nat) (h : b ≤ s.size) : OpenAt s b (openB ((bl s).drop b)) := by
  by_cases hb : b = s.size
  · left
    refine ⟨hb, ?_⟩
    rw [List.drop_eq_nil_of_le (by rw [bl_len]; omega)]
    rfl
  · right
    have hlt : b < s.size := by omega
    refine ⟨hlt, ?_⟩
    rw [drop_at (l := bl s) hlt]
    show _ = (s[b] == 40)
    rw [Bool.eq_iff_iff]
    simp only [beq_iff_eq]
    constructor
    · intro h; exact i64_u8 (by rw [h]; rfl)
    · intro h; rw [h]; rfl
theorem ext_size (s : ByteArray) (i k : Nat) (h : i + k ≤ s.size) : (s.extract i (i + k)).size = k := by simp; omega
theorem token_any (s : ByteArray) (i : Nat) (w : World) (he : Err w) (hi : i < s.size) (hs : s.size ≤ 140737488351232) (hns : ∀ k, nextC s[i] ((bl s).drop (i + 1)) ≠ .skip k) :
    Calls Tryz.prog 53 #[.string s, .int .i64 i] w fun e w' => e = .returned (tokenV i (nextC s[i] ((bl s).drop (i + 1)))) ∧ Below w.heap.size w w' := by
  have P := fun w => piece_any s i w hi hs
  have hop : ∀ k, i + k ≤ s.size → OpenAt s (i + k) (openB (((bl s).drop i).drop k)) := fun k hk => by
    rw [List.drop_drop]
    exact open_at s _ hk
  have hsub : ∀ k, i + k ≤ s.size → bl (s.extract i (i + k)) = ((bl s).drop i).take k := fun k hk => by rw [← take_ext]
  rcases piece_next (l := bl s) (i := i) hi hns with ⟨k, hk, hik, hp, hN⟩ | ⟨hp, hN⟩ | ⟨k, hk, hik, hp, hN⟩ | ⟨k, hk, hik, had, hp, hN⟩ | ⟨hp, hN⟩ | ⟨hp, hN⟩ | ⟨hp, hN⟩
  all_goals
    have hp' : pieceK (bl s) i s[i] = _ := hp
    have hN' : nextC s[i] ((bl s).drop (i + 1)) = _ := hN
    rw [hp'] at P
    rw [hN']
    clear hp hp' hN hN' hns
  · have hik' : i + k ≤ s.size := hik
    unfold nameB
    by_cases h64 : k ≤ 64
    · rw [if_pos (by simpa using h64)]
      refine (token_text 1 (Or.inl rfl) w hi hs (b := i + k) (by omega) hik' (fun _ => by omega) _ (hop k hik') P).mono fun e w' h => ⟨?_, h.2⟩
      rw [h.1]
      unfold tokB tokenV tokV
      simp only [take_ext]
      rfl
    · rw [if_neg (by simpa using h64)]
      exact token_long w hi hs (b := i + k) (by omega) hik' (by omega) P
  · have U := fun w => unquote_any s i w hi hs
    cases hq : quoB ((bl s).drop (i + 1)) with
    | none =>
      rw [hq] at U
      exact token_quote w hi hs P U
    | some p =>
      rw [hq] at U
      simp only
      have hql := quo_len _ ((bl s).drop (i + 1)) (Nat.le_refl _) p hq
      rw [List.length_drop, bl_len] at hql
      have hb : i + 1 + p.2 = i + (p.2 + 1) := by omega
      have hik' : i + (p.2 + 1) ≤ s.size := by omega
      by_cases h64 : p.1.length ≤ 64
      · rw [if_pos (by simpa using h64)]
        have U' : ∀ w, Calls Tryz.prog 84 #[.string s, .int .i64 i] w fun e w' => e = .returned (.tuple #[.string ⟨p.1.toArray⟩, .int .i64 ((i + (p.2 + 1) : Nat) : Int), .int .i64 0]) ∧ Below w.heap.size w w' := fun w => by
          have := U w
          have e : unqV i (some p) = .tuple #[.string ⟨p.1.toArray⟩, .int .i64 ((i + (p.2 + 1) : Nat) : Int), .int .i64 0] := by
            rw [← hb]; rfl
          rw [e] at this
          exact this
        refine (token_quoted w hi hs (b := i + (p.2 + 1)) (by omega) hik' (by show p.1.toArray.size ≤ 64; simpa using h64) _ (hop _ hik') P U').mono fun e w' h => ⟨?_, h.2⟩
        rw [h.1]
        rfl
      · rw [if_neg (by simpa using h64)]
        exact token_quoted_long w hi hs (b := i + 1 + p.2) (t := ⟨p.1.toArray⟩) (by show ¬ p.1.toArray.size ≤ 64; simpa using h64) P U
  · have hik' : i + k ≤ s.size := hik
    refine (token_text 3 (Or.inr (Or.inl rfl)) w hi hs (b := i + k) (by omega) hik' (fun h => by cases h) _ (hop k hik') P).mono fun e w' h => ⟨?_, h.2⟩
    rw [h.1]
    unfold tokB tokenV tokV
    simp only [take_ext]
    rfl
  · have hik' : i + k ≤ s.size := hik
    have hne : ((bl s).drop i).take k ≠ [] := fun e => by
      have := congrArg List.length e
      rw [List.length_take, List.length_drop, bl_len] at this
      simp at this
      omega
    have hz : (s.extract i (i + k)).size ≤ 140737488351232 := by rw [ext_size s i k hik']; omega
    have hsb := hsub k hik'
    by_cases hv : numB (((bl s).drop i).take k) ≤ 9223372036854775807
    · rw [if_pos (by simpa using hv)]
      have V := fun w (h : Err w) => @value_ok (s.extract i (i + k)) w hz (by rw [hsb]; exact had) (by rw [hsb]; exact hne) (by rw [hsb]; exact hv)
      rw [hsb] at V
      refine (token_num w he hi hs (b := i + k) (by omega) hik' _ (hop k hik') P V).mono fun e w' h => ⟨?_, h.2⟩
      rw [h.1]
      rfl
    · rw [if_neg (by simpa using hv)]
      have V := fun w (h : Err w) => @value_over (s.extract i (i + k)) w h hz (by rw [hsb]; exact had) (by rw [hsb]; exact hne) (by rw [hsb]; exact hv)
      exact token_num_over w he hi hs (b := i + k) (by omega) hik' P V
  · refine (token_text 5 (Or.inr (Or.inr rfl)) w hi hs (b := i + 1) (by omega) (by omega) (fun h => by cases h) _ (hop 1 (by omega)) P).mono fun e w' h => ⟨?_, h.2⟩
    rw [h.1]
    unfold tokB tokenV tokV
    simp only [take_ext]
    rfl
  · refine (token_end w hi hs _ (hop 1 (by omega)) P).mono fun e w' h => ⟨?_, h.2⟩
    rw [h.1]
    rfl
  · exact token_none w hi hs P
end Go.Proofs.YtljgkfdnmikpfaaGreatDoor
/- Package lex: Cut. -/
namespace Go.Proofs.YtljgkfdnmikpfaaGreatDoor
open Go.RowKit
set_option linter.unusedVariables false

def tCells (q : TokB × Nat) : List Value := [.int .i64 (q.1.kind : Int), .string ⟨q.1.text.toArray⟩, .int .i64 (q.1.n : Int), .bool q.1.opens, .int .i64 (q.2 : Int)]
theorem tCells_len (q : TokB × Nat) : (tCells q).length = 5 := rfl
theorem tCells_one (L : List (TokB × Nat)) : ∀ u ∈ L.flatMap tCells, u.oneCell' = true := by
  intro u hu
  obtain ⟨x, _, hx⟩ := List.mem_flatMap.1 hu
  simp [tCells] at hx
  rcases hx with rfl | rfl | rfl | rfl | rfl <;> rfl
def RowT (w : World) (base : Nat) (v : Value) (l : List (TokB × Nat)) : Prop := w.ownsRow base 52 5 v l.length (l.flatMap tCells)
theorem cell_two (w : World) (o : Obj) (cs : Array Value) (ty : TypeId) (j : Nat) (u : Value) (h : cs.toList[j]? = some u) : ((w.alloc o).alloc (.cells cs ty)).cell? ((⟨w.heap.size + 1, 0, none⟩ : Addr).add j) = some u := by
  have e : (w.alloc o).heap.size = w.heap.size + 1 := by simp
  have h1 := heap_alloc_new (w.alloc o) (.cells cs ty)
  rw [e] at h1
  rw [add_plain, Nat.zero_add, World.cell?, h1]
  simpa using h
theorem infoTok : (Tryz.prog.info? 52).map (fun i => (i.zero, i.size, i.bytes)) = some (some zeroV, 5, 48) := by kernel_rfl
def CutPost (W : World) (s : ByteArray) (X : CutR) (e : Ending) (w' : World) : Prop :=
  (match X with
    | .ok l => ∃ (ao : Option Addr) (cv : Nat), e = .returned (.tuple #[.slice ao l.length cv, .int .i64 (s.size : Int), .int .i64 0]) ∧ RowT w' W.heap.size (.slice ao l.length cv) l
    | .bad p o => e = .returned (.tuple #[.slice none 0 0, .int .i64 (p : Int), .int .i64 (if o then 3 else 2)])) ∧ Below W.heap.size W w'
theorem passK_cut (s : List UInt8) (k : Nat) (hk : k ≤ s.length) : k + passK s k ≤ s.length ∧ (∀ acc, cutF acc k (s.drop k) = cutF acc (k + passK s k) (s.drop (k + passK s k))) ∧ ∀ h : k + passK s k < s.length, ∀ j, nextC s[k + passK s k] (s.drop (k + passK s k + 1)) ≠ .skip j := by
  obtain ⟨h1, h2, h3⟩ := pass_cut (s.drop k).length (s.drop k) (Nat.le_refl _)
  unfold passK
  rw [List.length_drop] at h1
  refine ⟨by omega, fun acc => by rw [h2, List.drop_drop], fun h => h3 _ _ ?_⟩
  rw [List.drop_drop]
  exact drop_at h
set_option maxRecDepth 100000 in
set_option maxHeartbeats 4000000 in
theorem cut_any (s : ByteArray) (w : World) (he : Err w) (hs : s.size ≤ 140737488351232) : Calls Tryz.prog 23 #[.string s] w (CutPost w s (cutB (bl s))) := by
  obtain ⟨X, hX⟩ : ∃ X, cutB (bl s) = X := ⟨_, rfl⟩
  rw [hX]
  by_cases hbig : 4096 < s.size
  · have hx : X = .bad 4096 true := by rw [← hX]; unfold cutB; rw [if_pos (show 4096 < (bl s).length from hbig)]
    subst hx
    clear hX
    go_enter Tryz.func23, Tryz.ntmps23
    go_wp2
    go_ret3
    exact ⟨rfl, Below.refl _ _⟩
  have hx : cutF [] 0 (bl s) = X := by rw [← hX]; unfold cutB; rw [if_neg (show ¬ 4096 < (bl s).length from hbig)]
  clear hX
  obtain ⟨p1, p2, p3⟩ := passK_cut (bl s) 0 (Nat.zero_le _)
  rw [List.drop_zero] at p2
  have PA := fun w => pass_any s 0 w (Nat.zero_le _) hs
  generalize 0 + passK (bl s) 0 = k0 at PA p1 p2 p3
  have hX0 := (p2 []).symm.trans hx
  have HX0 := Lib.hid hX0
  have HP3 := Lib.hid p3
  have hk0s : k0 ≤ s.size := p1
  clear hX0 p3 p2 hx p1
  obtain ⟨i0, hi0, hz0, hs0, hb0⟩ := info_parts infoTok
  go_enter Tryz.func23, Tryz.ntmps23
  go_wp2_with (go_at_call 52; go_fit (PA _); rintro e w' ⟨rfl, rfl⟩)
  go_loopw [5, 6] (fun o v wr => ∃ (k : Nat) (ao : Option Addr) (cv : Nat) (acc : List (TokB × Nat)), k ≤ s.size ∧ v = .int .i64 k ∧ o = .slice ao acc.length cv ∧ acc.length ≤ 1024 ∧ Hid (RowT wr w.heap.size o acc) ∧ Hid (Below w.heap.size w wr) ∧
      Hid (cutF acc k ((bl s).drop k) = X) ∧ Hid (∀ h : k < (bl s).length, ∀ j, nextC (bl s)[k] ((bl s).drop (k + 1)) ≠ .skip j)) (fun _ v _ => s.size - (intOf v).toNat)
  case atStart => exact ⟨k0, none, 0, [], hk0s, rfl, rfl, by simp, Lib.hid (World.ownsRow_nil _ _ _ _), Lib.hid (Below.refl _ _), HX0, HP3⟩
  case round =>
    obtain ⟨k, ao, cv, acc, hk, rfl, rfl, hacc, HR, HB, HC, HN⟩ := hrel
    by_cases hlt : k < s.size
    · have T := token_any s k wr (he.ext HB.out) hlt hs (HN.out hlt)
      have hd : (bl s).drop k = s[k] :: (bl s).drop (k + 1) := drop_at (l := bl s) hlt
      have hC := HC.out
      rw [hd] at hC
      cases hn : nextC s[k] ((bl s).drop (k + 1)) with
      | skip j => exact absurd hn (HN.out hlt j)
      | bad o =>
        rw [hn] at T
        rw [cutF_bad hn] at hC
        subst hC
        clear HN HC HP3 HX0 hd hn PA
        cases o
        · replace T : Calls Tryz.prog 53 #[.string s, .int .i64 k] wr fun e w' => e = .returned (.tuple #[zeroV, .int .i64 0, .int .i64 2]) ∧ Below wr.heap.size wr w' := T
          unfold zeroV at T
          (go_wp2_with fail; go_fit (T); rintro e w1 ⟨rfl, b1⟩)
          go_wp2
          go_ret3
          exact ⟨rfl, Ext.trans' HB.out (b1.alloc b1.size _)⟩
        · replace T : Calls Tryz.prog 53 #[.string s, .int .i64 k] wr fun e w' => e = .returned (.tuple #[zeroV, .int .i64 0, .int .i64 3]) ∧ Below wr.heap.size wr w' := T
          unfold zeroV at T
          (go_wp2_with fail; go_fit (T); rintro e w1 ⟨rfl, b1⟩)
          go_wp2
          go_ret3
          exact ⟨rfl, Ext.trans' HB.out (b1.alloc b1.size _)⟩
      | tok t =>
        have hnl := next_len s[k] ((bl s).drop (k + 1))
        rw [hn, List.length_drop, bl_len] at hnl
        have hnl' : t.len ≤ s.size - (k + 1) + 1 := hnl
        have hpos : 1 ≤ t.len := by
          rcases next_pos s[k] ((bl s).drop (k + 1)) with ⟨j, h, _⟩ | ⟨u, h, hu⟩ | ⟨o, h⟩
          · rw [hn] at h; cases h
          · rw [hn] at h; cases h; exact hu
          · rw [hn] at h; cases h
        rw [hn] at T
        replace T : Calls Tryz.prog 53 #[.string s, .int .i64 k] wr fun e w' => e = .returned (.tuple #[.agg #[.int .i64 (t.kind : Int), .string ⟨t.text.toArray⟩, .int .i64 (t.n : Int), .bool t.opens, .int .i64 (k : Int)], .int .i64 ((k + t.len : Nat) : Int), .int .i64 0]) ∧ Below wr.heap.size wr w' := T
        by_cases hf : acc.length = 1024
        · rw [cutF_full hn hf] at hC
          subst hC
          clear HN HC HP3 HX0 hd hn PA hnl hnl' hpos
          (go_wp2_with fail; go_fit (T); rintro e w1 ⟨rfl, b1⟩)
          go_wp2
          go_ret3
          exact ⟨rfl, Ext.trans' HB.out (b1.alloc b1.size _)⟩
        · rw [cutF_tok hn hpos hf, ← hd, List.drop_drop] at hC
          have hkl : k + t.len ≤ s.size := by omega
          obtain ⟨q1, q2, q3⟩ := passK_cut (bl s) (k + t.len) hkl
          have PB := fun w => pass_any s (k + t.len) w hkl hs
          have q4 := (q2 (acc ++ [(t, k)])).symm.trans hC
          have q5 : k < k + t.len + passK (bl s) (k + t.len) := by omega
          clear hC q2
          generalize k + t.len + passK (bl s) (k + t.len) = k' at PB q1 q3 q4 q5
          generalize k + t.len = b at T PB
          have q1' : k' ≤ s.size := q1
          have Q3 := Lib.hid q3
          have Q4 := Lib.hid q4
          clear q1 q3 q4 HN HC HP3 HX0 hd hn PA hnl hnl' hpos hkl
          (go_wp2_with fail; go_fit (T); rintro e w1 ⟨rfl, b1⟩)
          have HR1 := Lib.hid (row_ext HR.out b1)
          have HB1 := Lib.hid (Ext.trans' HB.out b1)
          have hsz1 : w.heap.size ≤ w1.heap.size := HB1.out.size
          clear b1 HR HB
          go_wp2_with (first
            | (go_at_call 52; go_fit (PB _); rintro e w' ⟨rfl, rfl⟩)
            | (at_builtin; refine wpList_append_k rfl _ _ 48 rfl w.heap.size 52 i0 zeroV 5 48 Tryz.underlying48 hi0 hz0 hs0 (by decide) hb0 rfl (.slice ao acc.length cv) acc.length (acc.flatMap tCells) rfl ((HR1.out.alloc _).alloc _) _ 1 1 (tCells (t, k)) rfl rfl (Or.inr ⟨_, rfl, fun j u hu => ?_⟩) (fun u hu => tCells_one [(t, k)] u (by simpa using hu)) (by unfold maxLen; omega) (by omega) (by simp; omega) (acc.length + 1) ((acc ++ [(t, k)]).flatMap tCells) rfl (by rw [List.flatMap_append]; rfl) ?_; rotate_left; intro a4 c4 w4 hown4 hgrow4 hat4))
          · go_roundw
            case rel =>
              refine ⟨k', a4, c4, acc ++ [(t, k)], q1', rfl, by rw [List.length_append]; rfl, by rw [List.length_append, List.length_singleton]; omega, Lib.hid ?_, Lib.hid ?_, Q4, Q3⟩
              · unfold RowT
                rw [List.length_append]
                exact hown4
              · exact (((HB1.out.alloc hsz1 _).alloc (by simp; omega) _).grown hgrow4 (by simp; omega) (fun q hq => (HR1.out.lt q hq).1))
            case measure => simp [intOf]; omega
          · exact cell_two _ _ _ _ j u hu
    · have hkk : k = s.size := by omega
      have hC := HC.out
      rw [List.drop_eq_nil_of_le (by rw [bl_len]; omega), cutF_nil] at hC
      subst hC
      clear HN HC HP3 HX0 PA
      go_wp2
      go_ret3
      exact ⟨⟨_, _, rfl, HR.out⟩, HB.out⟩
end Go.Proofs.YtljgkfdnmikpfaaGreatDoor
/- Letter by letter: a plain name by what Cut tells; what a quoted name is by what Cut tells. Nothing here is walked. -/
namespace Go.Proofs.YtljgkfdnmikpfaaGreatDoor

theorem next_short (c : UInt8) (r : List UInt8) (t : TokB) (h : nextC c r = .tok t) (hk : t.kind = 1) : t.len ≤ 64 := by
  unfold nextC at h
  have other : ∀ (kind : Nat) (text : List UInt8) (n k : Nat) (s : List UInt8), kind ≠ 1 → tokB kind text n k s = .tok t → t.len ≤ 64 := fun kind text n k s hne he => by
    unfold tokB at he
    cases he
    exact absurd hk hne
  have name : ∀ (k : Nat) (s : List UInt8), nameB k s = .tok t → t.len ≤ 64 := fun k s he => by
    have := name_kind he
    omega
  by_cases h1 : blankB c = true
  · rw [if_pos h1] at h; cases h
  rw [if_neg h1] at h
  by_cases h2 : (c == 37) = true
  · rw [if_pos h2] at h; cases h
  rw [if_neg h2] at h
  by_cases h3 : smallB c = true
  · rw [if_pos h3] at h; exact name _ _ h
  rw [if_neg h3] at h
  by_cases h4 : greatB c = true
  · rw [if_pos h4] at h; exact other _ _ _ _ _ (by decide) h
  rw [if_neg h4] at h
  by_cases h5 : digitB c = true
  · rw [if_pos h5] at h
    split at h
    · exact other _ _ _ _ _ (by decide) h
    · cases h
  rw [if_neg h5] at h
  by_cases h6 : (c == 39) = true
  · rw [if_pos h6] at h
    cases hq : quoB r with
    | none => rw [hq] at h; cases h
    | some p =>
      rw [hq] at h
      simp only at h
      split at h
      · exact other _ _ _ _ _ (by decide) h
      · cases h
  rw [if_neg h6] at h
  by_cases h7 : (c == 46 && endB r) = true
  · rw [if_pos h7] at h; exact other _ _ _ _ _ (by decide) h
  rw [if_neg h7] at h
  by_cases h8 : symB c = true
  · rw [if_pos h8] at h; exact name _ _ h
  rw [if_neg h8] at h
  by_cases h9 : (c == 59 || c == 33) = true
  · rw [if_pos h9] at h; exact name _ _ h
  rw [if_neg h9] at h
  by_cases h10 : ((c == 91 && r.head? == some 93) || (c == 123 && r.head? == some 125)) = true
  · rw [if_pos h10] at h; exact name _ _ h
  rw [if_neg h10] at h
  by_cases h11 : [40, 41, 91, 93, 123, 125, 44, 124].contains c = true
  · rw [if_pos h11] at h; exact other _ _ _ _ _ (by decide) h
  rw [if_neg h11] at h
  cases h
/-- The first token: so many bytes are passed over, then it stands. -/
theorem lex_first : ∀ (n p : Nat) (s : List UInt8) (t : TokB) (q : Nat) (x : List (TokB × Nat)), lexL n p s = some ((t, q) :: x) → ∃ k c r, q = p + k ∧ s.drop k = c :: r ∧ nextC c r = .tok t
  | n, p, [], t, q, x, h => by rw [lex_nil] at h; cases h
  | 0, p, c :: r, t, q, x, h => by cases h
  | n + 1, p, c :: r, t, q, x, h => by
    rw [lexL] at h
    cases hn : nextC c r with
    | skip k =>
      rw [hn] at h
      obtain ⟨j, c', r', rfl, hd, ht⟩ := lex_first n (p + k) _ t q x h
      exact ⟨k + j, c', r', by omega, by rw [← hd, List.drop_drop], ht⟩
    | tok u =>
      rw [hn] at h
      obtain ⟨l, hl, he⟩ := Option.map_eq_some_iff.1 h
      cases he
      exact ⟨0, c, r, by omega, rfl, hn⟩
    | bad o => rw [hn] at h; cases h
theorem plain_short {s : List UInt8} (h : plainB s = true) : 1 ≤ s.length ∧ s.length ≤ 64 := by
  unfold plainB at h
  split at h
  · cases h
  · rename_i c r
    split at h
    · rename_i t ht
      simp only [Bool.and_eq_true, beq_iff_eq] at h
      have := next_short c r t ht h.1
      rw [h.2] at this
      exact ⟨by simp, this⟩
    · cases h
theorem plain_yes {s : List UInt8} (h : plainB s = true) : ∃ t, cutB s = .ok [(t, 0)] ∧ t.kind = 1 ∧ t.text = s := by
  have hl := plain_short h
  obtain ⟨t, h1, h2, h3⟩ := plain_lex h (s.length - 1) 0
  rw [show s.length - 1 + 1 = s.length by omega] at h1
  exact ⟨t, cutB_ok.2 ⟨by omega, h1, by simp⟩, h2, h3⟩
theorem plain_no {s : List UInt8} {t : TokB} {p : Nat} (h : cutB s = .ok [(t, p)]) (hk : t.kind = 1) (ht : t.text = s) : plainB s = true := by
  obtain ⟨_, h1, _⟩ := cutB_ok.1 h
  obtain ⟨k, c, r, _, hd, hn⟩ := lex_first _ _ _ _ _ _ h1
  have e := next_kind c r t hn hk
  have hl := next_len c r
  rw [hn] at hl
  have hl' : t.len ≤ (c :: r).length := hl
  have h2 := congrArg List.length hd
  rw [List.length_drop] at h2
  have h3 := congrArg List.length e
  rw [ht, List.length_take] at h3
  have hp : 1 ≤ (c :: r).length := by simp
  have hk0 : k = 0 := by omega
  subst hk0
  rw [List.drop_zero] at hd
  subst hd
  unfold plainB
  simp only [hn, hk, beq_self_eq_true, Bool.true_and, beq_iff_eq]
  omega
theorem quote_size (s : List UInt8) : (quoteB s).length ≤ 130 := by
  unfold quoteB
  split
  · rename_i h
    have := plain_short h
    omega
  split
  · rename_i h
    simp only [Bool.and_eq_true, decide_eq_true_eq] at h
    have : ∀ l : List UInt8, (l.flatMap escQ).length ≤ 2 * l.length := fun l => by
      induction l with
      | nil => simp
      | cons c r ih =>
        rw [List.flatMap_cons, List.length_append, List.length_cons]
        have : (escQ c).length ≤ 2 := by
          unfold escQ
          split
          · simp
          split
          · simp
          split
          · simp
          split
          · simp
          · simp
        omega
    have := this s
    rw [List.length_cons, List.length_append, List.length_singleton]
    omega
  · simp
end Go.Proofs.YtljgkfdnmikpfaaGreatDoor
/- Package lex: Plain, Quote. -/
namespace Go.Proofs.YtljgkfdnmikpfaaGreatDoor
open Go.RowKit
set_option linter.unusedVariables false

def Toks (w : World) (v : Value) (l : List (TokB × Nat)) : Prop := Elems 5 tCells w v l
theorem Toks.cells {w : World} {a : Option Addr} {n cap : Nat} {l : List (TokB × Nat)} (h : Toks w (.slice a n cap) l) {k : Nat} {x : TokB × Nat} (hx : l[k]? = some x) :
    ∃ b off, a = some ⟨b, off, none⟩ ∧ b < w.heap.size ∧ w.cell? ⟨b, off + k * 5, none⟩ = some (.int .i64 (x.1.kind : Int)) ∧ w.cell? ⟨b, off + k * 5 + 1, none⟩ = some (.string ⟨x.1.text.toArray⟩) ∧ w.cell? ⟨b, off + k * 5 + 2, none⟩ = some (.int .i64 (x.1.n : Int)) ∧ w.cell? ⟨b, off + k * 5 + 3, none⟩ = some (.bool x.1.opens) ∧ w.cell? ⟨b, off + k * 5 + 4, none⟩ = some (.int .i64 (x.2 : Int)) := by
  obtain ⟨a', cap', e, h1, h2, h3⟩ := h
  cases e
  rcases h3 with rfl | ⟨b, off, rfl, hb, hc⟩
  · simp at hx
  · exact ⟨b, off, rfl, hb, hc k x hx 0 _ rfl, by rw [Nat.add_assoc]; exact hc k x hx 1 _ rfl, by rw [Nat.add_assoc]; exact hc k x hx 2 _ rfl, by rw [Nat.add_assoc]; exact hc k x hx 3 _ rfl, by rw [Nat.add_assoc]; exact hc k x hx 4 _ rfl⟩
theorem cut_ok {s : ByteArray} {l : List (TokB × Nat)} {w : World} (he : Err w) (hs : s.size ≤ 140737488351232) (h : cutB (bl s) = .ok l) :
    Calls Tryz.prog 23 #[.string s] w fun e w' => ∃ (ao : Option Addr) (cv : Nat), e = .returned (.tuple #[.slice ao l.length cv, .int .i64 (s.size : Int), .int .i64 0]) ∧ Toks w' (.slice ao l.length cv) l ∧ Below w.heap.size w w' := by
  refine (cut_any s w he hs).mono fun e w' hp => ?_
  rw [h] at hp
  obtain ⟨⟨ao, cv, h1, h2⟩, h3⟩ := hp
  exact ⟨ao, cv, h1, Elems.owned tCells_len h2, h3⟩
theorem cut_bad {s : ByteArray} {p : Nat} {o : Bool} {w : World} (he : Err w) (hs : s.size ≤ 140737488351232) (h : cutB (bl s) = .bad p o) :
    Calls Tryz.prog 23 #[.string s] w fun e w' => e = .returned (.tuple #[.slice none 0 0, .int .i64 (p : Int), .int .i64 (if o then 3 else 2)]) ∧ Below w.heap.size w w' := by
  refine (cut_any s w he hs).mono fun e w' hp => ?_
  rw [h] at hp
  exact hp
set_option maxHeartbeats 1600000 in
theorem plain_any (s : ByteArray) (w : World) (he : Err w) (hs : s.size ≤ 140737488351232) : Calls Tryz.prog 69 #[.string s] w fun e w' => e = .returned (.bool (plainB (bl s))) ∧ Below w.heap.size w w' := by
  have no : ∀ X, cutB (bl s) = X → (∀ t p, X = .ok [(t, p)] → ¬ (t.kind = 1 ∧ t.text = bl s)) → plainB (bl s) = false := fun X hX h => by
    cases hp : plainB (bl s) with
    | false => rfl
    | true =>
      obtain ⟨t, h1, h2⟩ := plain_yes hp
      exact absurd h2 (h t 0 (hX.symm.trans h1))
  cases hX : cutB (bl s) with
  | bad p o =>
    rw [no _ hX (fun t p h => by cases h)]
    have C := fun w h => @cut_bad s p o w h hs hX
    clear no hX
    cases o
    · go_enter Tryz.func69, Tryz.ntmps69
      (go_wp2_with fail; go_fit (C _ he); rintro e w1 ⟨rfl, b1⟩)
      go_wp2
      go_ret
      exact ⟨rfl, b1⟩
    · go_enter Tryz.func69, Tryz.ntmps69
      (go_wp2_with fail; go_fit (C _ he); rintro e w1 ⟨rfl, b1⟩)
      go_wp2
      go_ret
      exact ⟨rfl, b1⟩
  | ok l =>
    have C := fun w h => @cut_ok s l w h hs hX
    by_cases h1 : l.length = 1
    · obtain ⟨⟨t, p⟩, rfl⟩ := List.length_eq_one_iff.1 h1
      have hno := no _ hX
      clear no
      have hyes := fun a b => plain_no hX (t := t) (p := p) a b
      clear hX h1
      have C' : ∀ w, Err w → Calls Tryz.prog 23 #[.string s] w fun e w' => ∃ (ao : Option Addr) (cv : Nat), e = .returned (.tuple #[.slice ao 1 cv, .int .i64 (s.size : Int), .int .i64 0]) ∧ Toks w' (.slice ao 1 cv) [(t, p)] ∧ Below w.heap.size w w' := C
      clear C
      by_cases hk : t.kind = 1
      · by_cases ht : t.text = bl s
        · rw [hyes hk ht]
          have HT := Lib.hid (show (t.text == s.toList) = true by rw [Lib.toList_data, ht]; exact beq_self_eq_true _)
          clear hno hyes ht
          go_enter Tryz.func69, Tryz.ntmps69
          (go_wp2_with fail; go_fit (C' _ he); rintro e w1 ⟨ao, cv, rfl, ht1, b1⟩)
          obtain ⟨b, off, rfl, hb, c0, c1, c2, c3, c4⟩ := ht1.cells (k := 0) (x := (t, p)) rfl
          simp only [Nat.zero_mul, Nat.add_zero] at c0 c1 c2 c3 c4
          simp only [hk] at c0
          go_wp2
          go_ret
          exact ⟨ret_bool HT.out, b1⟩
        · rw [hno (fun t' p' e h => by cases e; exact ht h.2)]
          have HT := Lib.hid (show (t.text == s.toList) = false by rw [Lib.toList_data]; exact beq_false_of_ne ht)
          clear hno hyes ht
          go_enter Tryz.func69, Tryz.ntmps69
          (go_wp2_with fail; go_fit (C' _ he); rintro e w1 ⟨ao, cv, rfl, ht1, b1⟩)
          obtain ⟨b, off, rfl, hb, c0, c1, c2, c3, c4⟩ := ht1.cells (k := 0) (x := (t, p)) rfl
          simp only [Nat.zero_mul, Nat.add_zero] at c0 c1 c2 c3 c4
          simp only [hk] at c0
          go_wp2
          go_ret
          exact ⟨ret_bool HT.out, b1⟩
      · rw [hno (fun t' p' e h => by cases e; exact hk h.1)]
        have hk' : ((t.kind : Int) == 1) = false := by
          apply beq_false_of_ne
          intro e
          exact hk (by omega)
        clear hno hyes hk
        obtain ⟨z, hz⟩ : ∃ z : Int, (t.kind : Int) = z := ⟨_, rfl⟩
        go_enter Tryz.func69, Tryz.ntmps69
        (go_wp2_with fail; go_fit (C' _ he); rintro e w1 ⟨ao, cv, rfl, ht1, b1⟩)
        obtain ⟨b, off, rfl, hb, c0, c1, c2, c3, c4⟩ := ht1.cells (k := 0) (x := (t, p)) rfl
        simp only [Nat.zero_mul, Nat.add_zero] at c0 c1 c2 c3 c4
        simp only [hz] at c0 hk'
        clear hz
        go_wp2
        go_ret
        exact ⟨rfl, b1⟩
    · rw [no _ hX (fun t p h => by cases h; simp at h1)]
      clear no hX
      have h1' : ((l.length : Int) == 1) = false := by
        apply beq_false_of_ne
        intro e
        exact h1 (by omega)
      generalize hn : l.length = n at C h1'
      clear hn h1
      go_enter Tryz.func69, Tryz.ntmps69
      (go_wp2_with fail; go_fit (C _ he); rintro e w1 ⟨ao, cv, rfl, ht1, b1⟩)
      go_wp2
      go_ret
      exact ⟨rfl, b1⟩
end Go.Proofs.YtljgkfdnmikpfaaGreatDoor
/- A region that draws its order, walked operation by operation while a condition holds. Nothing here speaks of one program. -/
namespace Go
section
variable {P : Program} {md : Region.Mode} {ops : Array Oper} {Q : Exit → Act → World → Prop} {S : World → Prop}
theorem held_t {i : Nat} {oi : Oper} {fuel : Nat} {listed : Array Bool} {a : Act} {w : World} (hS : S w)
    (h : ∃ v, (∀ w, S w → (execOp a.eval oi).run P w = .ok (.value v) w) ∧ wpAnyH P md ops Q S fuel (listed.setIfInBounds i true) (a.put oi.dst v) w)
    (hi : ops[i]? = some oi := by simp only [List.getElem?_toArray, List.getElem?_cons_zero, List.getElem?_cons_succ]; rfl)
    (hs : Region.noSelect ops = true := by kernel_rfl) (hf : Region.free md ops listed i = true := by kernel_rfl) (hr : (Region.ready md ops listed).contains i = true := by kernel_rfl) (hw : Region.wanted oi (yielded ops a.tmps) = true := by rfl)
    (hQ : ∀ v c a w, Q (.panic c) (a.put oi.dst v) w → Q (.panic c) a w := by exact fun _ _ _ _ h => h) : wpAnyH P md ops Q S (fuel + 1) listed a w := by
  obtain ⟨v, h1, h2⟩ := h
  exact wpAnyH_take hi hs hf hr (hQ v) (Or.inl ⟨hw, h1⟩) hS h2
theorem held_s {i : Nat} {oi : Oper} {fuel : Nat} {listed : Array Bool} {a : Act} {w : World} (hS : S w) (h : wpAnyH P md ops Q S fuel (listed.setIfInBounds i true) (a.put oi.dst undef) w)
    (hi : ops[i]? = some oi := by simp only [List.getElem?_toArray, List.getElem?_cons_zero, List.getElem?_cons_succ]; rfl)
    (hs : Region.noSelect ops = true := by kernel_rfl) (hf : Region.free md ops listed i = true := by kernel_rfl) (hr : (Region.ready md ops listed).contains i = true := by kernel_rfl) (hw : Region.wanted oi (yielded ops a.tmps) = false := by rfl)
    (hQ : ∀ c a w, Q (.panic c) (a.put oi.dst undef) w → Q (.panic c) a w := by exact fun _ _ _ h => h) : wpAnyH P md ops Q S (fuel + 1) listed a w :=
  wpAnyH_take hi hs hf hr hQ (Or.inr ⟨hw, rfl⟩) hS h
theorem held_c (i : Nat) {o : Oper} {fuel : Nat} {listed : Array Bool} {a : Act} {w : World}
    (h : ∀ K' : Act → World → Prop, Shut (∀ a w, S w → (S w → wpAnyH P md ops Q S fuel (listed.setIfInBounds i true) a w) → K' a w) → if Region.wanted o (yielded ops a.tmps) = true then Oper.wp P o a w K' Q else K' (a.put o.dst undef) w)
    (hr : Region.ready md ops listed = [i] := by kernel_rfl) (hi : ops[i]? = some o := by simp only [List.getElem?_toArray, List.getElem?_cons_zero, List.getElem?_cons_succ]; rfl) : wpAnyH P md ops Q S (fuel + 1) listed a w :=
  wpAnyH_ready hr (by simp) (AllReadyH.cons hi h AllReadyH.nil)
end
end Go
/- The project's reader in memory: its operators, what is not read yet, its variables. -/
namespace Go.Proofs.YtljgkfdnmikpfaaGreatDoor
open Go.RowKit
set_option linter.unusedVariables false

abbrev preO (xs : List O) (n : List UInt8) : O × Bool := oneB xs n 1
abbrev betO (xs : List O) (n : List UInt8) : O × Bool := oneB xs n 2
theorem Elems.stay {α : Type} {S : Nat} {cells : α → List Value} {w w' : World} {v : Value} {xs : List α} (h : Elems S cells w v xs) (hb : Stays w w') : Elems S cells w' v xs := by
  obtain ⟨a, cap, h1, h2, h3, h6⟩ := h
  refine ⟨a, cap, h1, h2, h3, ?_⟩
  rcases h6 with h6 | ⟨b, off, e1, e2, e3⟩
  · exact Or.inl h6
  · exact Or.inr ⟨b, off, e1, Nat.lt_of_lt_of_le e2 hb.1, fun i x hx j u hu => hb.2 _ _ (e3 i x hx j u hu)⟩
/-- Of the old blocks only those of M have turned; of them the same are not looked at, the same turn. -/
structure Turn (D M D' M' : Nat → Bool) (w w' : World) : Prop where
  size : w.heap.size ≤ w'.heap.size
  dd : ∀ k, k < w.heap.size → D' k = D k
  mm : ∀ k, k < w.heap.size → M' k = M k
  kept : ∀ k, k < w.heap.size → M k = false → w'.heap[k]? = w.heap[k]?
  ot : Below 0 w w'
theorem Turn.refl (D M : Nat → Bool) (w : World) : Turn D M D M w w := ⟨Nat.le_refl _, fun _ _ => rfl, fun _ _ => rfl, fun _ _ _ => rfl, Below.refl _ _⟩
theorem Turn.trans {D M D' M' D2 M2 : Nat → Bool} {a b c : World} (h : Turn D M D' M' a b) (g : Turn D' M' D2 M2 b c) : Turn D M D2 M2 a c :=
  ⟨Nat.le_trans h.size g.size, fun k hk => (g.dd k (Nat.lt_of_lt_of_le hk h.size)).trans (h.dd k hk), fun k hk => (g.mm k (Nat.lt_of_lt_of_le hk h.size)).trans (h.mm k hk),
    fun k hk hm => (g.kept k (Nat.lt_of_lt_of_le hk h.size) ((h.mm k hk).trans hm)).trans (h.kept k hk hm), h.ot.trans g.ot⟩
theorem Turn.below {D M : Nat → Bool} {w w' : World} (h : Below w.heap.size w w') : Turn D M D M w w' := ⟨h.size, fun _ _ => rfl, fun _ _ => rfl, fun k hk _ => h.block k hk, h.mono (Nat.zero_le _)⟩
theorem Turn.stays {D M D' M' : Nat → Bool} {w w' : World} (h : Turn D M D' M' w w') (md : ∀ k, M k = true → D k = true) : Stays (hide D w) (hide D' w') :=
  Stays.hide h.size fun k hk hd => ⟨(h.dd k hk).trans hd, h.kept k hk (by cases hm : M k with | false => rfl | true => rw [md k hm] at hd; cases hd)⟩
theorem Turn.cell {D M D' M' : Nat → Bool} {w w' : World} (h : Turn D M D' M' w w') {b j : Nat} {v : Value} (hm : M b = false) (hc : w.cell? ⟨b, j, none⟩ = some v) : w'.cell? ⟨b, j, none⟩ = some v := by
  rw [World.cell?_of_block (h.kept b (World.block_lt_of_cell? _ _ hc) hm)]; exact hc
theorem Turn.froz {D M D' M' : Nat → Bool} {w w' : World} (h : Turn D M D' M' w w') {b j : Nat} (hb : b < w.heap.size) (hm : M b = false) (hc : w.frozen? ⟨b, j, none⟩ = false) : w'.frozen? ⟨b, j, none⟩ = false := by
  rw [World.frozen?_of_block (h.kept b hb hm)]; exact hc
/-- As many blocks as lie below n and don't turn are as they were. -/
theorem Turn.bel {D M D' M' : Nat → Bool} {w w' : World} (h : Turn D M D' M' w w') {n : Nat} (hn : n ≤ w.heap.size) (hm : ∀ k, k < n → M k = false) : Below n w w' :=
  ⟨h.ot.os, h.ot.tape, h.ot.output, h.size, fun k hk => h.kept k (Nat.lt_of_lt_of_le hk hn) (hm k hk)⟩
/-- A block of one's own that turns in the end. -/
theorem Turn.set {D M D' M' : Nat → Bool} {w w' : World} (h : Turn D M D' M' w w') (a : Addr) (u : Value) (ha : w.heap.size ≤ a.block ∨ M a.block = true) : Turn D M D' M' w (w'.setCell a u) :=
  ⟨Nat.le_trans h.size (by simp [World.setCell]), h.dd, h.mm, fun k hk hm => (Below.heap_setCell w' a u k (fun e => by
    rcases ha with ha | ha
    · omega
    · rw [e, ha] at hm; cases hm)).trans (h.kept k hk hm), h.ot.setCell (Nat.zero_le _) u⟩
theorem row_at {w w' : World} {B k n : Nat} {e : TypeId} {v : Value} {xs : List Value} (h : w.ownsRow B e k v n xs) (hb : ∀ g, v.ownBlock = some g → w'.heap[g]? = w.heap[g]?) : w'.ownsRow B e k v n xs := by
  obtain ⟨h0, h1⟩ := h
  refine ⟨h0, ?_⟩
  rcases h1 with h1 | ⟨g, cap, cur, rfl, hg, hh, h2⟩
  · exact Or.inl h1
  · exact Or.inr ⟨g, cap, cur, rfl, hg, by rw [hb g rfl]; exact hh, h2⟩
theorem row_in {w : World} {B k n : Nat} {e : TypeId} {v : Value} {xs : List Value} (h : w.ownsRow B e k v n xs) {g : Nat} (hg : v.ownBlock = some g) : B ≤ g ∧ g < w.heap.size := by
  rcases h.2 with ⟨rfl, _⟩ | ⟨g', cap, cur, rfl, h1, h2, _⟩
  · cases hg
  · cases hg
    exact ⟨h1, (Array.getElem?_eq_some_iff.1 h2).1⟩
/-- One more block is not looked at. -/
def plusB (D : Nat → Bool) (b : Nat) : Nat → Bool := fun k => k == b || D k
theorem plusB_self (D : Nat → Bool) (b : Nat) : plusB D b b = true := by simp [plusB]
theorem plusB_of {D : Nat → Bool} {b k : Nat} (h : D k = true) : plusB D b k = true := by simp [plusB, h]
theorem plusB_ne {D : Nat → Bool} {b k : Nat} (h : k ≠ b) : plusB D b k = D k := by simp [plusB, h]
/-- A box of one's own is looked at no more. -/
theorem Turn.box {D M D' M' : Nat → Bool} {w w' : World} {b : Nat} (h : Turn (plusB D b) M D' M' w w') (hb : w.heap.size ≤ b) : Turn D M D' M' w w' :=
  ⟨h.size, fun k hk => (h.dd k hk).trans (plusB_ne (by omega)), h.mm, h.kept, h.ot⟩
theorem Turn.into {D M : Nat → Bool} {w w' : World} (h : Below w.heap.size w w') {b : Nat} (hb : w.heap.size ≤ b) : Turn D M (plusB D b) M w w' :=
  ⟨h.size, fun k hk => plusB_ne (by omega), fun _ _ => rfl, fun k hk _ => h.block k hk, h.mono (Nat.zero_le _)⟩
/-- A box of one's own with these values. -/
structure Box (w : World) (b : Nat) (vs : List Value) : Prop where
  cells : ∀ j u, vs[j]? = some u → w.cell? ⟨b, j, none⟩ = some u
  fz : ∀ j, w.frozen? ⟨b, j, none⟩ = false
  lt : b < w.heap.size
theorem box_new (w : World) (cs : Array Value) (ty : TypeId) : ∃ w1, w.alloc (.cells cs ty) = w1 ∧ Below w.heap.size w w1 ∧ w1.heap.size = w.heap.size + 1 ∧ Box w1 w.heap.size cs.toList := by
  refine ⟨_, rfl, bel1' _ _, by simp, fun j u h => ?_, fun j => by simp, by simp⟩
  have := cell_new w cs ty j u h
  rw [add_plain, Nat.zero_add] at this
  exact this
theorem Box.ext {w w' : World} {b : Nat} {vs : List Value} (h : Box w b vs) (hb : Below w.heap.size w w') : Box w' b vs :=
  ⟨fun j u hu => cell_later hb (h.cells j u hu), fun j => (hb.frozen (p := ⟨b, j, none⟩) h.lt).trans (h.fz j), Nat.lt_of_lt_of_le h.lt hb.size⟩
theorem Box.turn {D M D' M' : Nat → Bool} {w w' : World} {b : Nat} {vs : List Value} (h : Box w b vs) (ht : Turn D M D' M' w w') (hm : M b = false) : Box w' b vs :=
  ⟨fun j u hu => ht.cell hm (h.cells j u hu), fun j => ht.froz h.lt hm (h.fz j), Nat.lt_of_lt_of_le h.lt ht.size⟩
theorem Box.far {w : World} {b c k : Nat} {u : Value} {vs : List Value} (h : Box w b vs) (hne : b ≠ c) : Box (w.setCell ⟨c, k, none⟩ u) b vs :=
  ⟨fun j v hv => by
    rw [World.cell?_setCell_other]
    · exact h.cells j v hv
    · intro e; injection e with e _ _; exact hne e.symm, fun j => by rw [World.frozen?_setCell]; exact h.fz j, by have := h.lt; simpa [World.setCell] using this⟩
theorem Box.set {w : World} {b k : Nat} {u : Value} {vs : List Value} (h : Box w b vs) (hk : k < vs.length) : Box (w.setCell ⟨b, k, none⟩ u) b (vs.set k u) :=
  ⟨fun j v hv => by
    by_cases hj : j = k
    · subst hj
      rw [List.getElem?_set_self hk] at hv
      injection hv with hv
      subst hv
      exact css (h.cells j _ (List.getElem?_eq_getElem hk))
    · rw [List.getElem?_set_ne (by omega)] at hv
      rw [World.cell?_setCell_other]
      · exact h.cells j v hv
      · intro e; injection e with _ e _; exact hj e.symm, fun j => by rw [World.frozen?_setCell]; exact h.fz j, by have := h.lt; simpa [World.setCell] using this⟩
theorem Box.five {w : World} {b : Nat} {v0 v1 v2 v3 v4 : Value} (h : Box w b [v0, v1, v2, v3, v4]) : w.cell? ⟨b, 0, none⟩ = some v0 ∧ w.cell? ⟨b, 1, none⟩ = some v1 ∧ w.cell? ⟨b, 2, none⟩ = some v2 ∧ w.cell? ⟨b, 3, none⟩ = some v3 ∧ w.cell? ⟨b, 4, none⟩ = some v4 ∧ ∀ j, w.frozen? ⟨b, j, none⟩ = false :=
  ⟨h.cells 0 _ rfl, h.cells 1 _ rfl, h.cells 2 _ rfl, h.cells 3 _ rfl, h.cells 4 _ rfl, h.fz⟩
theorem Box.four {w : World} {b : Nat} {v0 v1 v2 v3 : Value} (h : Box w b [v0, v1, v2, v3]) : w.cell? ⟨b, 0, none⟩ = some v0 ∧ w.cell? ⟨b, 1, none⟩ = some v1 ∧ w.cell? ⟨b, 2, none⟩ = some v2 ∧ w.cell? ⟨b, 3, none⟩ = some v3 ∧ ∀ j, w.frozen? ⟨b, j, none⟩ = false :=
  ⟨h.cells 0 _ rfl, h.cells 1 _ rfl, h.cells 2 _ rfl, h.cells 3 _ rfl, h.fz⟩
theorem Box.three {w : World} {b : Nat} {v0 v1 v2 : Value} (h : Box w b [v0, v1, v2]) : w.cell? ⟨b, 0, none⟩ = some v0 ∧ w.cell? ⟨b, 1, none⟩ = some v1 ∧ w.cell? ⟨b, 2, none⟩ = some v2 ∧ ∀ j, w.frozen? ⟨b, j, none⟩ = false :=
  ⟨h.cells 0 _ rfl, h.cells 1 _ rfl, h.cells 2 _ rfl, h.fz⟩
abbrev set3 (w : World) (b : Nat) (u0 u1 u2 : Value) : World := ((w.setCell ⟨b, 0, none⟩ u0).setCell ⟨b, 1, none⟩ u1).setCell ⟨b, 2, none⟩ u2
abbrev set4 (w : World) (b : Nat) (u0 u1 u2 u3 : Value) : World := (set3 w b u0 u1 u2).setCell ⟨b, 3, none⟩ u3
theorem Turn.set3 {D M D' M' : Nat → Bool} {w w' : World} (h : Turn D M D' M' w w') {b : Nat} (hb : w.heap.size ≤ b ∨ M b = true) (u0 u1 u2 : Value) : Turn D M D' M' w (Go.Proofs.YtljgkfdnmikpfaaGreatDoor.set3 w' b u0 u1 u2) :=
  ((h.set ⟨b, 0, none⟩ u0 hb).set ⟨b, 1, none⟩ u1 hb).set ⟨b, 2, none⟩ u2 hb
theorem Turn.set4 {D M D' M' : Nat → Bool} {w w' : World} (h : Turn D M D' M' w w') {b : Nat} (hb : w.heap.size ≤ b ∨ M b = true) (u0 u1 u2 u3 : Value) : Turn D M D' M' w (Go.Proofs.YtljgkfdnmikpfaaGreatDoor.set4 w' b u0 u1 u2 u3) :=
  (h.set3 hb u0 u1 u2).set ⟨b, 3, none⟩ u3 hb
end Go.Proofs.YtljgkfdnmikpfaaGreatDoor
/- The project's reader: next, take, takes. -/
namespace Go.Proofs.YtljgkfdnmikpfaaGreatDoor
open Go.RowKit
set_option linter.unusedVariables false

theorem far_cell {w : World} {b j c k : Nat} {u : Value} (hne : b ≠ c) : (w.setCell ⟨c, k, none⟩ u).cell? ⟨b, j, none⟩ = w.cell? ⟨b, j, none⟩ := by
  rw [World.cell?_setCell_other]
  intro e; injection e with e _ _; exact hne e.symm
theorem near_cell {w : World} {rb j k : Nat} {u : Value} (hk : j ≠ k) : (w.setCell ⟨rb, k, none⟩ u).cell? ⟨rb, j, none⟩ = w.cell? ⟨rb, j, none⟩ := by
  rw [World.cell?_setCell_other]
  intro e; injection e with _ e _; exact hk e.symm
end Go.Proofs.YtljgkfdnmikpfaaGreatDoor
/- Rows of numbers; a term's variables' numbers, one behind the other. -/
namespace Go.Proofs.YtljgkfdnmikpfaaGreatDoor
open Go.RowKit
set_option linter.unusedVariables false

/-- A row of numbers of 64 bits. -/
def Nums (w : World) (v : Value) (l : List Int) : Prop := Elems 1 (fun n => [Value.int .i64 n]) w v l
theorem Nums.ext {w w' : World} {v : Value} {l : List Int} (h : Nums w v l) (hb : Below w.heap.size w w') : Nums w' v l := Elems.ext h hb
theorem Nums.nil (w : World) : Nums w (.slice none 0 0) [] := ⟨none, 0, rfl, Nat.le_refl _, Nat.zero_le _, Or.inl rfl⟩
theorem Nums.get {w : World} {a : Option Addr} {m c : Nat} {l : List Int} (h : Nums w (.slice a m c) l) {i : Nat} {x : Int} (hx : l[i]? = some x) : ∃ b off, a = some ⟨b, off, none⟩ ∧ b < w.heap.size ∧ w.cell? ⟨b, off + i, none⟩ = some (.int .i64 x) := by
  obtain ⟨a', c', e, h1, h2, h3⟩ := h
  cases e
  rcases h3 with rfl | ⟨b, off, rfl, hb, hc⟩
  · simp at hx
  · exact ⟨b, off, rfl, hb, by have := hc i x hx 0 _ rfl; simpa using this⟩
theorem Nums.len {w : World} {v : Value} {l : List Int} (h : Nums w v l) : ∃ a c, v = .slice a l.length c ∧ l.length ≤ c ∧ c ≤ maxLen := by
  obtain ⟨a, c, h1, h2, h3, _⟩ := h
  exact ⟨a, c, h1, h2, h3⟩
abbrev numCells (n : Int) : List Value := [Value.int .i64 n]
/-- A row of numbers of the call's own. -/
def RowN (w : World) (base : Nat) (v : Value) (l : List Int) : Prop := w.ownsRow base 2 1 v l.length (l.flatMap numCells)
theorem RowN.nums {w : World} {base : Nat} {v : Value} {l : List Int} (h : RowN w base v l) : Nums w v l := Elems.owned (cells := numCells) (fun _ => rfl) h
theorem RowN.nil (w : World) (base : Nat) : RowN w base (.slice none 0 0) [] := World.ownsRow_nil _ _ _ _
mutual
theorem vars_len : ∀ (t : Tm) (l : List Int), (varsT t l).length ≤ l.length + sizeN t ∧ l.length ≤ (varsT t l).length
  | .mk k n s ts, l => by
    rw [varsT, sizeN]
    by_cases hk : k = 0
    · rw [if_pos hk]
      split
      · omega
      · rw [List.length_append, List.length_singleton]; omega
    · rw [if_neg hk]
      have := varss_len ts l
      omega
theorem varss_len : ∀ (ts : List Tm) (l : List Int), (varsL ts l).length ≤ l.length + sizesN ts ∧ l.length ≤ (varsL ts l).length
  | [], l => by rw [varsL, sizesN]; omega
  | x :: r, l => by
    rw [varsL, sizesN]
    have h1 := vars_len x l
    have h2 := varss_len r (varsT x l)
    omega
end
theorem varss_step {ts : List Tm} {i : Nat} {y : Tm} (h : ts[i]? = some y) (l : List Int) : varsL (ts.take (i + 1)) l = varsT y (varsL (ts.take i) l) := by
  induction ts generalizing i l with
  | nil => simp at h
  | cons x r ih =>
    cases i with
    | zero => simp at h; subst h; simp [varsL]
    | succ i =>
      simp only [List.take_succ_cons, varsL]
      exact ih (by simpa using h) _
/-- Of what was there nothing has turned but one block. -/
def Kept (w w' : World) (row : Option Nat) : Prop := w.heap.size ≤ w'.heap.size ∧ ∀ k, k < w.heap.size → row ≠ some k → w'.heap[k]? = w.heap[k]?
theorem Kept.of {w w' : World} (h : Below w.heap.size w w') (row : Option Nat) : Kept w w' row := ⟨h.size, fun k hk _ => h.block k hk⟩
theorem Kept.cell {w w' : World} {row : Option Nat} (h : Kept w w' row) {b j : Nat} {u : Value} (hne : row ≠ some b) (hc : w.cell? ⟨b, j, none⟩ = some u) : w'.cell? ⟨b, j, none⟩ = some u := by
  have hb : b < w.heap.size := World.block_lt_of_cell? _ _ hc
  rw [World.cell?_of_block (w := w) (h.2 b hb hne)]
  exact hc
theorem Kept.trans {w w1 w2 : World} {r1 r2 : Option Nat} (h1 : Kept w w1 r1) (h2 : Kept w1 w2 r2) (hr : r2 = r1 ∨ ∀ k, r2 = some k → w.heap.size ≤ k) : Kept w w2 r1 :=
  ⟨Nat.le_trans h1.1 h2.1, fun k hk hne => by
    rw [h2.2 k (Nat.lt_of_lt_of_le hk h1.1) (fun e => by
      rcases hr with hr | hr
      · exact hne (by rw [← hr]; exact e)
      · have := hr k e; omega), h1.2 k hk hne]⟩
theorem infoI64 : (Tryz.prog.info? 2).map (fun i => (i.zero, i.size, i.bytes)) = some (some (.int .i64 0), 1, 8) := by kernel_rfl
end Go.Proofs.YtljgkfdnmikpfaaGreatDoor
/- Package lex: Quote. -/
namespace Go.Proofs.YtljgkfdnmikpfaaGreatDoor
open Go.RowKit
set_option linter.unusedVariables false

theorem short_is : ∀ c, (match shortB c with | some d => mayQ c && (escQ c == [92, d]) | none => if shownB c then mayQ c && (escQ c == [c]) else !mayQ c) = true := u8_all (g := fun _ => true) (by decide +kernel)
theorem short_yes {c d : UInt8} (h : shortB c = some d) : mayQ c = true ∧ escQ c = [92, d] := by
  have := short_is c
  rw [h] at this
  simp only [Bool.and_eq_true, beq_iff_eq] at this
  exact this
theorem short_plain {c : UInt8} (h : shortB c = none) (hs : shownB c = true) : mayQ c = true ∧ escQ c = [c] := by
  have := short_is c
  rw [h] at this
  simp only [hs, if_true, Bool.and_eq_true, beq_iff_eq] at this
  exact this
theorem short_ill {c : UInt8} (h : shortB c = none) (hs : shownB c = false) : mayQ c = false := by
  have := short_is c
  rw [h] at this
  simp only [hs] at this
  simpa using this
theorem RowB.join {w : World} {base : Nat} {v : Value} {l : List UInt8} {n : Nat} (m : List UInt8) (hn : n = l.length + m.length) (h : w.ownsRow base 5 1 v n (bytesV l ++ bytesV m)) : RowB w base v (l ++ m) := by
  subst hn
  unfold RowB
  rw [List.length_append]
  unfold bytesV at h ⊢
  rw [List.map_append]
  exact h
theorem bytesV_one (m : List UInt8) : ∀ u ∈ bytesV m, u.oneCell' = true := by
  intro u hu
  obtain ⟨c, _, rfl⟩ := List.mem_map.1 hu
  rfl
theorem quote_long {l : List UInt8} (h : 64 < l.length) : quoteB l = [] := by
  unfold quoteB
  rw [if_neg, if_neg]
  · intro e
    simp only [Bool.and_eq_true, decide_eq_true_eq] at e
    omega
  · intro e
    have := plain_short e
    omega
set_option maxRecDepth 100000 in
set_option maxHeartbeats 4000000 in
theorem quote_any (s : ByteArray) (w : World) (he : Err w) (hs : s.size ≤ 140737488351232) : Calls Tryz.prog 39 #[.string s] w fun e w' => e = .returned (.string ⟨(quoteB (bl s)).toArray⟩) ∧ Below w.heap.size w w' := by
  by_cases hbig : 64 < s.size
  · rw [quote_long (show 64 < (bl s).length from hbig)]
    go_enter Tryz.func39, Tryz.ntmps39
    go_wp2
    go_ret
    exact ⟨rfl, Below.refl _ _⟩
  have P := fun w h => plain_any s w h hs
  cases hp : plainB (bl s)
  · rw [hp] at P
    have hQ : quoteB (bl s) = if (bl s).all mayQ then 39 :: ((bl s).flatMap escQ ++ [39]) else [] := by
      unfold quoteB
      rw [if_neg (by rw [hp]; simp)]
      have : decide ((bl s).length ≤ 64) = true := decide_eq_true (show s.size ≤ 64 by omega)
      rw [this, Bool.true_and]
    generalize quoteB (bl s) = Q at hQ
    have HQ := Lib.hid hQ
    clear hp hQ
    obtain ⟨i0, hi0, hz0, hs0, hb0⟩ := info_parts infoU8
    have hini := fun (w1 : World) (h : w.heap.size ≤ w1.heap.size) => World.ownsRow_lit (e := 5) (size := 1) (base := w.heap.size) w1 #[.int .u8 39] 1 h (by unfold maxLen; omega) rfl
    have HINI := Lib.hid hini
    clear hini
    go_enter Tryz.func39, Tryz.ntmps39
    (go_wp2_with fail; go_fit (P _ he); rintro e w1 ⟨rfl, b1⟩)
    have B1 := Lib.hid b1
    clear b1
    go_wp2_with fail
    go_loopw [3, 17] (fun o v wr => ∃ (k : Nat) (ao : Option Addr) (n cv : Nat) (l : List UInt8), k ≤ s.size ∧ v = .int .i64 k ∧ o = .slice ao n cv ∧ n = l.length ∧ n ≤ 2 * k + 1 ∧ Hid (RowB wr w.heap.size o l) ∧ Hid (Below w.heap.size w wr) ∧
        Hid (l = 39 :: ((bl s).take k).flatMap escQ ∧ ((bl s).take k).all mayQ = true)) (fun _ v _ => s.size - (intOf v).toNat)
    case atStart =>
      exact ⟨0, _, 1, 1, [39], Nat.zero_le _, rfl, rfl, rfl, by omega, Lib.hid (HINI.out w1 B1.out.size), Lib.hid (B1.out.alloc B1.out.size _), Lib.hid ⟨rfl, rfl⟩⟩
    case round =>
      obtain ⟨k, ao, n, cv, l, hk, rfl, rfl, hnl, hn2, HR, HB, HL⟩ := hrel
      have HNL := Lib.hid hnl
      clear hnl
      have hwr : w.heap.size ≤ wr.heap.size := HB.out.size
      by_cases hlt : k < s.size
      · have htk : (bl s).take (k + 1) = (bl s).take k ++ [s[k]] := by
          rw [List.take_add_one, List.getElem?_eq_getElem (show k < (bl s).length from hlt)]
          rfl
        have HTK := Lib.hid htk
        clear htk
        cases hsh : shortB s[k] with
        | some d =>
          obtain ⟨hm, hq⟩ := short_yes hsh
          have SH := fun w => short_some s[k] d w hsh
          have HN : Hid (l ++ [92, d] = 39 :: ((bl s).take (k + 1)).flatMap escQ ∧ ((bl s).take (k + 1)).all mayQ = true) := Lib.hid ⟨by
            rw [HTK.out, List.flatMap_append, List.flatMap_singleton, hq, HL.out.1, List.cons_append], by rw [HTK.out, List.all_append, HL.out.2]; simp [hm]⟩
          have HRR : Hid (wr.ownsRow w.heap.size 5 1 (.slice ao n cv) n (bytesV l)) := Lib.hid (by have := HR.out; rw [HNL.out] at this ⊢; exact this)
          clear hsh hm hq HL HTK
          go_wp2_with (first
            | (go_at_call 70; go_fit (SH _); rintro e w' ⟨rfl, rfl⟩)
            | (at_builtin; refine wpList_append_k rfl _ _ 97 rfl w.heap.size 5 i0 (.int .u8 0) 1 1 Tryz.underlying97 hi0 hz0 hs0 (by decide) hb0 rfl (.slice ao n cv) n (bytesV l) rfl (HRR.out.alloc _) _ 2 2 (bytesV [92, d]) rfl rfl (Or.inr ⟨_, rfl, fun j u hu => cell_new _ _ _ j u hu⟩) (bytesV_one _) (by unfold maxLen; omega) (by omega) (by simp; omega) (n + 2) (bytesV l ++ bytesV [92, d]) rfl rfl ?_; intro a4 c4 w4 hown4 hgrow4 hat4))
          go_roundw
          case rel =>
            exact ⟨k + 1, a4, n + 2, c4, l ++ [92, d], by omega, by go_num, rfl, by rw [List.length_append, HNL.out]; rfl, by omega, Lib.hid (RowB.join [92, d] (by rw [HNL.out]; rfl) hown4), Lib.hid ((HB.out.alloc hwr _).grown hgrow4 (by simp; omega) (fun q hq => (HRR.out.lt q hq).1)), HN⟩
          case measure => simp [intOf]; omega
        | none =>
          have SH := fun w => short_none s[k] w hsh
          have SW := fun w => shown_any s[k] w
          cases hsw : shownB s[k]
          · have hm := short_ill hsh hsw
            rw [hsw] at SW
            have HF : Hid ((bl s).all mayQ = false) := Lib.hid (by
              rw [List.all_eq_false]
              exact ⟨(bl s)[k]'hlt, List.getElem_mem _, by show ¬ mayQ s[k] = true; rw [hm]; simp⟩)
            clear hsh hsw hm HL HTK
            go_wp2_with (first | (go_at_call 70; go_fit (SH _); rintro e w' ⟨rfl, rfl⟩) | (go_at_call 71; go_fit (SW _); rintro e w' ⟨rfl, rfl⟩))
            go_ret
            exact ⟨by rw [HQ.out, HF.out]; rfl, HB.out⟩
          · obtain ⟨hm, hq⟩ := short_plain hsh hsw
            rw [hsw] at SW
            have HN : Hid (l ++ [s[k]] = 39 :: ((bl s).take (k + 1)).flatMap escQ ∧ ((bl s).take (k + 1)).all mayQ = true) := Lib.hid ⟨by
              rw [HTK.out, List.flatMap_append, List.flatMap_singleton, hq, HL.out.1, List.cons_append], by rw [HTK.out, List.all_append, HL.out.2]; simp [hm]⟩
            have HRR : Hid (wr.ownsRow w.heap.size 5 1 (.slice ao n cv) n (bytesV l)) := Lib.hid (by have := HR.out; rw [HNL.out] at this ⊢; exact this)
            clear hsh hsw hm hq HL HTK
            go_wp2_with (first
              | (go_at_call 70; go_fit (SH _); rintro e w' ⟨rfl, rfl⟩)
              | (go_at_call 71; go_fit (SW _); rintro e w' ⟨rfl, rfl⟩)
              | (at_builtin; refine wpList_append_k rfl _ _ 97 rfl w.heap.size 5 i0 (.int .u8 0) 1 1 Tryz.underlying97 hi0 hz0 hs0 (by decide) hb0 rfl (.slice ao n cv) n (bytesV l) rfl (HRR.out.alloc _) _ 1 1 (bytesV [s[k]]) rfl rfl (Or.inr ⟨_, rfl, fun j u hu => cell_new _ _ _ j u hu⟩) (bytesV_one _) (by unfold maxLen; omega) (by omega) (by simp; omega) (n + 1) (bytesV l ++ bytesV [s[k]]) rfl rfl ?_; intro a4 c4 w4 hown4 hgrow4 hat4))
            go_roundw
            case rel =>
              exact ⟨k + 1, a4, n + 1, c4, l ++ [s[k]], by omega, by go_num, rfl, by rw [List.length_append, HNL.out]; rfl, by omega, Lib.hid (RowB.join [s[k]] (by rw [HNL.out]; rfl) hown4), Lib.hid ((HB.out.alloc hwr _).grown hgrow4 (by simp; omega) (fun q hq => (HRR.out.lt q hq).1)), HN⟩
            case measure => simp [intOf]; omega
      · have hkn : k = s.size := by omega
        have HF : Hid ((if (bl s).all mayQ then 39 :: ((bl s).flatMap escQ ++ [39]) else []) = l ++ [39]) := Lib.hid (by
          have h := HL.out
          rw [hkn, List.take_of_length_le (by rw [bl_len]; omega)] at h
          rw [h.2, h.1]
          rfl)
        have HRR : Hid (wr.ownsRow w.heap.size 5 1 (.slice ao n cv) n (bytesV l)) := Lib.hid (by have := HR.out; rw [HNL.out] at this ⊢; exact this)
        clear hkn HL
        go_wp2_with (at_builtin; refine wpList_append_k rfl _ _ 97 rfl w.heap.size 5 i0 (.int .u8 0) 1 1 Tryz.underlying97 hi0 hz0 hs0 (by decide) hb0 rfl (.slice ao n cv) n (bytesV l) rfl (HRR.out.alloc _) _ 1 1 (bytesV [39]) rfl rfl (Or.inr ⟨_, rfl, fun j u hu => cell_new _ _ _ j u hu⟩) (bytesV_one _) (by unfold maxLen; omega) (by omega) (by simp; omega) (n + 1) (bytesV l ++ bytesV [39]) rfl rfl ?_; intro a4 c4 w4 hown4 hgrow4 hat4; have CV := conv_row (RowB.join [39] (by rw [HNL.out]; rfl) hown4))
        go_ret
        exact ⟨by rw [HQ.out, HF.out]; rfl, (HB.out.alloc hwr _).grown hgrow4 (by simp; omega) (fun q hq => (HRR.out.lt q hq).1)⟩
  · rw [hp] at P
    have hQ : quoteB (bl s) = bl s := by
      unfold quoteB
      rw [if_pos hp]
    rw [hQ]
    clear hp hQ
    go_enter Tryz.func39, Tryz.ntmps39
    (go_wp2_with fail; go_fit (P _ he); rintro e w1 ⟨rfl, b1⟩)
    go_wp2
    go_ret
    exact ⟨rfl, b1⟩
end Go.Proofs.YtljgkfdnmikpfaaGreatDoor
