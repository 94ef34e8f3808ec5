/- Package lex: Cut. -/
import Derived.Test.YtdjdkhbaemjnnaaDoorLexK
import Derived.Test.YtdjdkhbaemjnnaaDoorElO
namespace Go.Proofs.YtdjdkhbaemjnnaaDoor
open Go.RowKit
set_option linter.unusedVariables false

def tCells (q : TokB × Nat) : List Value := [.int .i64 (q.1.kind : Int), .string ⟨q.1.text.toArray⟩, .int .i64 (q.1.n : Int), .bool q.1.opens, .int .i64 (q.2 : Int)]
theorem tCells_len (q : TokB × Nat) : (tCells q).length = 5 := rfl
theorem tCells_one (L : List (TokB × Nat)) : ∀ u ∈ L.flatMap tCells, u.oneCell' = true := by
  intro u hu
  obtain ⟨x, _, hx⟩ := List.mem_flatMap.1 hu
  simp [tCells] at hx
  rcases hx with rfl | rfl | rfl | rfl | rfl <;> rfl
def RowT (w : World) (base : Nat) (v : Value) (l : List (TokB × Nat)) : Prop := w.ownsRow base 30 5 v l.length (l.flatMap tCells)
theorem row_ext {w w' : World} {B k n : Nat} {e : TypeId} {v : Value} {xs : List Value} (h : w.ownsRow B e k v n xs) (hb : Below w.heap.size w w') : w'.ownsRow B e k v n xs := by
  obtain ⟨h0, h1⟩ := h
  refine ⟨h0, ?_⟩
  rcases h1 with h1 | ⟨g, cap, cur, rfl, hg, hh, h2⟩
  · exact Or.inl h1
  · exact Or.inr ⟨g, cap, cur, rfl, hg, by rw [hb.block g (Array.getElem?_eq_some_iff.1 hh).1]; exact hh, h2⟩
theorem bel1' (w : World) (o : Obj) : Below w.heap.size w (w.alloc o) := (Below.refl _ _).alloc (Nat.le_refl _) o
theorem cell_two (w : World) (o : Obj) (cs : Array Value) (ty : TypeId) (j : Nat) (u : Value) (h : cs.toList[j]? = some u) : ((w.alloc o).alloc (.cells cs ty)).cell? ((⟨w.heap.size + 1, 0, none⟩ : Addr).add j) = some u := by
  have e : (w.alloc o).heap.size = w.heap.size + 1 := by simp
  have h1 := heap_alloc_new (w.alloc o) (.cells cs ty)
  rw [e] at h1
  rw [add_plain, Nat.zero_add, World.cell?, h1]
  simpa using h
theorem infoTok : (Tryd.prog.info? 30).map (fun i => (i.zero, i.size, i.bytes)) = some (some zeroV, 5, 48) := by kernel_rfl
def cutV (s : ByteArray) (v : Value) : CutR → Value
  | .ok l => .tuple #[v, .int .i64 (s.size : Int), .int .i64 0]
  | .bad p o => .tuple #[.slice none 0 0, .int .i64 (p : Int), .int .i64 (if o then 3 else 2)]
def CutPost (W : World) (s : ByteArray) (X : CutR) (e : Ending) (w' : World) : Prop :=
  (match X with
    | .ok l => ∃ (ao : Option Addr) (cv : Nat), e = .returned (.tuple #[.slice ao l.length cv, .int .i64 (s.size : Int), .int .i64 0]) ∧ RowT w' W.heap.size (.slice ao l.length cv) l
    | .bad p o => e = .returned (.tuple #[.slice none 0 0, .int .i64 (p : Int), .int .i64 (if o then 3 else 2)])) ∧ Below W.heap.size W w'
theorem passK_cut (s : List UInt8) (k : Nat) (hk : k ≤ s.length) : k + passK s k ≤ s.length ∧ (∀ acc, cutF acc k (s.drop k) = cutF acc (k + passK s k) (s.drop (k + passK s k))) ∧ ∀ h : k + passK s k < s.length, ∀ j, nextC s[k + passK s k] (s.drop (k + passK s k + 1)) ≠ .skip j := by
  obtain ⟨h1, h2, h3⟩ := pass_cut (s.drop k).length (s.drop k) (Nat.le_refl _)
  unfold passK
  rw [List.length_drop] at h1
  refine ⟨by omega, fun acc => by rw [h2, List.drop_drop], fun h => h3 _ _ ?_⟩
  rw [List.drop_drop]
  exact drop_at h
set_option maxHeartbeats 4000000 in
theorem cut_any (s : ByteArray) (w : World) (he : Err w) (hs : s.size ≤ 140737488351232) : Calls Tryd.prog 9 #[.string s] w (CutPost w s (cutB (bl s))) := by
  obtain ⟨X, hX⟩ : ∃ X, cutB (bl s) = X := ⟨_, rfl⟩
  rw [hX]
  by_cases hbig : 4096 < s.size
  · have hx : X = .bad 4096 true := by rw [← hX]; unfold cutB; rw [if_pos (show 4096 < (bl s).length from hbig)]
    subst hx
    clear hX
    go_enter Tryd.func9, Tryd.ntmps9
    go_wp2
    go_ret3
    exact ⟨rfl, Below.refl _ _⟩
  have hx : cutF [] 0 (bl s) = X := by rw [← hX]; unfold cutB; rw [if_neg (show ¬ 4096 < (bl s).length from hbig)]
  clear hX
  obtain ⟨p1, p2, p3⟩ := passK_cut (bl s) 0 (Nat.zero_le _)
  rw [List.drop_zero] at p2
  have PA := fun w => pass_any s 0 w (Nat.zero_le _) hs
  generalize 0 + passK (bl s) 0 = k0 at PA p1 p2 p3
  have hX0 := (p2 []).symm.trans hx
  have HX0 := Lib.hid hX0
  have HP3 := Lib.hid p3
  have hk0s : k0 ≤ s.size := p1
  clear hX0 p3 p2 hx p1
  obtain ⟨i0, hi0, hz0, hs0, hb0⟩ := info_parts infoTok
  go_enter Tryd.func9, Tryd.ntmps9
  go_wp2_with (go_at_call 12; go_fit (PA _); rintro e w' ⟨rfl, rfl⟩)
  go_loopw [5, 6] (fun o v wr => ∃ (k : Nat) (ao : Option Addr) (cv : Nat) (acc : List (TokB × Nat)), k ≤ s.size ∧ v = .int .i64 k ∧ o = .slice ao acc.length cv ∧ acc.length ≤ 1024 ∧ Hid (RowT wr w.heap.size o acc) ∧ Hid (Below w.heap.size w wr) ∧
      Hid (cutF acc k ((bl s).drop k) = X) ∧ Hid (∀ h : k < (bl s).length, ∀ j, nextC (bl s)[k] ((bl s).drop (k + 1)) ≠ .skip j)) (fun _ v _ => s.size - (intOf v).toNat)
  case atStart => exact ⟨k0, none, 0, [], hk0s, rfl, rfl, by simp, Lib.hid (World.ownsRow_nil _ _ _ _), Lib.hid (Below.refl _ _), HX0, HP3⟩
  case round =>
    obtain ⟨k, ao, cv, acc, hk, rfl, rfl, hacc, HR, HB, HC, HN⟩ := hrel
    by_cases hlt : k < s.size
    · have T := token_any s k wr (he.ext HB.out) hlt hs (HN.out hlt)
      have hd : (bl s).drop k = s[k] :: (bl s).drop (k + 1) := drop_at (l := bl s) hlt
      have hC := HC.out
      rw [hd] at hC
      cases hn : nextC s[k] ((bl s).drop (k + 1)) with
      | skip j => exact absurd hn (HN.out hlt j)
      | bad o =>
        rw [hn] at T
        rw [cutF_bad hn] at hC
        subst hC
        clear HN HC HP3 HX0 hd hn PA
        cases o
        · replace T : Calls Tryd.prog 13 #[.string s, .int .i64 k] wr fun e w' => e = .returned (.tuple #[zeroV, .int .i64 0, .int .i64 2]) ∧ Below wr.heap.size wr w' := T
          unfold zeroV at T
          (go_wp2_with fail; go_fit (T); rintro e w1 ⟨rfl, b1⟩)
          go_wp2
          go_ret3
          exact ⟨rfl, Ext.trans' HB.out (b1.alloc b1.size _)⟩
        · replace T : Calls Tryd.prog 13 #[.string s, .int .i64 k] wr fun e w' => e = .returned (.tuple #[zeroV, .int .i64 0, .int .i64 3]) ∧ Below wr.heap.size wr w' := T
          unfold zeroV at T
          (go_wp2_with fail; go_fit (T); rintro e w1 ⟨rfl, b1⟩)
          go_wp2
          go_ret3
          exact ⟨rfl, Ext.trans' HB.out (b1.alloc b1.size _)⟩
      | tok t =>
        have hnl := next_len s[k] ((bl s).drop (k + 1))
        rw [hn, List.length_drop, bl_len] at hnl
        have hnl' : t.len ≤ s.size - (k + 1) + 1 := hnl
        have hpos : 1 ≤ t.len := by
          rcases next_pos s[k] ((bl s).drop (k + 1)) with ⟨j, h, _⟩ | ⟨u, h, hu⟩ | ⟨o, h⟩
          · rw [hn] at h; cases h
          · rw [hn] at h; cases h; exact hu
          · rw [hn] at h; cases h
        rw [hn] at T
        replace T : Calls Tryd.prog 13 #[.string s, .int .i64 k] wr fun e w' => e = .returned (.tuple #[.agg #[.int .i64 (t.kind : Int), .string ⟨t.text.toArray⟩, .int .i64 (t.n : Int), .bool t.opens, .int .i64 (k : Int)], .int .i64 ((k + t.len : Nat) : Int), .int .i64 0]) ∧ Below wr.heap.size wr w' := T
        by_cases hf : acc.length = 1024
        · rw [cutF_full hn hf] at hC
          subst hC
          clear HN HC HP3 HX0 hd hn PA hnl hnl' hpos
          (go_wp2_with fail; go_fit (T); rintro e w1 ⟨rfl, b1⟩)
          go_wp2
          go_ret3
          exact ⟨rfl, Ext.trans' HB.out (b1.alloc b1.size _)⟩
        · rw [cutF_tok hn hpos hf, ← hd, List.drop_drop] at hC
          have hkl : k + t.len ≤ s.size := by omega
          obtain ⟨q1, q2, q3⟩ := passK_cut (bl s) (k + t.len) hkl
          have PB := fun w => pass_any s (k + t.len) w hkl hs
          have q4 := (q2 (acc ++ [(t, k)])).symm.trans hC
          have q5 : k < k + t.len + passK (bl s) (k + t.len) := by omega
          clear hC q2
          generalize k + t.len + passK (bl s) (k + t.len) = k' at PB q1 q3 q4 q5
          generalize k + t.len = b at T PB
          have q1' : k' ≤ s.size := q1
          have Q3 := Lib.hid q3
          have Q4 := Lib.hid q4
          clear q1 q3 q4 HN HC HP3 HX0 hd hn PA hnl hnl' hpos hkl
          (go_wp2_with fail; go_fit (T); rintro e w1 ⟨rfl, b1⟩)
          have HR1 := Lib.hid (row_ext HR.out b1)
          have HB1 := Lib.hid (Ext.trans' HB.out b1)
          have hsz1 : w.heap.size ≤ w1.heap.size := HB1.out.size
          clear b1 HR HB
          go_wp2_with (first
            | (go_at_call 12; go_fit (PB _); rintro e w' ⟨rfl, rfl⟩)
            | (at_builtin; refine wpList_append_k rfl _ _ 25 rfl w.heap.size 30 i0 zeroV 5 48 Tryd.underlying25 hi0 hz0 hs0 (by decide) hb0 rfl (.slice ao acc.length cv) acc.length (acc.flatMap tCells) rfl ((HR1.out.alloc _).alloc _) _ 1 1 (tCells (t, k)) rfl rfl (Or.inr ⟨_, rfl, fun j u hu => ?_⟩) (fun u hu => tCells_one [(t, k)] u (by simpa using hu)) (by unfold maxLen; omega) (by omega) (by simp; omega) (acc.length + 1) ((acc ++ [(t, k)]).flatMap tCells) rfl (by rw [List.flatMap_append]; rfl) ?_; rotate_left; intro a4 c4 w4 hown4 hgrow4 hat4))
          · go_roundw
            case rel =>
              refine ⟨k', a4, c4, acc ++ [(t, k)], q1', rfl, by rw [List.length_append]; rfl, by rw [List.length_append, List.length_singleton]; omega, Lib.hid ?_, Lib.hid ?_, Q4, Q3⟩
              · unfold RowT
                rw [List.length_append]
                exact hown4
              · exact (((HB1.out.alloc hsz1 _).alloc (by simp; omega) _).grown hgrow4 (by simp; omega) (fun q hq => (HR1.out.lt q hq).1))
            case measure => simp [intOf]; omega
          · exact cell_two _ _ _ _ j u hu
    · have hkk : k = s.size := by omega
      have hC := HC.out
      rw [List.drop_eq_nil_of_le (by rw [bl_len]; omega), cutF_nil] at hC
      subst hC
      clear HN HC HP3 HX0 PA
      go_wp2
      go_ret3
      exact ⟨⟨_, _, rfl, HR.out⟩, HB.out⟩
end Go.Proofs.YtdjdkhbaemjnnaaDoor
