import Derived.Test.YtljgkfdnmikpfaaGreatDoorHomah
import Derived.Test.YtljgkfdnmikpfaaGreatDoorHomad
import Derived.Test.YtljgkfdnmikpfaaGreatDoorHomaa
import Derived.Test.YtljgkfdnmikpfaaGreatDoorHomab
import Derived.Laws.OwnMore
import Derived.Deep.RegionHeld3
import Derived.Test.YtljgkfdnmikpfaaGreatDoorHomaf
import Derived.Laws.StructEq
set_option linter.unusedVariables false
set_option linter.unusedSimpArgs false
/- Package lex: Cut. -/
namespace Go.Proofs.YtljgkfdnmikpfaaGreatDoor
open Go.RowKit
set_option linter.unusedVariables false

def tCells (q : TokB × Nat) : List Value := [.int .i64 (q.1.kind : Int), .string ⟨q.1.text.toArray⟩, .int .i64 (q.1.n : Int), .bool q.1.opens, .int .i64 (q.2 : Int)]
theorem tCells_len (q : TokB × Nat) : (tCells q).length = 5 := rfl
theorem tCells_one (L : List (TokB × Nat)) : ∀ u ∈ L.flatMap tCells, u.oneCell' = true := by
  intro u hu
  obtain ⟨x, _, hx⟩ := List.mem_flatMap.1 hu
  simp [tCells] at hx
  rcases hx with rfl | rfl | rfl | rfl | rfl <;> rfl
def RowT (w : World) (base : Nat) (v : Value) (l : List (TokB × Nat)) : Prop := w.ownsRow base 52 5 v l.length (l.flatMap tCells)
theorem cell_two (w : World) (o : Obj) (cs : Array Value) (ty : TypeId) (j : Nat) (u : Value) (h : cs.toList[j]? = some u) : ((w.alloc o).alloc (.cells cs ty)).cell? ((⟨w.heap.size + 1, 0, none⟩ : Addr).add j) = some u := by
  have e : (w.alloc o).heap.size = w.heap.size + 1 := by simp
  have h1 := heap_alloc_new (w.alloc o) (.cells cs ty)
  rw [e] at h1
  rw [add_plain, Nat.zero_add, World.cell?, h1]
  simpa using h
theorem infoTok : (Tryz.prog.info? 52).map (fun i => (i.zero, i.size, i.bytes)) = some (some zeroV, 5, 48) := by kernel_rfl
def CutPost (W : World) (s : ByteArray) (X : CutR) (e : Ending) (w' : World) : Prop :=
  (match X with
    | .ok l => ∃ (ao : Option Addr) (cv : Nat), e = .returned (.tuple #[.slice ao l.length cv, .int .i64 (s.size : Int), .int .i64 0]) ∧ RowT w' W.heap.size (.slice ao l.length cv) l
    | .bad p o => e = .returned (.tuple #[.slice none 0 0, .int .i64 (p : Int), .int .i64 (if o then 3 else 2)])) ∧ Below W.heap.size W w'
theorem passK_cut (s : List UInt8) (k : Nat) (hk : k ≤ s.length) : k + passK s k ≤ s.length ∧ (∀ acc, cutF acc k (s.drop k) = cutF acc (k + passK s k) (s.drop (k + passK s k))) ∧ ∀ h : k + passK s k < s.length, ∀ j, nextC s[k + passK s k] (s.drop (k + passK s k + 1)) ≠ .skip j := by
  obtain ⟨h1, h2, h3⟩ := pass_cut (s.drop k).length (s.drop k) (Nat.le_refl _)
  unfold passK
  rw [List.length_drop] at h1
  refine ⟨by omega, fun acc => by rw [h2, List.drop_drop], fun h => h3 _ _ ?_⟩
  rw [List.drop_drop]
  exact drop_at h
set_option maxRecDepth 100000 in
set_option maxHeartbeats 4000000 in
theorem cut_any (s : ByteArray) (w : World) (he : Err w) (hs : s.size ≤ 140737488351232) : Calls Tryz.prog 23 #[.string s] w (CutPost w s (cutB (bl s))) := by
  obtain ⟨X, hX⟩ : ∃ X, cutB (bl s) = X := ⟨_, rfl⟩
  rw [hX]
  by_cases hbig : 4096 < s.size
  · have hx : X = .bad 4096 true := by rw [← hX]; unfold cutB; rw [if_pos (show 4096 < (bl s).length from hbig)]
    subst hx
    clear hX
    go_enter Tryz.func23, Tryz.ntmps23
    go_wp2
    go_ret3
    exact ⟨rfl, Below.refl _ _⟩
  have hx : cutF [] 0 (bl s) = X := by rw [← hX]; unfold cutB; rw [if_neg (show ¬ 4096 < (bl s).length from hbig)]
  clear hX
  obtain ⟨p1, p2, p3⟩ := passK_cut (bl s) 0 (Nat.zero_le _)
  rw [List.drop_zero] at p2
  have PA := fun w => pass_any s 0 w (Nat.zero_le _) hs
  generalize 0 + passK (bl s) 0 = k0 at PA p1 p2 p3
  have hX0 := (p2 []).symm.trans hx
  have HX0 := Lib.hid hX0
  have HP3 := Lib.hid p3
  have hk0s : k0 ≤ s.size := p1
  clear hX0 p3 p2 hx p1
  obtain ⟨i0, hi0, hz0, hs0, hb0⟩ := info_parts infoTok
  go_enter Tryz.func23, Tryz.ntmps23
  go_wp2_with (go_at_call 52; go_fit (PA _); rintro e w' ⟨rfl, rfl⟩)
  go_loopw [5, 6] (fun o v wr => ∃ (k : Nat) (ao : Option Addr) (cv : Nat) (acc : List (TokB × Nat)), k ≤ s.size ∧ v = .int .i64 k ∧ o = .slice ao acc.length cv ∧ acc.length ≤ 1024 ∧ Hid (RowT wr w.heap.size o acc) ∧ Hid (Below w.heap.size w wr) ∧
      Hid (cutF acc k ((bl s).drop k) = X) ∧ Hid (∀ h : k < (bl s).length, ∀ j, nextC (bl s)[k] ((bl s).drop (k + 1)) ≠ .skip j)) (fun _ v _ => s.size - (intOf v).toNat)
  case atStart => exact ⟨k0, none, 0, [], hk0s, rfl, rfl, by simp, Lib.hid (World.ownsRow_nil _ _ _ _), Lib.hid (Below.refl _ _), HX0, HP3⟩
  case round =>
    obtain ⟨k, ao, cv, acc, hk, rfl, rfl, hacc, HR, HB, HC, HN⟩ := hrel
    by_cases hlt : k < s.size
    · have T := token_any s k wr (he.ext HB.out) hlt hs (HN.out hlt)
      have hd : (bl s).drop k = s[k] :: (bl s).drop (k + 1) := drop_at (l := bl s) hlt
      have hC := HC.out
      rw [hd] at hC
      cases hn : nextC s[k] ((bl s).drop (k + 1)) with
      | skip j => exact absurd hn (HN.out hlt j)
      | bad o =>
        rw [hn] at T
        rw [cutF_bad hn] at hC
        subst hC
        clear HN HC HP3 HX0 hd hn PA
        cases o
        · replace T : Calls Tryz.prog 53 #[.string s, .int .i64 k] wr fun e w' => e = .returned (.tuple #[zeroV, .int .i64 0, .int .i64 2]) ∧ Below wr.heap.size wr w' := T
          unfold zeroV at T
          (go_wp2_with fail; go_fit (T); rintro e w1 ⟨rfl, b1⟩)
          go_wp2
          go_ret3
          exact ⟨rfl, Ext.trans' HB.out (b1.alloc b1.size _)⟩
        · replace T : Calls Tryz.prog 53 #[.string s, .int .i64 k] wr fun e w' => e = .returned (.tuple #[zeroV, .int .i64 0, .int .i64 3]) ∧ Below wr.heap.size wr w' := T
          unfold zeroV at T
          (go_wp2_with fail; go_fit (T); rintro e w1 ⟨rfl, b1⟩)
          go_wp2
          go_ret3
          exact ⟨rfl, Ext.trans' HB.out (b1.alloc b1.size _)⟩
      | tok t =>
        have hnl := next_len s[k] ((bl s).drop (k + 1))
        rw [hn, List.length_drop, bl_len] at hnl
        have hnl' : t.len ≤ s.size - (k + 1) + 1 := hnl
        have hpos : 1 ≤ t.len := by
          rcases next_pos s[k] ((bl s).drop (k + 1)) with ⟨j, h, _⟩ | ⟨u, h, hu⟩ | ⟨o, h⟩
          · rw [hn] at h; cases h
          · rw [hn] at h; cases h; exact hu
          · rw [hn] at h; cases h
        rw [hn] at T
        replace T : Calls Tryz.prog 53 #[.string s, .int .i64 k] wr fun e w' => e = .returned (.tuple #[.agg #[.int .i64 (t.kind : Int), .string ⟨t.text.toArray⟩, .int .i64 (t.n : Int), .bool t.opens, .int .i64 (k : Int)], .int .i64 ((k + t.len : Nat) : Int), .int .i64 0]) ∧ Below wr.heap.size wr w' := T
        by_cases hf : acc.length = 1024
        · rw [cutF_full hn hf] at hC
          subst hC
          clear HN HC HP3 HX0 hd hn PA hnl hnl' hpos
          (go_wp2_with fail; go_fit (T); rintro e w1 ⟨rfl, b1⟩)
          go_wp2
          go_ret3
          exact ⟨rfl, Ext.trans' HB.out (b1.alloc b1.size _)⟩
        · rw [cutF_tok hn hpos hf, ← hd, List.drop_drop] at hC
          have hkl : k + t.len ≤ s.size := by omega
          obtain ⟨q1, q2, q3⟩ := passK_cut (bl s) (k + t.len) hkl
          have PB := fun w => pass_any s (k + t.len) w hkl hs
          have q4 := (q2 (acc ++ [(t, k)])).symm.trans hC
          have q5 : k < k + t.len + passK (bl s) (k + t.len) := by omega
          clear hC q2
          generalize k + t.len + passK (bl s) (k + t.len) = k' at PB q1 q3 q4 q5
          generalize k + t.len = b at T PB
          have q1' : k' ≤ s.size := q1
          have Q3 := Lib.hid q3
          have Q4 := Lib.hid q4
          clear q1 q3 q4 HN HC HP3 HX0 hd hn PA hnl hnl' hpos hkl
          (go_wp2_with fail; go_fit (T); rintro e w1 ⟨rfl, b1⟩)
          have HR1 := Lib.hid (row_ext HR.out b1)
          have HB1 := Lib.hid (Ext.trans' HB.out b1)
          have hsz1 : w.heap.size ≤ w1.heap.size := HB1.out.size
          clear b1 HR HB
          go_wp2_with (first
            | (go_at_call 52; go_fit (PB _); rintro e w' ⟨rfl, rfl⟩)
            | (at_builtin; refine wpList_append_k rfl _ _ 48 rfl w.heap.size 52 i0 zeroV 5 48 Tryz.underlying48 hi0 hz0 hs0 (by decide) hb0 rfl (.slice ao acc.length cv) acc.length (acc.flatMap tCells) rfl ((HR1.out.alloc _).alloc _) _ 1 1 (tCells (t, k)) rfl rfl (Or.inr ⟨_, rfl, fun j u hu => ?_⟩) (fun u hu => tCells_one [(t, k)] u (by simpa using hu)) (by unfold maxLen; omega) (by omega) (by simp; omega) (acc.length + 1) ((acc ++ [(t, k)]).flatMap tCells) rfl (by rw [List.flatMap_append]; rfl) ?_; rotate_left; intro a4 c4 w4 hown4 hgrow4 hat4))
          · go_roundw
            case rel =>
              refine ⟨k', a4, c4, acc ++ [(t, k)], q1', rfl, by rw [List.length_append]; rfl, by rw [List.length_append, List.length_singleton]; omega, Lib.hid ?_, Lib.hid ?_, Q4, Q3⟩
              · unfold RowT
                rw [List.length_append]
                exact hown4
              · exact (((HB1.out.alloc hsz1 _).alloc (by simp; omega) _).grown hgrow4 (by simp; omega) (fun q hq => (HR1.out.lt q hq).1))
            case measure => simp [intOf]; omega
          · exact cell_two _ _ _ _ j u hu
    · have hkk : k = s.size := by omega
      have hC := HC.out
      rw [List.drop_eq_nil_of_le (by rw [bl_len]; omega), cutF_nil] at hC
      subst hC
      clear HN HC HP3 HX0 PA
      go_wp2
      go_ret3
      exact ⟨⟨_, _, rfl, HR.out⟩, HB.out⟩
end Go.Proofs.YtljgkfdnmikpfaaGreatDoor
/- Package lex: Plain, Quote. -/
namespace Go.Proofs.YtljgkfdnmikpfaaGreatDoor
open Go.RowKit
set_option linter.unusedVariables false

def Toks (w : World) (v : Value) (l : List (TokB × Nat)) : Prop := Elems 5 tCells w v l
theorem Toks.cells {w : World} {a : Option Addr} {n cap : Nat} {l : List (TokB × Nat)} (h : Toks w (.slice a n cap) l) {k : Nat} {x : TokB × Nat} (hx : l[k]? = some x) :
    ∃ b off, a = some ⟨b, off, none⟩ ∧ b < w.heap.size ∧ w.cell? ⟨b, off + k * 5, none⟩ = some (.int .i64 (x.1.kind : Int)) ∧ w.cell? ⟨b, off + k * 5 + 1, none⟩ = some (.string ⟨x.1.text.toArray⟩) ∧ w.cell? ⟨b, off + k * 5 + 2, none⟩ = some (.int .i64 (x.1.n : Int)) ∧ w.cell? ⟨b, off + k * 5 + 3, none⟩ = some (.bool x.1.opens) ∧ w.cell? ⟨b, off + k * 5 + 4, none⟩ = some (.int .i64 (x.2 : Int)) := by
  obtain ⟨a', cap', e, h1, h2, h3⟩ := h
  cases e
  rcases h3 with rfl | ⟨b, off, rfl, hb, hc⟩
  · simp at hx
  · exact ⟨b, off, rfl, hb, hc k x hx 0 _ rfl, by rw [Nat.add_assoc]; exact hc k x hx 1 _ rfl, by rw [Nat.add_assoc]; exact hc k x hx 2 _ rfl, by rw [Nat.add_assoc]; exact hc k x hx 3 _ rfl, by rw [Nat.add_assoc]; exact hc k x hx 4 _ rfl⟩
theorem Toks.form {w : World} {v : Value} {l : List (TokB × Nat)} (h : Toks w v l) : ∃ a c, v = .slice a l.length c := by
  obtain ⟨a, c, rfl, _⟩ := h
  exact ⟨a, c, rfl⟩
theorem cut_ok {s : ByteArray} {l : List (TokB × Nat)} {w : World} (he : Err w) (hs : s.size ≤ 140737488351232) (h : cutB (bl s) = .ok l) :
    Calls Tryz.prog 23 #[.string s] w fun e w' => ∃ (ao : Option Addr) (cv : Nat), e = .returned (.tuple #[.slice ao l.length cv, .int .i64 (s.size : Int), .int .i64 0]) ∧ Toks w' (.slice ao l.length cv) l ∧ Below w.heap.size w w' := by
  refine (cut_any s w he hs).mono fun e w' hp => ?_
  rw [h] at hp
  obtain ⟨⟨ao, cv, h1, h2⟩, h3⟩ := hp
  exact ⟨ao, cv, h1, Elems.owned tCells_len h2, h3⟩
theorem cut_bad {s : ByteArray} {p : Nat} {o : Bool} {w : World} (he : Err w) (hs : s.size ≤ 140737488351232) (h : cutB (bl s) = .bad p o) :
    Calls Tryz.prog 23 #[.string s] w fun e w' => e = .returned (.tuple #[.slice none 0 0, .int .i64 (p : Int), .int .i64 (if o then 3 else 2)]) ∧ Below w.heap.size w w' := by
  refine (cut_any s w he hs).mono fun e w' hp => ?_
  rw [h] at hp
  exact hp
set_option maxHeartbeats 1600000 in
theorem plain_any (s : ByteArray) (w : World) (he : Err w) (hs : s.size ≤ 140737488351232) : Calls Tryz.prog 69 #[.string s] w fun e w' => e = .returned (.bool (plainB (bl s))) ∧ Below w.heap.size w w' := by
  have no : ∀ X, cutB (bl s) = X → (∀ t p, X = .ok [(t, p)] → ¬ (t.kind = 1 ∧ t.text = bl s)) → plainB (bl s) = false := fun X hX h => by
    cases hp : plainB (bl s) with
    | false => rfl
    | true =>
      obtain ⟨t, h1, h2⟩ := plain_yes hp
      exact absurd h2 (h t 0 (hX.symm.trans h1))
  cases hX : cutB (bl s) with
  | bad p o =>
    rw [no _ hX (fun t p h => by cases h)]
    have C := fun w h => @cut_bad s p o w h hs hX
    clear no hX
    cases o
    · go_enter Tryz.func69, Tryz.ntmps69
      (go_wp2_with fail; go_fit (C _ he); rintro e w1 ⟨rfl, b1⟩)
      go_wp2
      go_ret
      exact ⟨rfl, b1⟩
    · go_enter Tryz.func69, Tryz.ntmps69
      (go_wp2_with fail; go_fit (C _ he); rintro e w1 ⟨rfl, b1⟩)
      go_wp2
      go_ret
      exact ⟨rfl, b1⟩
  | ok l =>
    have C := fun w h => @cut_ok s l w h hs hX
    by_cases h1 : l.length = 1
    · obtain ⟨⟨t, p⟩, rfl⟩ := List.length_eq_one_iff.1 h1
      have hno := no _ hX
      clear no
      have hyes := fun a b => plain_no hX (t := t) (p := p) a b
      clear hX h1
      have C' : ∀ w, Err w → Calls Tryz.prog 23 #[.string s] w fun e w' => ∃ (ao : Option Addr) (cv : Nat), e = .returned (.tuple #[.slice ao 1 cv, .int .i64 (s.size : Int), .int .i64 0]) ∧ Toks w' (.slice ao 1 cv) [(t, p)] ∧ Below w.heap.size w w' := C
      clear C
      by_cases hk : t.kind = 1
      · by_cases ht : t.text = bl s
        · rw [hyes hk ht]
          have HT := Lib.hid (show (t.text == s.toList) = true by rw [Lib.toList_data, ht]; exact beq_self_eq_true _)
          clear hno hyes ht
          go_enter Tryz.func69, Tryz.ntmps69
          (go_wp2_with fail; go_fit (C' _ he); rintro e w1 ⟨ao, cv, rfl, ht1, b1⟩)
          obtain ⟨b, off, rfl, hb, c0, c1, c2, c3, c4⟩ := ht1.cells (k := 0) (x := (t, p)) rfl
          simp only [Nat.zero_mul, Nat.add_zero] at c0 c1 c2 c3 c4
          simp only [hk] at c0
          go_wp2
          go_ret
          exact ⟨ret_bool HT.out, b1⟩
        · rw [hno (fun t' p' e h => by cases e; exact ht h.2)]
          have HT := Lib.hid (show (t.text == s.toList) = false by rw [Lib.toList_data]; exact beq_false_of_ne ht)
          clear hno hyes ht
          go_enter Tryz.func69, Tryz.ntmps69
          (go_wp2_with fail; go_fit (C' _ he); rintro e w1 ⟨ao, cv, rfl, ht1, b1⟩)
          obtain ⟨b, off, rfl, hb, c0, c1, c2, c3, c4⟩ := ht1.cells (k := 0) (x := (t, p)) rfl
          simp only [Nat.zero_mul, Nat.add_zero] at c0 c1 c2 c3 c4
          simp only [hk] at c0
          go_wp2
          go_ret
          exact ⟨ret_bool HT.out, b1⟩
      · rw [hno (fun t' p' e h => by cases e; exact hk h.1)]
        have hk' : ((t.kind : Int) == 1) = false := by
          apply beq_false_of_ne
          intro e
          exact hk (by omega)
        clear hno hyes hk
        obtain ⟨z, hz⟩ : ∃ z : Int, (t.kind : Int) = z := ⟨_, rfl⟩
        go_enter Tryz.func69, Tryz.ntmps69
        (go_wp2_with fail; go_fit (C' _ he); rintro e w1 ⟨ao, cv, rfl, ht1, b1⟩)
        obtain ⟨b, off, rfl, hb, c0, c1, c2, c3, c4⟩ := ht1.cells (k := 0) (x := (t, p)) rfl
        simp only [Nat.zero_mul, Nat.add_zero] at c0 c1 c2 c3 c4
        simp only [hz] at c0 hk'
        clear hz
        go_wp2
        go_ret
        exact ⟨rfl, b1⟩
    · rw [no _ hX (fun t p h => by cases h; simp at h1)]
      clear no hX
      have h1' : ((l.length : Int) == 1) = false := by
        apply beq_false_of_ne
        intro e
        exact h1 (by omega)
      generalize hn : l.length = n at C h1'
      clear hn h1
      go_enter Tryz.func69, Tryz.ntmps69
      (go_wp2_with fail; go_fit (C _ he); rintro e w1 ⟨ao, cv, rfl, ht1, b1⟩)
      go_wp2
      go_ret
      exact ⟨rfl, b1⟩
end Go.Proofs.YtljgkfdnmikpfaaGreatDoor
/- A region that draws its order, walked operation by operation while a condition holds. Nothing here speaks of one program. -/
namespace Go
section
variable {P : Program} {md : Region.Mode} {ops : Array Oper} {Q : Exit → Act → World → Prop} {S : World → Prop}
theorem held_t {i : Nat} {oi : Oper} {fuel : Nat} {listed : Array Bool} {a : Act} {w : World} (hS : S w)
    (h : ∃ v, (∀ w, S w → (execOp a.eval oi).run P w = .ok (.value v) w) ∧ wpAnyH P md ops Q S fuel (listed.setIfInBounds i true) (a.put oi.dst v) w)
    (hi : ops[i]? = some oi := by simp only [List.getElem?_toArray, List.getElem?_cons_zero, List.getElem?_cons_succ]; rfl)
    (hs : Region.noSelect ops = true := by kernel_rfl) (hf : Region.free md ops listed i = true := by kernel_rfl) (hr : (Region.ready md ops listed).contains i = true := by kernel_rfl) (hw : Region.wanted oi (yielded ops a.tmps) = true := by rfl)
    (hQ : ∀ v c a w, Q (.panic c) (a.put oi.dst v) w → Q (.panic c) a w := by exact fun _ _ _ _ h => h) : wpAnyH P md ops Q S (fuel + 1) listed a w := by
  obtain ⟨v, h1, h2⟩ := h
  exact wpAnyH_take hi hs hf hr (hQ v) (Or.inl ⟨hw, h1⟩) hS h2
theorem held_s {i : Nat} {oi : Oper} {fuel : Nat} {listed : Array Bool} {a : Act} {w : World} (hS : S w) (h : wpAnyH P md ops Q S fuel (listed.setIfInBounds i true) (a.put oi.dst undef) w)
    (hi : ops[i]? = some oi := by simp only [List.getElem?_toArray, List.getElem?_cons_zero, List.getElem?_cons_succ]; rfl)
    (hs : Region.noSelect ops = true := by kernel_rfl) (hf : Region.free md ops listed i = true := by kernel_rfl) (hr : (Region.ready md ops listed).contains i = true := by kernel_rfl) (hw : Region.wanted oi (yielded ops a.tmps) = false := by rfl)
    (hQ : ∀ c a w, Q (.panic c) (a.put oi.dst undef) w → Q (.panic c) a w := by exact fun _ _ _ h => h) : wpAnyH P md ops Q S (fuel + 1) listed a w :=
  wpAnyH_take hi hs hf hr hQ (Or.inr ⟨hw, rfl⟩) hS h
theorem held_c (i : Nat) {o : Oper} {fuel : Nat} {listed : Array Bool} {a : Act} {w : World}
    (h : ∀ K' : Act → World → Prop, Shut (∀ a w, S w → (S w → wpAnyH P md ops Q S fuel (listed.setIfInBounds i true) a w) → K' a w) → if Region.wanted o (yielded ops a.tmps) = true then Oper.wp P o a w K' Q else K' (a.put o.dst undef) w)
    (hr : Region.ready md ops listed = [i] := by kernel_rfl) (hi : ops[i]? = some o := by simp only [List.getElem?_toArray, List.getElem?_cons_zero, List.getElem?_cons_succ]; rfl) : wpAnyH P md ops Q S (fuel + 1) listed a w :=
  wpAnyH_ready hr (by simp) (AllReadyH.cons hi h AllReadyH.nil)
end
end Go
/- The project's reader in memory: its operators, what is not read yet, its variables. -/
namespace Go.Proofs.YtljgkfdnmikpfaaGreatDoor
open Go.RowKit
set_option linter.unusedVariables false

abbrev tkVal (q : TokP) : Value := .agg #[.int .i64 (q.1.kind : Int), .string ⟨q.1.text.toArray⟩, .int .i64 (q.1.n : Int), .bool q.1.opens, .int .i64 (q.2 : Int)]
def nmCells (p : NmP) : List Value := [.string ⟨p.1.toArray⟩, .int .i64 (p.2 : Int)]
theorem nmCells_len (p : NmP) : (nmCells p).length = 2 := rfl
def Nms (w : World) (v : Value) (l : List NmP) : Prop := Elems 2 nmCells w v l
abbrev preO (xs : List O) (n : List UInt8) : O × Bool := oneB xs n 1
abbrev betO (xs : List O) (n : List UInt8) : O × Bool := oneB xs n 2
abbrev TERMX (xs : List O) := TERM (preO xs) (betO xs)
/-- A token that a text may have. -/
def tokOk (q : TokP) : Prop := q.1.n ≤ 9223372036854775807 ∧ q.1.text.length ≤ 5000 ∧ q.2 ≤ 4096
/-- Nothing runs over. -/
def Nice (s : RS) : Prop := s.next + s.rest.length ≤ 2000 ∧ s.names.length ≤ s.next ∧ (∀ q ∈ s.rest, tokOk q) ∧ ∀ p ∈ s.names, p.2 < s.next
theorem Nice.drop {s : RS} (h : Nice s) : Nice (dropR s) := by
  obtain ⟨h1, h2, h3, h4⟩ := h
  have := dropS_le s
  exact ⟨by show s.next + (dropR s).rest.length ≤ 2000; omega, h2, fun q hq => h3 q (List.mem_of_mem_tail hq), h4⟩
theorem Nice.head {s : RS} (h : Nice s) : tokOk (headR s) := by
  unfold headR
  cases hr : s.rest with
  | nil => exact ⟨by decide, by decide, by decide⟩
  | cons a r => exact h.2.2.1 a (by rw [hr]; exact List.mem_cons_self)
theorem Nice.next {s : RS} (h : Nice (dropR s)) (hne : s.rest ≠ []) (hs : Nice s) : Nice { dropR s with next := (dropR s).next + 1 } := by
  obtain ⟨h1, h2, h3, h4⟩ := h
  have hd := dropS_lt hne
  have h0 := hs.1
  have en : (dropR s).next = s.next := rfl
  refine ⟨?_, ?_, h3, fun p hp => ?_⟩
  · show (dropR s).next + 1 + (dropR s).rest.length ≤ 2000
    omega
  · show (dropR s).names.length ≤ (dropR s).next + 1
    omega
  · have := h4 p hp
    show p.2 < (dropR s).next + 1
    omega
theorem Nice.var {s : RS} (name : List UInt8) (h : Nice (dropR s)) (hne : s.rest ≠ []) (hs : Nice s) : Nice (varR name (dropR s)).2 := by
  obtain ⟨g1, g2, g3, g4⟩ := Nice.next h hne hs
  have h2 := h.2.1
  unfold varR
  split
  · exact h
  · refine ⟨g1, ?_, g3, fun p hp => ?_⟩
    · simp only
      split
      · omega
      · rw [List.length_append, List.length_singleton]; omega
    · simp only at hp
      split at hp
      · exact g4 p hp
      · rcases List.mem_append.1 hp with hp | hp
        · exact g4 p hp
        · simp at hp
          subst hp
          show (dropR s).next < (dropR s).next + 1
          omega

theorem Elems.stay {α : Type} {S : Nat} {cells : α → List Value} {w w' : World} {v : Value} {xs : List α} (h : Elems S cells w v xs) (hb : Stays w w') : Elems S cells w' v xs := by
  obtain ⟨a, cap, h1, h2, h3, h6⟩ := h
  refine ⟨a, cap, h1, h2, h3, ?_⟩
  rcases h6 with h6 | ⟨b, off, e1, e2, e3⟩
  · exact Or.inl h6
  · exact Or.inr ⟨b, off, e1, Nat.lt_of_lt_of_le e2 hb.1, fun i x hx j u hu => hb.2 _ _ (e3 i x hx j u hu)⟩
/-- The reader lies there, in block rb. D: blocks that are not looked at for anything else; M, some of them: blocks that turn. -/
structure St (D M : Nat → Bool) (w : World) (rb : Nat) (xs : List O) (s : RS) : Prop where
  mb : M rb = true
  md : ∀ k, M k = true → D k = true
  old : Old D w
  co : ∃ vo, w.cell? ⟨rb, 0, none⟩ = some vo ∧ Ops (hide D w) vo xs
  cl : ∃ vl, w.cell? ⟨rb, 1, none⟩ = some vl ∧ Toks (hide D w) vl s.rest
  c2 : w.cell? ⟨rb, 2, none⟩ = some (.int .i64 (s.next : Int))
  c3 : ∃ vn, w.cell? ⟨rb, 3, none⟩ = some vn ∧ w.ownsRow (rb + 1) 54 2 vn s.names.length (s.names.flatMap nmCells) ∧ ∀ k, vn.ownBlock = some k → M k = true
  fz : ∀ j, w.frozen? ⟨rb, j, none⟩ = false
  nice : Nice s
theorem St.lt {D M : Nat → Bool} {w : World} {rb : Nat} {xs : List O} {s : RS} (h : St D M w rb xs s) : rb < w.heap.size := World.block_lt_of_cell? _ _ h.c2
/-- Of the old blocks only those of M have turned; of them the same are not looked at, the same turn. -/
structure Turn (D M D' M' : Nat → Bool) (w w' : World) : Prop where
  size : w.heap.size ≤ w'.heap.size
  dd : ∀ k, k < w.heap.size → D' k = D k
  mm : ∀ k, k < w.heap.size → M' k = M k
  kept : ∀ k, k < w.heap.size → M k = false → w'.heap[k]? = w.heap[k]?
  ot : Below 0 w w'
theorem Turn.refl (D M : Nat → Bool) (w : World) : Turn D M D M w w := ⟨Nat.le_refl _, fun _ _ => rfl, fun _ _ => rfl, fun _ _ _ => rfl, Below.refl _ _⟩
theorem Turn.trans {D M D' M' D2 M2 : Nat → Bool} {a b c : World} (h : Turn D M D' M' a b) (g : Turn D' M' D2 M2 b c) : Turn D M D2 M2 a c :=
  ⟨Nat.le_trans h.size g.size, fun k hk => (g.dd k (Nat.lt_of_lt_of_le hk h.size)).trans (h.dd k hk), fun k hk => (g.mm k (Nat.lt_of_lt_of_le hk h.size)).trans (h.mm k hk),
    fun k hk hm => (g.kept k (Nat.lt_of_lt_of_le hk h.size) ((h.mm k hk).trans hm)).trans (h.kept k hk hm), h.ot.trans g.ot⟩
theorem Turn.below {D M : Nat → Bool} {w w' : World} (h : Below w.heap.size w w') : Turn D M D M w w' := ⟨h.size, fun _ _ => rfl, fun _ _ => rfl, fun k hk _ => h.block k hk, h.mono (Nat.zero_le _)⟩
theorem Turn.stays {D M D' M' : Nat → Bool} {w w' : World} (h : Turn D M D' M' w w') (md : ∀ k, M k = true → D k = true) : Stays (hide D w) (hide D' w') :=
  Stays.hide h.size fun k hk hd => ⟨(h.dd k hk).trans hd, h.kept k hk (by cases hm : M k with | false => rfl | true => rw [md k hm] at hd; cases hd)⟩
theorem Turn.cell {D M D' M' : Nat → Bool} {w w' : World} (h : Turn D M D' M' w w') {b j : Nat} {v : Value} (hm : M b = false) (hc : w.cell? ⟨b, j, none⟩ = some v) : w'.cell? ⟨b, j, none⟩ = some v := by
  rw [World.cell?_of_block (h.kept b (World.block_lt_of_cell? _ _ hc) hm)]; exact hc
theorem Turn.froz {D M D' M' : Nat → Bool} {w w' : World} (h : Turn D M D' M' w w') {b j : Nat} (hb : b < w.heap.size) (hm : M b = false) (hc : w.frozen? ⟨b, j, none⟩ = false) : w'.frozen? ⟨b, j, none⟩ = false := by
  rw [World.frozen?_of_block (h.kept b hb hm)]; exact hc
/-- As many blocks as lie below n and don't turn are as they were. -/
theorem Turn.bel {D M D' M' : Nat → Bool} {w w' : World} (h : Turn D M D' M' w w') {n : Nat} (hn : n ≤ w.heap.size) (hm : ∀ k, k < n → M k = false) : Below n w w' :=
  ⟨h.ot.os, h.ot.tape, h.ot.output, h.size, fun k hk => h.kept k (Nat.lt_of_lt_of_le hk hn) (hm k hk)⟩
/-- A block of one's own that turns in the end. -/
theorem Turn.set {D M D' M' : Nat → Bool} {w w' : World} (h : Turn D M D' M' w w') (a : Addr) (u : Value) (ha : w.heap.size ≤ a.block ∨ M a.block = true) : Turn D M D' M' w (w'.setCell a u) :=
  ⟨Nat.le_trans h.size (by simp [World.setCell]), h.dd, h.mm, fun k hk hm => (Below.heap_setCell w' a u k (fun e => by
    rcases ha with ha | ha
    · omega
    · rw [e, ha] at hm; cases hm)).trans (h.kept k hk hm), h.ot.setCell (Nat.zero_le _) u⟩
theorem row_at {w w' : World} {B k n : Nat} {e : TypeId} {v : Value} {xs : List Value} (h : w.ownsRow B e k v n xs) (hb : ∀ g, v.ownBlock = some g → w'.heap[g]? = w.heap[g]?) : w'.ownsRow B e k v n xs := by
  obtain ⟨h0, h1⟩ := h
  refine ⟨h0, ?_⟩
  rcases h1 with h1 | ⟨g, cap, cur, rfl, hg, hh, h2⟩
  · exact Or.inl h1
  · exact Or.inr ⟨g, cap, cur, rfl, hg, by rw [hb g rfl]; exact hh, h2⟩
theorem row_in {w : World} {B k n : Nat} {e : TypeId} {v : Value} {xs : List Value} (h : w.ownsRow B e k v n xs) {g : Nat} (hg : v.ownBlock = some g) : B ≤ g ∧ g < w.heap.size := by
  rcases h.2 with ⟨rfl, _⟩ | ⟨g', cap, cur, rfl, h1, h2, _⟩
  · cases hg
  · cases hg
    exact ⟨h1, (Array.getElem?_eq_some_iff.1 h2).1⟩
/-- It lies there still. -/
theorem St.step {D M D' : Nat → Bool} {w w' : World} {rb : Nat} {xs : List O} {s : RS} (h : St D M w rb xs s) (hs : Stays (hide D w) (hide D' w')) (md : ∀ k, M k = true → D' k = true) (ho : Old D' w') (hk : ∀ k, k < w.heap.size → M k = true → w'.heap[k]? = w.heap[k]?) : St D' M w' rb xs s := by
  have hr := hk rb h.lt h.mb
  obtain ⟨vo, o1, o2⟩ := h.co
  obtain ⟨vl, l1, l2⟩ := h.cl
  obtain ⟨vn, n1, n2, n3⟩ := h.c3
  exact { mb := h.mb, md := md, old := ho, co := ⟨vo, by rw [World.cell?_of_block hr]; exact o1, Elems.stay o2 hs⟩, cl := ⟨vl, by rw [World.cell?_of_block hr]; exact l1, Elems.stay l2 hs⟩
          c2 := by rw [World.cell?_of_block hr]; exact h.c2
          c3 := ⟨vn, by rw [World.cell?_of_block hr]; exact n1, row_at n2 (fun g hg => hk g (row_in n2 hg).2 (n3 g hg)), n3⟩
          fz := fun j => by rw [World.frozen?_of_block hr]; exact h.fz j, nice := h.nice }
theorem St.later {D M : Nat → Bool} {w w' : World} {rb : Nat} {xs : List O} {s : RS} (h : St D M w rb xs s) (hb : Below w.heap.size w w') : St D M w' rb xs s :=
  h.step (Stays.below hb fun _ _ h => h) h.md (h.old.mono hb.size) fun k hk _ => hb.block k hk
/-- One more block is not looked at. -/
def plusB (D : Nat → Bool) (b : Nat) : Nat → Bool := fun k => k == b || D k
theorem plusB_self (D : Nat → Bool) (b : Nat) : plusB D b b = true := by simp [plusB]
theorem plusB_of {D : Nat → Bool} {b k : Nat} (h : D k = true) : plusB D b k = true := by simp [plusB, h]
theorem plusB_ne {D : Nat → Bool} {b k : Nat} (h : k ≠ b) : plusB D b k = D k := by simp [plusB, h]
theorem St.box {D M : Nat → Bool} {w w' : World} {rb : Nat} {xs : List O} {s : RS} (h : St D M w rb xs s) (hb : Below w.heap.size w w') {b : Nat} (h1 : w.heap.size ≤ b) (h2 : b < w'.heap.size) : St (plusB D b) M w' rb xs s :=
  h.step (Stays.below hb fun k hk hd => (plusB_ne (by omega)).trans hd) (fun k hm => plusB_of (h.md k hm)) (fun k hk => (plusB_ne (by omega)).trans (h.old k (Nat.le_trans hb.size hk))) fun k hk _ => hb.block k hk
/-- A block that is not looked at, and isn't the reader's, turns. -/
theorem St.put {D M : Nat → Bool} {w : World} {rb : Nat} {xs : List O} {s : RS} (h : St D M w rb xs s) (a : Addr) (u : Value) (hd : D a.block = true) (hm : M a.block = false) : St D M (w.setCell a u) rb xs s :=
  h.step (Stays.set a u hd) h.md (h.old.mono (by simp [World.setCell])) fun k _ hk => Below.heap_setCell w a u k (fun e => by rw [e, hm] at hk; cases hk)
/-- A box of one's own is looked at no more. -/
theorem Turn.box {D M D' M' : Nat → Bool} {w w' : World} {b : Nat} (h : Turn (plusB D b) M D' M' w w') (hb : w.heap.size ≤ b) : Turn D M D' M' w w' :=
  ⟨h.size, fun k hk => (h.dd k hk).trans (plusB_ne (by omega)), h.mm, h.kept, h.ot⟩
theorem Turn.into {D M : Nat → Bool} {w w' : World} (h : Below w.heap.size w w') {b : Nat} (hb : w.heap.size ≤ b) : Turn D M (plusB D b) M w w' :=
  ⟨h.size, fun k hk => plusB_ne (by omega), fun _ _ => rfl, fun k hk _ => h.block k hk, h.mono (Nat.zero_le _)⟩
/-- A box of one's own with these values. -/
structure Box (w : World) (b : Nat) (vs : List Value) : Prop where
  cells : ∀ j u, vs[j]? = some u → w.cell? ⟨b, j, none⟩ = some u
  fz : ∀ j, w.frozen? ⟨b, j, none⟩ = false
  lt : b < w.heap.size
theorem box_new (w : World) (cs : Array Value) (ty : TypeId) : ∃ w1, w.alloc (.cells cs ty) = w1 ∧ Below w.heap.size w w1 ∧ w1.heap.size = w.heap.size + 1 ∧ Box w1 w.heap.size cs.toList := by
  refine ⟨_, rfl, bel1' _ _, by simp, fun j u h => ?_, fun j => by simp, by simp⟩
  have := cell_new w cs ty j u h
  rw [add_plain, Nat.zero_add] at this
  exact this
theorem Box.ext {w w' : World} {b : Nat} {vs : List Value} (h : Box w b vs) (hb : Below w.heap.size w w') : Box w' b vs :=
  ⟨fun j u hu => cell_later hb (h.cells j u hu), fun j => (hb.frozen (p := ⟨b, j, none⟩) h.lt).trans (h.fz j), Nat.lt_of_lt_of_le h.lt hb.size⟩
theorem Box.turn {D M D' M' : Nat → Bool} {w w' : World} {b : Nat} {vs : List Value} (h : Box w b vs) (ht : Turn D M D' M' w w') (hm : M b = false) : Box w' b vs :=
  ⟨fun j u hu => ht.cell hm (h.cells j u hu), fun j => ht.froz h.lt hm (h.fz j), Nat.lt_of_lt_of_le h.lt ht.size⟩
theorem Box.far {w : World} {b c k : Nat} {u : Value} {vs : List Value} (h : Box w b vs) (hne : b ≠ c) : Box (w.setCell ⟨c, k, none⟩ u) b vs :=
  ⟨fun j v hv => by
    rw [World.cell?_setCell_other]
    · exact h.cells j v hv
    · intro e; injection e with e _ _; exact hne e.symm, fun j => by rw [World.frozen?_setCell]; exact h.fz j, by have := h.lt; simpa [World.setCell] using this⟩
theorem Box.set {w : World} {b k : Nat} {u : Value} {vs : List Value} (h : Box w b vs) (hk : k < vs.length) : Box (w.setCell ⟨b, k, none⟩ u) b (vs.set k u) :=
  ⟨fun j v hv => by
    by_cases hj : j = k
    · subst hj
      rw [List.getElem?_set_self hk] at hv
      injection hv with hv
      subst hv
      exact css (h.cells j _ (List.getElem?_eq_getElem hk))
    · rw [List.getElem?_set_ne (by omega)] at hv
      rw [World.cell?_setCell_other]
      · exact h.cells j v hv
      · intro e; injection e with _ e _; exact hj e.symm, fun j => by rw [World.frozen?_setCell]; exact h.fz j, by have := h.lt; simpa [World.setCell] using this⟩
theorem Box.five {w : World} {b : Nat} {v0 v1 v2 v3 v4 : Value} (h : Box w b [v0, v1, v2, v3, v4]) : w.cell? ⟨b, 0, none⟩ = some v0 ∧ w.cell? ⟨b, 1, none⟩ = some v1 ∧ w.cell? ⟨b, 2, none⟩ = some v2 ∧ w.cell? ⟨b, 3, none⟩ = some v3 ∧ w.cell? ⟨b, 4, none⟩ = some v4 ∧ ∀ j, w.frozen? ⟨b, j, none⟩ = false :=
  ⟨h.cells 0 _ rfl, h.cells 1 _ rfl, h.cells 2 _ rfl, h.cells 3 _ rfl, h.cells 4 _ rfl, h.fz⟩
theorem Box.four {w : World} {b : Nat} {v0 v1 v2 v3 : Value} (h : Box w b [v0, v1, v2, v3]) : w.cell? ⟨b, 0, none⟩ = some v0 ∧ w.cell? ⟨b, 1, none⟩ = some v1 ∧ w.cell? ⟨b, 2, none⟩ = some v2 ∧ w.cell? ⟨b, 3, none⟩ = some v3 ∧ ∀ j, w.frozen? ⟨b, j, none⟩ = false :=
  ⟨h.cells 0 _ rfl, h.cells 1 _ rfl, h.cells 2 _ rfl, h.cells 3 _ rfl, h.fz⟩
theorem Box.three {w : World} {b : Nat} {v0 v1 v2 : Value} (h : Box w b [v0, v1, v2]) : w.cell? ⟨b, 0, none⟩ = some v0 ∧ w.cell? ⟨b, 1, none⟩ = some v1 ∧ w.cell? ⟨b, 2, none⟩ = some v2 ∧ ∀ j, w.frozen? ⟨b, j, none⟩ = false :=
  ⟨h.cells 0 _ rfl, h.cells 1 _ rfl, h.cells 2 _ rfl, h.fz⟩
/-- One's own box is looked at again. -/
theorem St.unbox {D M : Nat → Bool} {w : World} {rb b : Nat} {xs : List O} {s : RS} (h : St (plusB D b) M w rb xs s) (md : ∀ k, M k = true → D k = true) (ho : Old D w) : St D M w rb xs s :=
  h.step (Stays.less fun k hk => by
    by_cases e : k = b
    · rw [e, plusB_self] at hk; cases hk
    · rwa [plusB_ne e] at hk) md ho fun _ _ _ => rfl
abbrev set3 (w : World) (b : Nat) (u0 u1 u2 : Value) : World := ((w.setCell ⟨b, 0, none⟩ u0).setCell ⟨b, 1, none⟩ u1).setCell ⟨b, 2, none⟩ u2
abbrev set4 (w : World) (b : Nat) (u0 u1 u2 u3 : Value) : World := (set3 w b u0 u1 u2).setCell ⟨b, 3, none⟩ u3
abbrev set5 (w : World) (b : Nat) (u0 u1 u2 u3 u4 : Value) : World := (set4 w b u0 u1 u2 u3).setCell ⟨b, 4, none⟩ u4
theorem St.put3 {D M : Nat → Bool} {w : World} {rb : Nat} {xs : List O} {s : RS} (h : St D M w rb xs s) {b : Nat} (hd : D b = true) (hm : M b = false) (u0 u1 u2 : Value) : St D M (set3 w b u0 u1 u2) rb xs s :=
  ((h.put ⟨b, 0, none⟩ u0 hd hm).put ⟨b, 1, none⟩ u1 hd hm).put ⟨b, 2, none⟩ u2 hd hm
theorem St.put4 {D M : Nat → Bool} {w : World} {rb : Nat} {xs : List O} {s : RS} (h : St D M w rb xs s) {b : Nat} (hd : D b = true) (hm : M b = false) (u0 u1 u2 u3 : Value) : St D M (set4 w b u0 u1 u2 u3) rb xs s :=
  (h.put3 hd hm u0 u1 u2).put ⟨b, 3, none⟩ u3 hd hm
theorem St.put5 {D M : Nat → Bool} {w : World} {rb : Nat} {xs : List O} {s : RS} (h : St D M w rb xs s) {b : Nat} (hd : D b = true) (hm : M b = false) (u0 u1 u2 u3 u4 : Value) : St D M (set5 w b u0 u1 u2 u3 u4) rb xs s :=
  (h.put4 hd hm u0 u1 u2 u3).put ⟨b, 4, none⟩ u4 hd hm
theorem Turn.set3 {D M D' M' : Nat → Bool} {w w' : World} (h : Turn D M D' M' w w') {b : Nat} (hb : w.heap.size ≤ b ∨ M b = true) (u0 u1 u2 : Value) : Turn D M D' M' w (Go.Proofs.YtljgkfdnmikpfaaGreatDoor.set3 w' b u0 u1 u2) :=
  ((h.set ⟨b, 0, none⟩ u0 hb).set ⟨b, 1, none⟩ u1 hb).set ⟨b, 2, none⟩ u2 hb
theorem Turn.set4 {D M D' M' : Nat → Bool} {w w' : World} (h : Turn D M D' M' w w') {b : Nat} (hb : w.heap.size ≤ b ∨ M b = true) (u0 u1 u2 u3 : Value) : Turn D M D' M' w (Go.Proofs.YtljgkfdnmikpfaaGreatDoor.set4 w' b u0 u1 u2 u3) :=
  (h.set3 hb u0 u1 u2).set ⟨b, 3, none⟩ u3 hb
theorem Turn.set5 {D M D' M' : Nat → Bool} {w w' : World} (h : Turn D M D' M' w w') {b : Nat} (hb : w.heap.size ≤ b ∨ M b = true) (u0 u1 u2 u3 u4 : Value) : Turn D M D' M' w (Go.Proofs.YtljgkfdnmikpfaaGreatDoor.set5 w' b u0 u1 u2 u3 u4) :=
  (h.set4 hb u0 u1 u2 u3).set ⟨b, 4, none⟩ u4 hb
theorem Old.out {D M : Nat → Bool} {w : World} {rb : Nat} {xs : List O} {s : RS} (h : St D M w rb xs s) {k : Nat} (hk : w.heap.size ≤ k) : M k = false := by
  cases hm : M k with
  | false => rfl
  | true => have := h.md k hm; rw [h.old k hk] at this; cases this
/-- Where the reader's parts lie. -/
theorem St.parts {D M : Nat → Bool} {w : World} {rb : Nat} {xs : List O} {s : RS} (h : St D M w rb xs s) : ∃ vo vl vn, w.cell? ⟨rb, 0, none⟩ = some vo ∧ w.cell? ⟨rb, 1, none⟩ = some vl ∧ w.cell? ⟨rb, 2, none⟩ = some (.int .i64 (s.next : Int)) ∧ w.cell? ⟨rb, 3, none⟩ = some vn ∧ (∀ j, w.frozen? ⟨rb, j, none⟩ = false) ∧ Ops (hide D w) vo xs ∧ Toks (hide D w) vl s.rest ∧ w.ownsRow (rb + 1) 54 2 vn s.names.length (s.names.flatMap nmCells) ∧ ∀ k, vn.ownBlock = some k → M k = true := by
  obtain ⟨vo, o1, o2⟩ := h.co
  obtain ⟨vl, l1, l2⟩ := h.cl
  obtain ⟨vn, n1, n2, n3⟩ := h.c3
  exact ⟨vo, vl, vn, o1, l1, h.c2, n1, h.fz, o2, l2, n2, n3⟩
theorem take_rest {w : World} {v : Value} {x : TokP} {r : List TokP} (h : Toks w v (x :: r)) : ∃ b off c, v = .slice (some ⟨b, off, none⟩) (r.length + 1) c ∧ r.length + 1 ≤ c ∧ c ≤ maxLen ∧ b < w.heap.size ∧ Toks w (.slice (some ⟨b, off + 5, none⟩) r.length (c - 1)) r ∧
    w.cell? ⟨b, off, none⟩ = some (.int .i64 (x.1.kind : Int)) ∧ w.cell? ⟨b, off + 1, none⟩ = some (.string ⟨x.1.text.toArray⟩) ∧ w.cell? ⟨b, off + 2, none⟩ = some (.int .i64 (x.1.n : Int)) ∧ w.cell? ⟨b, off + 3, none⟩ = some (.bool x.1.opens) ∧ w.cell? ⟨b, off + 4, none⟩ = some (.int .i64 (x.2 : Int)) := by
  obtain ⟨a, c, e, h1, h2, h3⟩ := h
  rcases h3 with h3 | ⟨b, off, rfl, hb, hc⟩
  · cases h3
  · rw [List.length_cons] at e h1
    refine ⟨b, off, c, e, h1, h2, hb, ⟨_, c - 1, rfl, by omega, by unfold maxLen at *; omega, Or.inr ⟨b, off + 5, rfl, hb, fun i y hy j u hu => ?_⟩⟩, ?_, ?_, ?_, ?_, ?_⟩
    · have := hc (i + 1) y (by simpa using hy) j u hu
      rw [show off + 5 + (i * 5 + j) = off + ((i + 1) * 5 + j) by omega]
      exact this
    · simpa using hc 0 x rfl 0 _ rfl
    · simpa using hc 0 x rfl 1 _ rfl
    · simpa using hc 0 x rfl 2 _ rfl
    · simpa using hc 0 x rfl 3 _ rfl
    · simpa using hc 0 x rfl 4 _ rfl
theorem toks_none {w : World} {v : Value} (h : Toks w v []) : ∃ a c, v = .slice a 0 c ∧ c ≤ maxLen := by
  obtain ⟨a, c, e, h1, h2, _⟩ := h
  exact ⟨a, c, e, h2⟩
end Go.Proofs.YtljgkfdnmikpfaaGreatDoor
/- What is written is read as it was, but for its variables' numbers. Pure. -/
namespace Go.Proofs.YtljgkfdnmikpfaaGreatDoor
open Go.RowKit
set_option linter.unusedVariables false

/-- What a good table tells of a name. -/
structure TabW (pre bet : List UInt8 → O × Bool) : Prop where
  pre1 : ∀ n, (pre n).2 = true → bl (pre n).1.n = n ∧ sideB (bl (pre n).1.k) = 1 ∧ 1 ≤ (pre n).1.l ∧ (pre n).1.l ≤ 1200
  pre0 : ∀ n, (pre n).2 = false → pre n = zO
  bet1 : ∀ n, (bet n).2 = true → bl (bet n).1.n = n ∧ sideB (bl (bet n).1.k) = 2 ∧ 1 ≤ (bet n).1.l ∧ (bet n).1.l ≤ 1200
  bet0 : ∀ n, (bet n).2 = false → bet n = zO
  curly : (pre [123, 125]).2 = false
  comma : (bet [44]).2 = true → (bet [44]).1.l = 1000
  nil : (pre [91, 93]).2 = false ∧ (bet [91, 93]).2 = false
theorem may_parts {n k : List UInt8} {l : Int} (h : mayB n k l = true) : sideB k ≠ 0 ∧ 1 ≤ l ∧ l ≤ 1200 ∧ (n = [44] → l = 1000) ∧ n ≠ [123, 125] ∧ n ≠ [91, 93] := by
  unfold mayB at h
  by_cases h0 : (n == [44]) = true
  · rw [if_pos h0] at h
    simp only [Bool.and_eq_true, beq_iff_eq] at h
    have hn : n = [44] := by simpa using h0
    rw [h.1, h.2, hn]
    exact ⟨by decide, by decide, by decide, fun _ => rfl, by decide, by decide⟩
  rw [if_neg h0] at h
  have hn : n ≠ [44] := by simpa using h0
  split at h
  · cases h
  split at h
  · cases h
  split at h
  · cases h
  split at h
  · cases h
  rename_i h3 h4
  simp only [Bool.and_eq_true, decide_eq_true_eq, bne_iff_ne] at h
  exact ⟨h.1.1.2, h.1.2, h.2, fun e => absurd e hn, by simpa using h4, by simpa using h3⟩
theorem one_find {xs : List O} {n : List UInt8} {s : Int} (h : (oneB xs n s).2 = true) : (oneB xs n s).1 ∈ xs ∧ key (oneB xs n s).1 = (n, s) ∧ goodB xs = true := by
  rcases place_cases xs n s with ⟨h1, h2⟩ | ⟨k, y, h1, h2, h3, _⟩
  · have := one_none (xs := xs) (n := n) (s := s) (fun x hx => by
      obtain ⟨j, hj, rfl⟩ := List.getElem_of_mem hx
      exact (isAt_no _ _ _).1 (h2 j _ (List.getElem?_eq_getElem hj)))
    rw [this] at h; cases h
  · have hg : goodB xs = true := by
      cases hg : goodB xs with
      | true => rfl
      | false => unfold oneB at h; rw [hg] at h; simp at h
    have := one_mem hg (List.mem_of_getElem? h2) ((isAt_iff _ _ _).1 h3)
    rw [this]
    exact ⟨List.mem_of_getElem? h2, (isAt_iff _ _ _).1 h3, hg⟩
theorem one_not {xs : List O} {n : List UInt8} {s : Int} (h : (oneB xs n s).2 = false) : oneB xs n s = zO := by
  unfold oneB at h ⊢
  split at h
  · rename_i hc; rw [if_pos hc]; rfl
  · cases h
theorem wone_ok {xs : List O} {n : List UInt8} {s : Int} (h : (oneB xs n s).2 = true) : bl (oneB xs n s).1.n = n ∧ sideB (bl (oneB xs n s).1.k) = s ∧ 1 ≤ (oneB xs n s).1.l ∧ (oneB xs n s).1.l ≤ 1200 ∧ (n = [44] → (oneB xs n s).1.l = 1000) ∧ n ≠ [123, 125] ∧ n ≠ [91, 93] := by
  obtain ⟨h1, h2, h3⟩ := one_find h
  have hm := ((good_iff xs).1 h3).2.1 _ h1
  have hk := Prod.mk.inj h2
  have := may_parts (show mayB (bl (oneB xs n s).1.n) (bl (oneB xs n s).1.k) (oneB xs n s).1.l = true from hm)
  rw [hk.1] at this
  exact ⟨hk.1, hk.2, this.2⟩
theorem tab_of (xs : List O) : TabW (preO xs) (betO xs) where
  pre1 := fun n h => by obtain ⟨h1, h2, h3, h4, _⟩ := wone_ok h; exact ⟨h1, h2, h3, h4⟩
  pre0 := fun n h => one_not h
  bet1 := fun n h => by obtain ⟨h1, h2, h3, h4, _⟩ := wone_ok h; exact ⟨h1, h2, h3, h4⟩
  bet0 := fun n h => one_not h
  curly := by
    cases h : (preO xs [123, 125]).2 with
    | false => rfl
    | true => exact absurd rfl (wone_ok h).2.2.2.2.2.1
  comma := fun h => (wone_ok h).2.2.2.2.1 rfl
  nil := by
    refine ⟨?_, ?_⟩
    · cases h : (preO xs [91, 93]).2 with
      | false => rfl
      | true => exact absurd rfl (wone_ok h).2.2.2.2.2.2
    · cases h : (betO xs [91, 93]).2 with
      | false => rfl
      | true => exact absurd rfl (wone_ok h).2.2.2.2.2.2
theorem side_two {k : List UInt8} (h : sideB k = 2) : k = [120, 102, 120] ∨ k = [120, 102, 121] ∨ k = [121, 102, 120] := by
  unfold sideB at h
  split at h
  · left; rename_i h1; simpa using h1
  split at h
  · right; left; rename_i h1; simpa using h1
  split at h
  · right; right; rename_i h1; simpa using h1
  split at h
  · cases h
  split at h
  · cases h
  · cases h
theorem side_one {k : List UInt8} (h : sideB k = 1) : k = [102, 121] ∨ k = [102, 120] := by
  unfold sideB at h
  split at h
  · cases h
  split at h
  · cases h
  split at h
  · cases h
  split at h
  · left; rename_i h1; simpa using h1
  split at h
  · right; rename_i h1; simpa using h1
  · cases h
theorem w64 {l : Int} (h1 : 0 ≤ l) (h2 : l ≤ 1200) : wrap64 (l - 1) = l - 1 := IntWalk.wrap64_in _ (by omega)
/-- What may stand beside an operator between. -/
theorem sides_two {k : List UInt8} {l : Int} (h : sideB k = 2) (h1 : 1 ≤ l) (h2 : l ≤ 1200) :
    (k ≠ yfxL ∧ (sidesB k l).1 = l - 1 ∧ (sidesB k l).2 ≤ l ∧ 0 ≤ (sidesB k l).2) ∨ (k = yfxL ∧ (sidesB k l).1 = l ∧ (sidesB k l).2 = l - 1) := by
  have hw := w64 (l := l) (by omega) h2
  rcases side_two h with rfl | rfl | rfl
  · left
    refine ⟨by decide, ?_, ?_, ?_⟩
    · show wrap64 (l - 1) = _; exact hw
    · show wrap64 (l - 1) ≤ _; rw [hw]; omega
    · show _ ≤ wrap64 (l - 1); rw [hw]; omega
  · left
    refine ⟨by decide, ?_, ?_, ?_⟩
    · show wrap64 (l - 1) = _; exact hw
    · show l ≤ l; omega
    · show _ ≤ l; omega
  · right
    exact ⟨rfl, rfl, by show wrap64 (l - 1) = _; exact hw⟩
theorem sides_one {k : List UInt8} {l : Int} (h : sideB k = 1) (h1 : 1 ≤ l) (h2 : l ≤ 1200) : k ≠ yfxL ∧ (sidesB k l).2 ≤ l ∧ 0 ≤ (sidesB k l).2 := by
  have hw := w64 (l := l) (by omega) h2
  rcases side_one h with rfl | rfl
  · exact ⟨by decide, by show l ≤ l; omega, by show _ ≤ l; omega⟩
  · exact ⟨by decide, by show wrap64 (l - 1) ≤ _; rw [hw]; omega, by show _ ≤ wrap64 (l - 1); rw [hw]; omega⟩

/-! Variables by their places. -/
mutual
def renT (vs : List Int) : Tm → Tm
  | .mk k n s ts => .mk k (if k = 0 then idxW vs n else n) s (renL vs ts)
def renL (vs : List Int) : List Tm → List Tm
  | [] => []
  | x :: r => renT vs x :: renL vs r
end
mutual
/-- Its numbers are of a size that there is. -/
def numsT : Tm → Prop
  | .mk k n _ ts => (k = 1 → n.natAbs < 10000000000000000000000000) ∧ numsL ts
def numsL : List Tm → Prop
  | [] => True
  | x :: r => numsT x ∧ numsL r
end
theorem nums_mem : ∀ {l : List Tm} {x : Tm}, numsL l → x ∈ l → numsT x
  | y :: r, x, hf, h => by
    rw [numsL] at hf
    rcases List.mem_cons.1 h with rfl | h
    · exact hf.1
    · exact nums_mem hf.2 h
def nmsW (k : Nat) : List NmP := (List.range k).map fun i => (95 :: digW i, i)
def stW (L : List TokP) (acc : List Int) : RS := ⟨L, acc.length, nmsW acc.length⟩
theorem digW_inj {i j : Nat} (hi : i < 10000000000000000000000000) (hj : j < 10000000000000000000000000) (h : digW i = digW j) : i = j := by
  have h1 := (digW_ok i hi).2.2.1
  have h2 := (digW_ok j hj).2.2.1
  rw [h] at h1
  omega
theorem nms_find {k i : Nat} (hk : k < 10000000000000000000000000) (hi : i < k) : (nmsW k).find? (fun p => p.1 == 95 :: digW i) = some (95 :: digW i, i) := by
  unfold nmsW
  induction k with
  | zero => omega
  | succ k ih =>
    rw [List.range_succ, List.map_append, List.find?_append]
    by_cases h : i < k
    · rw [ih (by omega) h]; rfl
    · obtain rfl : i = k := by omega
      have : ((List.range i).map fun j => ((95 :: digW j, j) : NmP)).find? (fun p => p.1 == 95 :: digW i) = none := by
        rw [List.find?_eq_none]
        intro p hp
        obtain ⟨j, hj, rfl⟩ := List.mem_map.1 hp
        have hj := List.mem_range.1 hj
        simp only [beq_iff_eq, List.cons.injEq, true_and]
        intro e
        have := digW_inj (by omega) (by omega) e
        omega
      rw [this]
      simp
theorem nms_none {k i : Nat} (hk : i < 10000000000000000000000000) (hi : k ≤ i) : (nmsW k).find? (fun p => p.1 == 95 :: digW i) = none := by
  unfold nmsW
  rw [List.find?_eq_none]
  intro p hp
  obtain ⟨j, hj, rfl⟩ := List.mem_map.1 hp
  have hj := List.mem_range.1 hj
  simp only [beq_iff_eq, List.cons.injEq, true_and]
  intro e
  have := digW_inj (by omega) (by omega) e
  omega
mutual
theorem vars_pre : ∀ (t : Tm) (l : List Int), l <+: varsT t l
  | .mk k n s ts, l => by
    rw [varsT]
    split
    · split
      · exact List.prefix_refl _
      · exact List.prefix_append _ _
    · exact varss_pre ts l
theorem varss_pre : ∀ (ts : List Tm) (l : List Int), l <+: varsL ts l
  | [], l => List.prefix_refl _
  | x :: r, l => by
    rw [varsL]
    exact (vars_pre x l).trans (varss_pre r _)
end
theorem vars_list (t : Tm) : ∀ (l : List Tm) (acc : List Int), varsT (listT l t) acc = varsT t (varsL l acc)
  | [], acc => rfl
  | x :: r, acc => by
    rw [listT, consT, varsT, if_neg (by decide), varsL, varsL, varsL, vars_list t r, varsL]
theorem ren_list (vs : List Int) (t : Tm) : ∀ (l : List Tm), renT vs (listT l t) = listT (renL vs l) (renT vs t)
  | [] => rfl
  | x :: r => by
    rw [listT, consT, renT, renL, renL, renL, renL, ren_list vs t r, listT, consT, if_neg (by decide)]
theorem find_prefix {l vs : List Int} {n : Int} (h : l <+: vs) {i : Nat} (hi : l.findIdx? (fun v => v == n) = some i) : vs.findIdx? (fun v => v == n) = some i := by
  obtain ⟨r, rfl⟩ := h
  rw [List.findIdx?_append, hi]
  rfl
theorem idx_nat {vs : List Int} {n : Int} (h : n ∈ vs) : ∃ i, vs.findIdx? (fun v => v == n) = some i ∧ idxW vs n = (i : Nat) ∧ i < vs.length := by
  cases hf : vs.findIdx? (fun v => v == n) with
  | none =>
    rw [List.findIdx?_eq_none_iff] at hf
    exact absurd (hf n h) (by simp)
  | some i =>
    refine ⟨i, rfl, by unfold idxW; rw [hf], ?_⟩
    obtain ⟨hi, _⟩ := List.findIdx?_eq_some_iff_getElem.1 hf
    exact hi
/-- What a variable is read as. -/
theorem var_reads {vs acc : List Int} {n : Int} {s : ByteArray} (h : varsT (.mk 0 n s []) acc <+: vs) (hv : vs.length < 10000000000000000000000000) (L : List TokP) :
    ∃ i : Nat, idxW vs n = i ∧ i < vs.length ∧ varR (95 :: digW i) (stW L acc) = (vT (i : Nat), stW L (varsT (.mk 0 n s []) acc)) := by
  rw [varsT, if_pos rfl] at h ⊢
  have hne : (95 :: digW 0 : List UInt8) ≠ [95] := by decide
  by_cases hc : acc.contains n = true
  · rw [if_pos hc] at h ⊢
    have hm : n ∈ acc := by simpa using hc
    obtain ⟨i, h1, h2, h3⟩ := idx_nat hm
    have h4 := find_prefix h h1
    have hl := h.length_le
    refine ⟨i, by unfold idxW; rw [h4], by omega, ?_⟩
    unfold varR stW
    simp only
    rw [nms_find (by omega) h3]
  · rw [if_neg hc] at h ⊢
    have hm : n ∉ acc := by simpa using hc
    have hf : (acc ++ [n]).findIdx? (fun v => v == n) = some acc.length := by
      rw [List.findIdx?_append]
      have : acc.findIdx? (fun v => v == n) = none := by
        rw [List.findIdx?_eq_none_iff]
        intro x hx
        simp only [beq_eq_false_iff_ne]
        intro e
        rw [e] at hx
        exact hm hx
      rw [this]
      simp
    have h4 := find_prefix h hf
    have hl := h.length_le
    rw [List.length_append, List.length_singleton] at hl
    refine ⟨acc.length, by unfold idxW; rw [h4], by omega, ?_⟩
    unfold varR stW
    simp only
    rw [nms_none (by omega) (Nat.le_refl _)]
    have hd : (95 :: digW acc.length) ≠ [95] := by
      intro e
      exact (digW_ok acc.length (by omega)).2.1 (List.cons.inj e).2
    rw [if_neg hd]
    simp only [Prod.mk.injEq, true_and]
    congr 1
    · simp
    · rw [List.length_append, List.length_singleton]
      unfold nmsW
      rw [List.range_succ, List.map_append]
      rfl

/-! What stands behind. -/
def hdL (L : List TokP) : TokP := L.head?.getD zTok
section
variable (pre bet : List UInt8 → O × Bool)
/-- Nothing of that level goes on. -/
def FolL (y : Int) (L : List TokP) : Prop := (hdL L).1.kind ≠ 4 ∧ ((betweenR bet (hdL L)).2 = false ∨ (betweenR bet (hdL L)).1.l > y)
def ClosL (L : List TokP) : Prop := beginsR pre bet (hdL L) = false
/-- These tokens read so, whatever stands behind. -/
def Reads (vs : List Int) (x : Tm) (lv rb : Int) (clo : Bool) (t : List TokP) : Prop :=
  ∀ acc, varsT x acc <+: vs → ∀ most, lv ≤ most → ∀ L, FolL bet rb L → (clo = true → ClosL pre bet L) →
    TERM pre bet most (stW (t ++ L) acc) = LOOP pre bet most (renT vs x, lv) (stW L (varsT x acc))
/-- A text of a term, by itself. -/
structure Wrt (vs : List Int) (x : Tm) (lv rb : Int) (clo beg : Bool) (b : List UInt8) : Prop where
  head : ∃ c r, b = c :: r ∧ c ≠ 93 ∧ c ≠ 125
  toks : ∀ p, ∃ h tl, Pc p b (h :: tl) ∧ h.2 = p ∧ (beg = true → beginsR pre bet h = true) ∧ Reads pre bet vs x lv rb clo (h :: tl)
end
section
variable {pre bet : List UInt8 → O × Bool} {vs : List Int}
theorem FolL.le {y z : Int} {L : List TokP} (h : FolL bet y L) (hz : z ≤ y) : FolL bet z L := ⟨h.1, by
  rcases h.2 with h | h
  · exact Or.inl h
  · exact Or.inr (by omega)⟩
theorem fol_stop {y lv : Int} {L : List TokP} {acc : List Int} {t : Tm} (h : FolL bet y L) : LOOP pre bet y (t, lv) (stW L acc) = some ((t, lv), stW L acc) := by
  refine LOOP_stop ?_
  rcases h.2 with h | h
  · exact Or.inl h
  · exact Or.inr (Or.inl h)
theorem Wrt.ne {x : Tm} {lv rb : Int} {clo beg : Bool} {b : List UInt8} (h : Wrt pre bet vs x lv rb clo beg b) : b ≠ [] := by
  obtain ⟨c, r, e, _⟩ := h.head
  rw [e]; simp
theorem mark_close {c : UInt8} {o : Bool} {p : Nat} {L : List TokP} (hc : c = 41 ∨ c = 93 ∨ c = 125 ∨ c = 124) (y : Int) : FolL bet y ((mkTok c o, p) :: L) ∧ ClosL pre bet ((mkTok c o, p) :: L) := by
  have h0 : hdL ((mkTok c o, p) :: L) = (mkTok c o, p) := rfl
  refine ⟨⟨by rw [h0]; show (5 : Nat) ≠ 4; omega, Or.inl ?_⟩, ?_⟩
  · rw [h0]
    unfold betweenR
    have : opKind (mkTok c o, p) = false := by
      rcases hc with rfl | rfl | rfl | rfl <;> rfl
    rw [this]; rfl
  · unfold ClosL
    rw [h0]
    rcases hc with rfl | rfl | rfl | rfl <;> rfl
theorem mark_comma (hT : TabW pre bet) {o : Bool} {p : Nat} {L : List TokP} {y : Int} (hy : y ≤ 999) : FolL bet y ((mkTok 44 o, p) :: L) ∧ ClosL pre bet ((mkTok 44 o, p) :: L) := by
  have h0 : hdL ((mkTok 44 o, p) :: L) = (mkTok 44 o, p) := rfl
  refine ⟨⟨by rw [h0]; show (5 : Nat) ≠ 4; omega, ?_⟩, rfl⟩
  rw [h0]
  show (bet [44]).2 = false ∨ (bet [44]).1.l > y
  cases h : (bet [44]).2 with
  | false => exact Or.inl rfl
  | true => right; rw [hT.comma h]; omega
theorem head_st (h : TokP) (tl L : List TokP) (acc : List Int) : headR (stW (h :: tl ++ L) acc) = h := rfl
theorem drop_st (h : TokP) (tl L : List TokP) (acc : List Int) : dropR (stW (h :: tl ++ L) acc) = stW (tl ++ L) acc := rfl
theorem hd_st (L : List TokP) (acc : List Int) : headR (stW L acc) = hdL L := rfl
/-- A term in brackets. -/
theorem Wrt.bracket {x : Tm} {lv rb : Int} {clo beg : Bool} {b : List UInt8} (h : Wrt pre bet vs x lv rb clo beg b) (hl : lv ≤ 1200) : Wrt pre bet vs x 0 (-1) false true (40 :: (b ++ [41])) where
  head := ⟨40, _, rfl, by decide, by decide⟩
  toks := fun p => by
    obtain ⟨hd, tl, h1, h2, h3, h4⟩ := h.toks (p + 1)
    refine ⟨(mkTok 40 (openB (b ++ [41])), p), (hd :: tl) ++ [(mkTok 41 false, p + 1 + b.length)], ?_, rfl, fun _ => rfl, ?_⟩
    · exact pc_mark (by simp) (Or.inl (by decide)) (pc_close (Or.inl rfl) h1)
    · intro acc ha most hm L hL hc
      obtain ⟨g1, g2⟩ := mark_close (pre := pre) (bet := bet) (o := false) (p := p + 1 + b.length) (L := L) (c := 41) (Or.inl rfl) 1200
      have hr := h4 acc ha 1200 hl ((mkTok 41 false, p + 1 + b.length) :: L) (mark_close (pre := pre) (Or.inl rfl) rb).1 (fun _ => g2)
      rw [fol_stop g1] at hr
      have hp : primR pre bet (TERM pre bet) most (stW ((mkTok 40 (openB (b ++ [41])), p) :: ((hd :: tl) ++ [(mkTok 41 false, p + 1 + b.length)]) ++ L) acc) = some ((renT vs x, 0), stW L (varsT x acc)) := by
        unfold primR
        rw [head_st, drop_st]
        rw [if_neg (by show ¬ ((5 : Nat) = 1 ∨ (5 : Nat) = 2); omega), if_neg (by show ¬ (5 : Nat) = 3; omega), if_neg (by show ¬ (5 : Nat) = 4; omega), if_pos (by rfl)]
        show zeroR (bracketR (TERM pre bet) [40] _) = _
        unfold bracketR
        rw [if_pos rfl]
        unfold closedR
        rw [List.append_assoc, List.singleton_append, hr]
        rfl
      rw [TERM_some hp]
/-- An Arg or an item. -/
theorem Wrt.place {x : Tm} {lv rb : Int} {clo beg : Bool} {B : Tm → List UInt8} (h : Wrt pre bet vs x lv rb clo beg (B x)) (h0 : lv ≤ levW pre bet x) (hl : levW pre bet x ≤ 1200) (hr : rb ≤ levW pre bet x) {m : Int} (hm : 0 ≤ m) :
    ∃ lv' rb' clo' beg', lv' ≤ m ∧ rb' ≤ m ∧ Wrt pre bet vs x lv' rb' clo' beg' (placeW pre bet B m x) := by
  unfold placeW
  by_cases hc : levW pre bet x ≤ m
  · rw [if_pos hc]
    exact ⟨lv, rb, clo, beg, by omega, by omega, h⟩
  · rw [if_neg hc]
    exact ⟨0, -1, false, true, hm, by omega, h.bracket (by omega)⟩
/-- Is it bracketed beside an operator, whatever its level? -/
def cloW (x : Tm) : Bool := x.args.isEmpty && decide (0 < levW pre bet x)
def begW (x : Tm) : Bool := !(cloW (pre := pre) (bet := bet) x || (x.k == 1 && decide (x.n < 0)))
/-- What stands beside an operator. -/
theorem Wrt.beside {x : Tm} {lv rb : Int} {B : Tm → List UInt8} (h : Wrt pre bet vs x lv rb (cloW (pre := pre) (bet := bet) x) (begW (pre := pre) (bet := bet) x) (B x)) (h0 : lv ≤ levW pre bet x) (hl : levW pre bet x ≤ 1200) (hn : 0 ≤ levW pre bet x) {m : Int} :
    (Wrt pre bet vs x 0 (-1) false true (besideW pre bet B x m)) ∨ (levW pre bet x ≤ m ∧ Wrt pre bet vs x lv rb false true (besideW pre bet B x m)) := by
  unfold besideW placeW mostW
  by_cases hc : (x.args.isEmpty && decide (0 < levW pre bet x) || (x.k == 1 && decide (x.n < 0))) = true
  · left
    rw [if_pos hc, if_neg (by omega)]
    exact h.bracket (by omega)
  · rw [if_neg hc]
    have hb : begW (pre := pre) (bet := bet) x = true := by
      unfold begW cloW
      simp only [Bool.not_eq_true] at hc
      rw [hc]; rfl
    have hcl : cloW (pre := pre) (bet := bet) x = false := by
      cases h1 : cloW (pre := pre) (bet := bet) x with
      | false => rfl
      | true => unfold cloW at h1; rw [h1] at hc; simp at hc
    by_cases hl2 : levW pre bet x ≤ m
    · rw [if_pos hl2]
      right
      rw [hb, hcl] at h
      exact ⟨hl2, h⟩
    · rw [if_neg hl2]
      left
      exact h.bracket (by omega)
end
end Go.Proofs.YtljgkfdnmikpfaaGreatDoor
