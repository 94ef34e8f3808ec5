import Derived.Test.YtljgkfdnmikpfaaGreatDoorHgfac
import Derived.Test.YtljgkfdnmikpfaaGreatDoorHgfah
import Derived.Lib.SmallJoins
import Derived.Lib.LaidTab
import Derived.Lib.ItoaMem
import Derived.Laws.StructEq
import Derived.Test.YtljgkfdnmikpfaaGreatDoorHgfaa
import Derived.Test.YtljgkfdnmikpfaaGreatDoorCards
import Derived.Test.YtljgkfdnmikpfaaGreatDoorTie
import Derived.LaidLaws
import Derived.Lay
import Derived.LaidSub
import Derived.SevenTiedAt
import Derived.Stop.LaidErr
import Derived.Test.YtljgkfdnmikpfaaGreatDoorHgfae
import Derived.Lib.ItoaLen
import Derived.Lib.AppendIntMem
set_option linter.unusedVariables false
set_option linter.unusedSimpArgs false
/- The project's writer in memory: its operators, its variables, what is written; put, text. -/
namespace Go.Proofs.YtljgkfdnmikpfaaGreatDoor
open Go.RowKit
set_option linter.unusedVariables false
set_option maxRecDepth 100000

theorem gPow : Tryz.prog.globalNamed "internal/strconv.uint64pow10" = some 3 := by kernel_rfl
/-- What strconv reads lies as the program's text lays it. -/
structure Con (w : World) : Prop where
  pow : Lib.TabIs Tryz.prog w "internal/strconv.uint64pow10" .u64 Lib.pow10Tab
  err : Err w
theorem Con.ext {w w' : World} (h : Con w) (hb : Below w.heap.size w w') : Con w' := ⟨Joins.tab_stays gPow h.pow hb (Nat.le_refl _), h.err.ext hb⟩
theorem var_lt {P : Program} {W : World} {g : Nat} {n : String} {cs : Array Value} (hg : P.globalNamed n = some g) (h : W.var? P n = some cs) : g < W.heap.size := by
  unfold World.var? at h
  rw [hg] at h
  simp only [Option.bind_some] at h
  rcases Nat.lt_or_ge g W.heap.size with h' | h'
  · exact h'
  · rw [Array.getElem?_eq_none h'] at h; cases h
theorem var_keep {P : Program} {W W' : World} {g : Nat} {n : String} {cs : Array Value} (hg : P.globalNamed n = some g) (h : W.var? P n = some cs) (hb : W'.heap[g]? = W.heap[g]?) : W'.var? P n = some cs := by
  unfold World.var? at h ⊢
  rw [hg] at h ⊢
  simp only [Option.bind_some] at h ⊢
  rw [hb]
  exact h
theorem Con.lt {w : World} (h : Con w) : 2 < w.heap.size ∧ 3 < w.heap.size := by
  obtain ⟨_, _, he⟩ := h.err
  exact ⟨var_lt gRange he, var_lt gPow h.pow⟩
theorem Con.keep {w w' : World} (h : Con w) (h1 : w'.heap[2]? = w.heap[2]?) (h2 : w'.heap[3]? = w.heap[3]?) : Con w' := by
  obtain ⟨tp, p, he⟩ := h.err
  exact ⟨var_keep gPow h.pow h2, tp, p, var_keep gRange he h1⟩
/-- The writer lies there, in block wb. M: blocks that turn: nothing else is looked at in them. -/
structure Wr (M : Nat → Bool) (w : World) (wb : Nat) (xs : List O) (vs : List Int) (out : List UInt8) : Prop where
  mb : M wb = true
  old : Old M w
  con : Con w
  gl : M 2 = false ∧ M 3 = false
  co : ∃ vo, w.cell? ⟨wb, 0, none⟩ = some vo ∧ Ops (hide M w) vo xs
  cv : ∃ vv, w.cell? ⟨wb, 1, none⟩ = some vv ∧ Nums (hide M w) vv vs
  c2 : ∃ vn, w.cell? ⟨wb, 2, none⟩ = some vn ∧ RowB w (wb + 1) vn out ∧ ∀ k, vn.ownBlock = some k → M k = true
  fz : ∀ j, w.frozen? ⟨wb, j, none⟩ = false
section
variable {M M' : Nat → Bool} {w w' : World} {wb : Nat} {xs : List O} {vs : List Int} {out : List UInt8}
theorem Wr.lt (h : Wr M w wb xs vs out) : wb < w.heap.size := by
  obtain ⟨vn, h1, _⟩ := h.c2
  exact World.block_lt_of_cell? _ _ h1
/-- It lies there still. -/
theorem Wr.later (h : Wr M w wb xs vs out) (hb : Below w.heap.size w w') : Wr M w' wb xs vs out := by
  have hs : Stays (hide M w) (hide M w') := Stays.below hb fun _ _ h => h
  obtain ⟨vo, o1, o2⟩ := h.co
  obtain ⟨vv, v1, v2⟩ := h.cv
  obtain ⟨vn, n1, n2, n3⟩ := h.c2
  have hlt := h.lt
  exact { mb := h.mb, old := h.old.mono hb.size, con := h.con.ext hb, gl := h.gl, co := ⟨vo, cell_later hb o1, Elems.stay o2 hs⟩, cv := ⟨vv, cell_later hb v1, Elems.stay v2 hs⟩
          c2 := ⟨vn, cell_later hb n1, row_at n2 (fun g hg => hb.block g (row_in n2 hg).2), n3⟩
          fz := fun j => (hb.frozen (p := ⟨wb, j, none⟩) hlt).trans (h.fz j) }
/-- Where its parts lie. -/
theorem Wr.parts (h : Wr M w wb xs vs out) : ∃ vo vv vn, w.cell? ⟨wb, 0, none⟩ = some vo ∧ w.cell? ⟨wb, 1, none⟩ = some vv ∧ w.cell? ⟨wb, 2, none⟩ = some vn ∧ (∀ j, w.frozen? ⟨wb, j, none⟩ = false) ∧ Ops w vo xs ∧ Nums w vv vs ∧ RowB w (wb + 1) vn out := by
  obtain ⟨vo, o1, o2⟩ := h.co
  obtain ⟨vv, v1, v2⟩ := h.cv
  obtain ⟨vn, n1, n2, n3⟩ := h.c2
  exact ⟨vo, vv, vn, o1, v1, n1, h.fz, Elems.stay o2 (Stays.unhide M w), Elems.stay v2 (Stays.unhide M w), n2⟩
/-- What a call that writes leaves. -/
def WPost (M : Nat → Bool) (w : World) (wb : Nat) (xs : List O) (vs : List Int) (out : List UInt8) (e : Ending) (w' : World) : Prop :=
  e = .returned (.tuple #[]) ∧ ∃ M', Wr M' w' wb xs vs out ∧ Turn M M M' M' w w'
theorem TmV.turn {x : Tm} {v : Value} (h : TmV (hide M w) x v) (ht : Turn M M M' M' w w') : TmV (hide M' w') x v := TmV.stay (ht.stays fun _ h => h) _ _ h
theorem Tms.turn {l : List Tm} {v : Value} (h : Tms (hide M w) v l) (ht : Turn M M M' M' w w') : Tms (hide M' w') v l := h.stay (ht.stays fun _ h => h)
theorem Wr.new (h : Wr M w wb xs vs out) {k : Nat} (hk : w.heap.size ≤ k) : M k = false := h.old k hk
theorem bytesV_app (l m : List UInt8) : bytesV (l ++ m) = bytesV l ++ bytesV m := by unfold bytesV; rw [List.map_append]
set_option maxHeartbeats 2000000 in
theorem Wr.grow (h : Wr M w wb xs vs out) {vn vn' : Value} (n1 : w.cell? ⟨wb, 2, none⟩ = some vn) (n2 : RowB w (wb + 1) vn out) (n3 : ∀ k, vn.ownBlock = some k → M k = true) {w1 : World} {out' : List UInt8} (hown : RowB w1 (wb + 1) vn' out')
    (hgrow : w.grownBy w1 vn.ownBlock) (hat : vn'.ownBlock = vn.ownBlock ∨ vn'.ownBlock = some w.heap.size) : (∃ M', Wr M' (w1.setCell ⟨wb, 2, none⟩ vn') wb xs vs out' ∧ Turn M M M' M' w (w1.setCell ⟨wb, 2, none⟩ vn')) ∧ ∀ j, j ≠ 2 → (w1.setCell ⟨wb, 2, none⟩ vn').cell? ⟨wb, j, none⟩ = w.cell? ⟨wb, j, none⟩ := by
  have hlt := h.lt
  have hsz : (w1.setCell ⟨wb, 2, none⟩ vn').heap.size = w1.heap.size := by simp [World.setCell]
  have hwb : w1.heap[wb]? = w.heap[wb]? := hgrow.block wb hlt (by
    intro e
    have := row_in n2 e.symm
    omega)
  have hmm : ∀ k, k < w.heap.size → (M k || vn'.ownBlock == some k) = M k := fun k hk => by
    cases hm : M k with
    | true => rfl
    | false =>
      rw [Bool.false_or]
      cases he : (vn'.ownBlock == some k) with
      | false => rfl
      | true =>
        have he : vn'.ownBlock = some k := by simpa using he
        rcases hat with hat | hat
        · rw [hat] at he
          rw [n3 k he] at hm
          cases hm
        · rw [hat] at he
          injection he with he
          omega
  have hkept : ∀ k, k < w.heap.size → M k = false → (w1.setCell ⟨wb, 2, none⟩ vn').heap[k]? = w.heap[k]? := fun k hk hm => by
    rw [Below.heap_setCell w1 _ _ k (fun e => by rw [e, h.mb] at hm; cases hm)]
    exact hgrow.block k hk (by
      intro e
      rw [n3 k e.symm] at hm
      cases hm)
  have hT : Turn M M (fun k => M k || vn'.ownBlock == some k) (fun k => M k || vn'.ownBlock == some k) w (w1.setCell ⟨wb, 2, none⟩ vn') :=
    ⟨by rw [hsz]; exact hgrow.size, hmm, hmm, hkept, (show Below 0 w w1 from ⟨hgrow.os, hgrow.tape, hgrow.output, hgrow.size, fun k hk => by omega⟩).setCell (Nat.zero_le _) _⟩
  have hs := hT.stays (fun _ h => h)
  obtain ⟨vo, o1, o2⟩ := h.co
  obtain ⟨vv, v1, v2⟩ := h.cv
  obtain ⟨M', hM'⟩ : ∃ M', (fun k => M k || vn'.ownBlock == some k) = M' := ⟨_, rfl⟩
  have hMk : ∀ k, M' k = (M k || vn'.ownBlock == some k) := fun k => by rw [← hM']
  rw [hM'] at hT hs
  clear hM'
  refine ⟨⟨M', ⟨by rw [hMk, h.mb]; rfl, fun k hk => ?_, h.con.keep (hkept _ h.con.lt.1 h.gl.1) (hkept _ h.con.lt.2 h.gl.2), ⟨(hT.mm _ h.con.lt.1).trans h.gl.1, (hT.mm _ h.con.lt.2).trans h.gl.2⟩, ⟨vo, ?_, Elems.stay o2 hs⟩, ⟨vv, ?_, Elems.stay v2 hs⟩, ⟨vn', css (u := vn) ?_, row_at hown (fun g hg => Below.heap_setCell w1 _ _ g (fun e => ?_)), fun k hk => ?_⟩, fun j => ?_⟩, hT⟩, fun j hj => by rw [near_cell hj, World.cell?_of_block hwb]⟩
  · rw [hsz] at hk
    rw [hMk, h.old k (Nat.le_trans hgrow.size hk), Bool.false_or]
    cases he : (vn'.ownBlock == some k) with
    | false => rfl
    | true =>
      have he : vn'.ownBlock = some k := by simpa using he
      have := row_in hown he
      omega
  · rw [near_cell (by decide), World.cell?_of_block hwb]; exact o1
  · rw [near_cell (by decide), World.cell?_of_block hwb]; exact v1
  · rw [World.cell?_of_block hwb]; exact n1
  · have := row_in hown hg
    simp only at e
    omega
  · rw [hMk, hk]; simp
  · rw [World.frozen?_setCell, World.frozen?_of_block hwb]
    exact h.fz j
theorem putK (h : Wr M w wb xs vs out) {vn : Value} (n1 : w.cell? ⟨wb, 2, none⟩ = some vn) (n2 : RowB w (wb + 1) vn out) (n3 : ∀ k, vn.ownBlock = some k → M k = true) (hf : ∀ j, w.frozen? ⟨wb, j, none⟩ = false) {s : ByteArray} {w1 : World} {a' : Option Addr} {c' : Nat}
    (hown : w1.ownsRow (wb + 1) 5 1 (.slice a' (out.length + s.size) c') (out.length + s.size) (bytesV out ++ byteCells s)) (hgrow : w.grownBy w1 vn.ownBlock) (hat : (Value.slice a' (out.length + s.size) c').ownBlock = vn.ownBlock ∨ (Value.slice a' (out.length + s.size) c').ownBlock = some w.heap.size) :
    w1.cell? ⟨wb, 2, none⟩ = some vn ∧ (∀ j, w1.frozen? ⟨wb, j, none⟩ = false) ∧ Hid ((∃ M', Wr M' (w1.setCell ⟨wb, 2, none⟩ (.slice a' (out.length + s.size) c')) wb xs vs (out ++ bl s) ∧ Turn M M M' M' w (w1.setCell ⟨wb, 2, none⟩ (.slice a' (out.length + s.size) c'))) ∧ ∀ j, j ≠ 2 → (w1.setCell ⟨wb, 2, none⟩ (.slice a' (out.length + s.size) c')).cell? ⟨wb, j, none⟩ = w.cell? ⟨wb, j, none⟩) := by
  have hwb : w1.heap[wb]? = w.heap[wb]? := hgrow.block wb h.lt (by
    intro e
    have := row_in n2 e.symm
    omega)
  have hown' : RowB w1 (wb + 1) (.slice a' (out.length + s.size) c') (out ++ bl s) := by
    unfold RowB
    rw [List.length_append, bl_len, bytesV_app]
    exact hown
  exact ⟨by rw [World.cell?_of_block hwb]; exact n1, fun j => by rw [World.frozen?_of_block hwb]; exact hf j, Lib.hid (h.grow n1 n2 n3 hown' hgrow hat)⟩
set_option maxHeartbeats 2000000 in
theorem put_keeps (h : Wr M w wb xs vs out) (s : ByteArray) (hz : out.length + (bl s).length ≤ 1000000000) :
    Calls Tryz.prog 91 #[.pointer (some ⟨wb, 0, none⟩), .string s] w fun e w' => WPost M w wb xs vs (out ++ bl s) e w' ∧ ∀ j, j ≠ 2 → w'.cell? ⟨wb, j, none⟩ = w.cell? ⟨wb, j, none⟩ := by
  obtain ⟨vn, n1, n2, n3⟩ := h.c2
  obtain ⟨i0, hi0, hz0, hs0, hb0⟩ := info_parts infoU8
  have hlt := h.lt
  rw [bl_len] at hz
  have H := Lib.hid h
  have hf := h.fz
  obtain ⟨ao, cap, hvn, hcap⟩ := row_formk n2
  subst hvn
  have HN := Lib.hid n3
  have HR := Lib.hid n2
  have HN1 := Lib.hid n1
  clear h n2 n3
  go_enter Tryz.func91, Tryz.ntmps91
  go_wp2_with (at_builtin; refine wpList_append_s rfl _ _ 97 9 rfl (wb + 1) 5 i0 (.int .u8 0) 1 Tryz.underlying97 Tryz.underlying9 hi0 hz0 hs0 hb0 rfl (.slice ao out.length cap) out.length (bytesV out) rfl HR.out s rfl (by unfold maxLen; omega) (by omega) (by omega) ?_; intro a' c' w1 hown hgrow hat; obtain ⟨m1, mf, HG⟩ := putK H.out HN1.out HR.out HN.out hf hown hgrow hat; clear hown hgrow hat; simp only [Act.put, List.setIfInBounds_toArray, List.set_cons_zero, List.set_cons_succ])
  go_wp2
  go_end0
  exact ⟨⟨rfl, HG.out.1⟩, HG.out.2⟩
theorem put_at (h : Wr M w wb xs vs out) (s : ByteArray) (hz : out.length + (bl s).length ≤ 1000000000) :
    Calls Tryz.prog 91 #[.pointer (some ⟨wb, 0, none⟩), .string s] w (WPost M w wb xs vs (out ++ bl s)) := (put_keeps h s hz).mono fun e w' h => h.1
/-- What is written, in the end. -/
theorem text_at (h : Wr M w wb xs vs out) (hz : out.length ≤ 1000000000) :
    Calls Tryz.prog 56 #[.pointer (some ⟨wb, 0, none⟩)] w fun e w' => e = .returned (.tuple #[.string ⟨(if 4096 < out.length then [] else out).toArray⟩, .int .i64 (if 4096 < out.length then 3 else 0)]) ∧ w = w' := by
  obtain ⟨_, _, vn, _, _, n1, _, _, _, n2⟩ := h.parts
  have hc := conv_row n2
  obtain ⟨ao, cap, hvn, hcap⟩ := row_formk n2
  subst hvn
  clear h n2
  by_cases hbig : 4096 < out.length
  · rw [if_pos hbig, if_pos hbig]
    have hd : decide ((out.length : Int) > 4096) = true := by simp; omega
    go_enter Tryz.func56, Tryz.ntmps56
    go_wp2
    go_ret2
    exact ⟨rfl, rfl⟩
  · rw [if_neg hbig, if_neg hbig]
    have hd : decide ((out.length : Int) > 4096) = false := by simp; omega
    go_enter Tryz.func56, Tryz.ntmps56
    go_wp2
    go_ret2
    exact ⟨rfl, rfl⟩
end
end Go.Proofs.YtljgkfdnmikpfaaGreatDoor
/- What stands in a written text, letter by letter: pieces that are cut as they were meant, whatever stands behind. Numbers of any size. Pure. -/
namespace Go.Proofs.YtljgkfdnmikpfaaGreatDoor
set_option linter.unusedVariables false

/-! Pieces. -/
/-! Numbers. -/
def digF : Nat → Nat → List UInt8
  | 0, _ => []
  | f + 1, u => if u < 10 then [UInt8.ofNat (48 + u)] else digF f (u / 10) ++ [UInt8.ofNat (48 + u % 10)]
/-- A number's digits. -/
def digW (u : Nat) : List UInt8 := digF 25 u
theorem digF_eq : ∀ (f u : Nat), u < 10 ^ (f + 1) → digF (f + 1) u = Lib.decDigits u
  | 0, u, h => by
    rw [digF, Lib.decDigits, if_pos (by simpa using h), dif_pos (by simpa using h)]
  | f + 1, u, h => by
    rw [digF, Lib.decDigits]
    by_cases hu : u < 10
    · rw [if_pos hu, dif_pos hu]
    · rw [if_neg hu, dif_neg hu, digF_eq f (u / 10) (by rw [Nat.pow_succ] at h; omega)]
theorem ten_char : ∀ u : Nat, u < 10 → digitB (UInt8.ofNat (48 + u)) = true ∧ (UInt8.ofNat (48 + u)).toNat = 48 + u := by
  intro u hu
  have h : ((List.range 10).all fun u => digitB (UInt8.ofNat (48 + u)) && (UInt8.ofNat (48 + u)).toNat == 48 + u) = true := by decide +kernel
  have := List.all_eq_true.1 h u (List.mem_range.2 hu)
  simpa using this
theorem numB_snoc (l : List UInt8) (c : UInt8) : numB (l ++ [c]) = numB l * 10 + (c.toNat - 48) := by
  unfold numB
  rw [List.foldl_append]
  rfl
theorem digF_ok : ∀ (f u : Nat), u < 10 ^ (f + 1) → (digF (f + 1) u).all digitB = true ∧ digF (f + 1) u ≠ [] ∧ numB (digF (f + 1) u) = u ∧ (digF (f + 1) u).length ≤ f + 1
  | f, u, h => by
    rw [digF]
    by_cases hu : u < 10
    · obtain ⟨h1, h2⟩ := ten_char u hu
      rw [if_pos hu]
      refine ⟨by rw [List.all_cons, h1]; rfl, by simp, ?_, by simp⟩
      show 0 * 10 + ((UInt8.ofNat (48 + u)).toNat - 48) = u
      rw [h2]; omega
    · rw [if_neg hu]
      cases f with
      | zero => simp at h; omega
      | succ f =>
        have ih := digF_ok f (u / 10) (by rw [Nat.pow_succ] at h; omega)
        obtain ⟨h1, h2⟩ := ten_char (u % 10) (by omega)
        refine ⟨?_, by simp, ?_, ?_⟩
        · rw [List.all_append, ih.1, List.all_cons, h1]; rfl
        · rw [numB_snoc, ih.2.2.1, h2]; omega
        · rw [List.length_append, List.length_singleton]; omega
theorem digW_ok (u : Nat) (h : u < 10000000000000000000000000) : (digW u).all digitB = true ∧ digW u ≠ [] ∧ numB (digW u) = u ∧ (digW u).length ≤ 25 := digF_ok 24 u (by simpa using h)
end Go.Proofs.YtljgkfdnmikpfaaGreatDoor
/- Writing, as chapter 9 says it, over trees: pure. Nothing here is walked. -/
namespace Go.Proofs.YtljgkfdnmikpfaaGreatDoor
open Go.RowKit
set_option linter.unusedVariables false

def zO : O × Bool := (⟨⟨#[]⟩, ⟨#[]⟩, 0⟩, false)
/-- A number in base ten. -/
def numW (n : Int) : List UInt8 := if n < 0 then 45 :: digW n.natAbs else digW n.toNat
def yfxL : List UInt8 := [121, 102, 120]
section
variable (vs : List Int)
/-- The place of a variable. -/
def idxW (n : Int) : Int := match vs.findIdx? (fun v => v == n) with
  | some i => (i : Nat)
  | none => -1
/-- What stands first. -/
def headW : Tm → List UInt8
  | .mk k n s _ => if k = 0 then 95 :: numW (idxW vs n) else if k = 1 then numW n else if k = 2 then quoteB (bl s) else []
/-- Terms, each as W says, with commas between. -/
def rowW (W : Tm → List UInt8) : List Tm → List UInt8
  | [] => []
  | [x] => W x
  | x :: r => W x ++ 44 :: rowW W r
def calledW (W : Tm → List UInt8) (x : Tm) : List UInt8 := headW vs x ++ (if x.args.isEmpty then [] else 40 :: (rowW W x.args ++ [41]))
def plainF : Nat → Tm → List UInt8
  | 0, _ => []
  | f + 1, x => calledW vs (plainF f) x
/-- A term without operators. -/
def PLAIN (x : Tm) : List UInt8 := plainF vs (sizeN x) x
variable (pre bet : List UInt8 → O × Bool)
/-- The operator by which a term is written. -/
def opW : Tm → O × Bool
  | .mk _ _ s [a] => if (pre (bl s)).2 && (plainB (bl s) && !(bl s == [45] && a.k == 1)) then pre (bl s) else zO
  | .mk _ _ s [_, _] => if bl s == [46] then zO else bet (bl s)
  | _ => zO
def levW (x : Tm) : Int := if x.k == 2 && x.args.isEmpty then max (pre (bl x.s)).1.l (bet (bl x.s)).1.l else (opW pre bet x).1.l
def placeW (B : Tm → List UInt8) (most : Int) (x : Tm) : List UInt8 := if levW pre bet x ≤ most then B x else 40 :: (B x ++ [41])
def mostW (x : Tm) (most : Int) : Int := if x.args.isEmpty && decide (0 < levW pre bet x) || (x.k == 1 && decide (x.n < 0)) then -1 else most
def besideW (B : Tm → List UInt8) (x : Tm) (most : Int) : List UInt8 := placeW pre bet B (mostW pre bet x most) x
def aheadW (B : Tm → List UInt8) (o : O) (x : Tm) : List UInt8 := quoteB (bl o.n) ++ 32 :: besideW pre bet B x (sidesB (bl o.k) o.l).2
def leftW (o : O) (x : Tm) : Int := if bl o.k == yfxL && !(bl (opW pre bet x).1.k == yfxL) then wrap64 ((sidesB (bl o.k) o.l).1 - 1) else (sidesB (bl o.k) o.l).1
def betweenW (B : Tm → List UInt8) (o : O) (x y : Tm) : List UInt8 :=
  besideW pre bet B x (leftW pre bet o x) ++ ((if bl o.n == [44] then [44] else 32 :: (quoteB (bl o.n) ++ [32])) ++ besideW pre bet B y (sidesB (bl o.k) o.l).2)
def nilW (x : Tm) : Bool := sameT x (aT [91, 93])
def tailW (B : Tm → List UInt8) (x : Tm) : List UInt8 := if nilW x then [] else 124 :: placeW pre bet B 999 x
def listW (B : Tm → List UInt8) (x : Tm) : List UInt8 := 91 :: (rowW (placeW pre bet B 999) (itemsT x).1 ++ (tailW pre bet B (itemsT x).2 ++ [93]))
/-- A term without brackets around it. -/
def bareW (B : Tm → List UInt8) (x : Tm) : List UInt8 :=
  if (opW pre bet x).2 then (match x.args with
    | [a] => aheadW pre bet B (opW pre bet x).1 a
    | [a, b] => betweenW pre bet B (opW pre bet x).1 a b
    | _ => [])
  else if x.k == 2 && (bl x.s == [46] && decide (x.args.length = 2)) then listW pre bet B x
  else if bl x.s == [123, 125] && decide (x.args.length = 1) then 123 :: ((match x.args with | [a] => placeW pre bet B 1200 a | _ => []) ++ [125])
  else calledW vs (placeW pre bet B 999) x
def bareF : Nat → Tm → List UInt8
  | 0, _ => []
  | f + 1, x => bareW vs pre bet (bareF f) x
def BARE (x : Tm) : List UInt8 := bareF vs pre bet (sizeN x) x
/-- A whole term. -/
def WRITE (x : Tm) : List UInt8 := placeW pre bet (BARE vs pre bet) 1200 x
end

theorem opW_one {pre bet : List UInt8 → O × Bool} {k n : Int} {s : ByteArray} {a : Tm} : opW pre bet (.mk k n s [a]) = if ((pre (bl s)).2 && (plainB (bl s) && !(bl s == [45] && a.k == 1))) = true then pre (bl s) else zO := rfl
theorem opW_two {pre bet : List UInt8 → O × Bool} {k n : Int} {s : ByteArray} {a c : Tm} : opW pre bet (.mk k n s [a, c]) = if (bl s == [46]) = true then zO else bet (bl s) := rfl
/-- What has no Args. -/
theorem bareW_leaf {vs : List Int} {pre bet : List UInt8 → O × Bool} {B : Tm → List UInt8} {k n : Int} {s : ByteArray} : bareW vs pre bet B (.mk k n s []) = headW vs (.mk k n s []) := by
  unfold bareW
  rw [if_neg (by show ¬ (false = true); decide), if_neg (by show ¬ ((k == 2 && (bl s == [46] && decide ((0 : Nat) = 2))) = true); simp), if_neg (by show ¬ ((bl s == [123, 125] && decide ((0 : Nat) = 1)) = true); simp)]
  unfold calledW
  simp [Tm.args]

/-! Enough is enough. -/
theorem rowW_agree {W W' : Tm → List UInt8} : ∀ {l : List Tm}, (∀ x ∈ l, W x = W' x) → rowW W l = rowW W' l
  | [], _ => rfl
  | [x], h => h x (by simp)
  | x :: y :: r, h => by
    show W x ++ 44 :: rowW W (y :: r) = W' x ++ 44 :: rowW W' (y :: r)
    rw [h x (by simp), rowW_agree (fun z hz => h z (List.mem_cons_of_mem _ hz))]
theorem placeW_agree {pre bet : List UInt8 → O × Bool} {B B' : Tm → List UInt8} {m : Int} {x : Tm} (h : B x = B' x) : placeW pre bet B m x = placeW pre bet B' m x := by
  unfold placeW; rw [h]
theorem items_size : ∀ (n : Nat) (t : Tm), sizeN t ≤ n → (∀ x ∈ (itemsT t).1, sizeN x < sizeN t) ∧ (sizeN (itemsT t).2 < sizeN t ∨ ((itemsT t).1 = [] ∧ (itemsT t).2 = t))
  | 0, t, h => by have := size_pos t; omega
  | n + 1, t, h => by
    cases hp : pairT t with
    | none => rw [items_none hp]; exact ⟨fun x hx => (by cases hx), Or.inr ⟨rfl, rfl⟩⟩
    | some q =>
      obtain ⟨a, b⟩ := q
      obtain ⟨h1, h2, h3, h4⟩ := pair_size hp
      have ih := items_size n b (by omega)
      rw [items_some hp]
      have ha : sizeN a < sizeN t := by
        cases t with
        | mk k n s ts =>
          cases (show ts = [a, b] from h2)
          rw [sizeN, sizesN, sizesN, sizesN]
          have := size_pos b
          omega
      refine ⟨fun x hx => ?_, Or.inl ?_⟩
      · rcases List.mem_cons.1 hx with rfl | hx
        · exact ha
        · have := ih.1 x hx; omega
      · rcases ih.2 with h | ⟨_, h⟩
        · show sizeN (itemsT b).2 < _; omega
        · show sizeN (itemsT b).2 < _; rw [h]; exact h1
theorem arg_size {x y : Tm} (h : y ∈ x.args) : sizeN y < sizeN x := by
  cases x with
  | mk k n s ts =>
    have := sizes_mem (show y ∈ ts from h)
    rw [sizeN]; omega
theorem calledW_agree {vs : List Int} {W W' : Tm → List UInt8} {x : Tm} (h : ∀ y, sizeN y < sizeN x → W y = W' y) : calledW vs W x = calledW vs W' x := by
  unfold calledW
  rw [rowW_agree (fun y hy => h y (arg_size hy))]
theorem bareW_agree {vs : List Int} {pre bet : List UInt8 → O × Bool} {B B' : Tm → List UInt8} {x : Tm} (h : ∀ y, sizeN y < sizeN x → B y = B' y) : bareW vs pre bet B x = bareW vs pre bet B' x := by
  unfold bareW
  split
  · split
    · rename_i a he
      unfold aheadW besideW
      rw [placeW_agree (h a (arg_size (by rw [he]; simp)))]
    · rename_i a b he
      unfold betweenW besideW
      rw [placeW_agree (h a (arg_size (by rw [he]; simp))), placeW_agree (h b (arg_size (by rw [he]; simp)))]
    · rfl
  · split
    · unfold listW tailW
      rename_i hl
      have hi := items_size (sizeN x) x (Nat.le_refl _)
      rw [rowW_agree (fun y hy => placeW_agree (h y (hi.1 y hy)))]
      rcases hi.2 with ht | ⟨h1, h2⟩
      · rw [placeW_agree (h _ ht)]
      · exfalso
        cases x with
        | mk k n s ts =>
          simp only [Bool.and_eq_true, beq_iff_eq, decide_eq_true_eq] at hl
          obtain ⟨hk, hs, hl⟩ := hl
          have hk2 : k = 2 := hk
          have hs2 : s.data.toList = [46] := hs
          have hl2 : ts.length = 2 := hl
          clear hk hs hl
          match ts, hl2 with
          | [a, b], _ =>
            have hp : pairT (.mk k n s [a, b]) = some (a, b) := by
              show (if (k == 2 && s.data.toList == [46]) = true then some (a, b) else none) = _
              rw [hk2, hs2]
              rfl
            rw [items_some hp] at h1
            cases h1
    · split
      · split
        · rename_i a he
          rw [placeW_agree (h a (arg_size (by rw [he]; simp)))]
        · rfl
      · exact calledW_agree (fun y hy => placeW_agree (h y hy))
theorem bareF_fuel {vs : List Int} {pre bet : List UInt8 → O × Bool} : ∀ (f f' : Nat) (x : Tm), sizeN x ≤ f → sizeN x ≤ f' → bareF vs pre bet f x = bareF vs pre bet f' x
  | 0, f', x, h, _ => by have := size_pos x; omega
  | f + 1, 0, x, _, h => by have := size_pos x; omega
  | f + 1, f' + 1, x, h, h' => by
    rw [bareF, bareF]
    exact bareW_agree (fun y hy => bareF_fuel f f' y (by omega) (by omega))
theorem BARE_eq {vs : List Int} {pre bet : List UInt8 → O × Bool} (x : Tm) : BARE vs pre bet x = bareW vs pre bet (BARE vs pre bet) x := by
  unfold BARE
  obtain ⟨n, hn⟩ : ∃ n, sizeN x = n + 1 := ⟨sizeN x - 1, by have := size_pos x; omega⟩
  rw [hn, bareF]
  exact bareW_agree (fun y hy => bareF_fuel n _ y (by omega) (Nat.le_refl _))
theorem plainF_fuel {vs : List Int} : ∀ (f f' : Nat) (x : Tm), sizeN x ≤ f → sizeN x ≤ f' → plainF vs f x = plainF vs f' x
  | 0, f', x, h, _ => by have := size_pos x; omega
  | f + 1, 0, x, _, h => by have := size_pos x; omega
  | f + 1, f' + 1, x, h, h' => by
    rw [plainF, plainF]
    exact calledW_agree (fun y hy => plainF_fuel f f' y (by omega) (by omega))
theorem PLAIN_eq {vs : List Int} (x : Tm) : PLAIN vs x = calledW vs (PLAIN vs) x := by
  unfold PLAIN
  obtain ⟨n, hn⟩ : ∃ n, sizeN x = n + 1 := ⟨sizeN x - 1, by have := size_pos x; omega⟩
  rw [hn, plainF]
  exact calledW_agree (fun y hy => plainF_fuel n _ y (by omega) (Nat.le_refl _))
end Go.Proofs.YtljgkfdnmikpfaaGreatDoor
/- What the cards of this seat share: strconv's ErrRange is an error where the program's text lays it. -/
namespace Go.Proofs.YtljgkfdnmikpfaaGreatDoor
open Go.RowKit
theorem star : "*" ++ "errors.errorString" = "*errors.errorString" := by decide
theorem row_err (u : TypeId) (h : Tryz.prog.typeName? 3 u = some "*errors.errorString") : u = 233 :=
  typeName_ptr_named (nm := "errors.errorString") (by rw [star]; kernel_rfl) (by kernel_rfl) (by decide) u (by rw [star]; exact h)
theorem err_of {l : List (String × DataW Unit)} {w : World} (hl : (l.all fun x => x.2.handleName?.isNone) = true) {nm : String} {text : List UInt8}
    (hf : l.filter (fun x => x.1 == "strconv.ErrRange") = [("strconv.ErrRange", .iface nm (.ptr (.agg [.lit (.string text)])))]) (hn : nm = "*errors.errorString") (h : laidMetH Tryz.prog l w) : Err w := by
  subst hn
  rw [MakeChecks.laidMetH_plain _ _ _ hl] at h
  have h1 := h.filter (fun x => x.1 == "strconv.ErrRange")
  rw [hf] at h1
  obtain ⟨a, s, hv, _⟩ := laid_sentinel h1 gRange (ti := 178) (by kernel_rfl) Tryz.underlying178 (tp := 233) row_err Tryz.underlying233 Tryz.underlying235 rfl rfl Tryz.underlying9 (by kernel_rfl) (by kernel_rfl)
  exact ⟨_, _, hv⟩
end Go.Proofs.YtljgkfdnmikpfaaGreatDoor
/- The project's writer: where a variable stands among others; a term's head. -/
namespace Go.Proofs.YtljgkfdnmikpfaaGreatDoor
open Go.RowKit
set_option linter.unusedVariables false
set_option maxRecDepth 100000

theorem idx_none {vs : List Int} {n : Int} (h : ∀ (i : Nat) (x : Int), vs[i]? = some x → ¬ x = n) : idxW vs n = -1 := by
  unfold idxW
  have : vs.findIdx? (fun v => v == n) = none := by
    rw [List.findIdx?_eq_none_iff]
    intro x hx
    obtain ⟨i, hi, rfl⟩ := List.getElem_of_mem hx
    simp only [beq_eq_false_iff_ne]
    exact h i _ (List.getElem?_eq_getElem hi)
  rw [this]
theorem idx_some {vs : List Int} {n : Int} {j : Nat} (hj : vs[j]? = some n) (h : ∀ (i : Nat) (x : Int), i < j → vs[i]? = some x → ¬ x = n) : idxW vs n = (j : Nat) := by
  unfold idxW
  have : vs.findIdx? (fun v => v == n) = some j := by
    rw [List.findIdx?_eq_some_iff_getElem]
    have hjl := List.getElem?_eq_some_iff.1 hj
    refine ⟨hjl.1, by rw [hjl.2]; exact beq_self_eq_true n, fun i hi => ?_⟩
    have hil : i < vs.length := Nat.lt_trans hi hjl.1
    have := h i (vs[i]'hil) hi (List.getElem?_eq_getElem hil)
    simpa using this
  rw [this]
set_option maxHeartbeats 2000000 in
theorem windex_at {vs : List Int} {w : World} {v : Value} (hv : Nums w v vs) (n : Int) : Calls Tryz.prog 112 #[v, .int .i64 n] w fun e w' => e = .returned (.int .i64 (idxW vs n)) ∧ w = w' := by
  obtain ⟨ao, cv, rfl, hl1, hl2⟩ := hv.len
  unfold maxLen at hl2
  have HV := Lib.hid hv
  obtain ⟨L, hL⟩ : ∃ L, vs.length = L := ⟨_, rfl⟩
  have HL := Lib.hid hL
  rw [hL] at hl1
  rw [hL]
  obtain ⟨X, hX⟩ : ∃ X, idxW vs n = X := ⟨_, rfl⟩
  rw [hX]
  have HX := Lib.hid hX
  rw [hL] at HV
  clear hv hL hX
  go_enter Tryz.func112, Tryz.ntmps112
  go_wp2_with fail
  go_loop [8] (fun v => ∃ j : Nat, j ≤ L ∧ v = .int .i64 j ∧ Hid (∀ (i : Nat) (x : Int), i < j → vs[i]? = some x → ¬ x = n)) (fun v => L - (intOf v).toNat)
  case atStart => exact ⟨0, Nat.zero_le _, rfl, Lib.hid (fun i x h => by omega)⟩
  case round =>
    obtain ⟨j, hj, rfl, HNO⟩ := hrel
    by_cases hlt : j < L
    · obtain ⟨x, hx⟩ : ∃ x, vs[j]? = some x := ⟨_, List.getElem?_eq_getElem (by rw [HL.out]; exact hlt)⟩
      obtain ⟨b, off, rfl, hbb, d0⟩ := HV.out.get hx
      have HXJ := Lib.hid hx
      clear hx
      have hjj : decide ((j : Int) < (L : Int)) = true := decide_eq_true (by omega)
      by_cases hxn : n = x
      · subst hxn
        have hxe : (n == n) = true := beq_self_eq_true n
        go_wp2
        go_ret
        exact ⟨ret_int ((idx_some HXJ.out HNO.out).symm.trans HX.out), rfl⟩
      · have hxe : (n == x) = false := beq_false_of_ne hxn
        have HNE := Lib.hid (fun e : x = n => hxn e.symm)
        clear hxn
        go_wp2
        go_round
        case rel =>
          refine ⟨j + 1, by omega, by go_num, Lib.hid (fun i y hi hy => ?_)⟩
          by_cases e : i = j
          · rw [e, HXJ.out] at hy
            cases hy
            exact HNE.out
          · exact HNO.out i y (by omega) hy
        case measure => simp [intOf]; omega
    · obtain rfl : L = j := by omega
      have hjj : decide ((L : Int) < (L : Int)) = false := decide_eq_false (by omega)
      have HF := Lib.hid (idx_none (vs := vs) (n := n) (fun i x hi => HNO.out i x (by rw [← HL.out]; exact (List.getElem?_eq_some_iff.1 hi).1) hi))
      go_wp2
      go_ret
      exact ⟨ret_int (HF.out.symm.trans HX.out), rfl⟩
theorem numW_itoa {n : Int} (h : n.natAbs < 10000000000000000000000000) : numW n = Lib.itoa n := by
  unfold numW digW Lib.itoa
  by_cases h0 : n < 0
  · rw [if_pos h0]
    rw [digF_eq 24 n.natAbs (by simpa using h)]
    simp [h0]
  · rw [if_neg h0]
    rw [digF_eq 24 n.toNat (by have : n.toNat = n.natAbs := by omega
                               rw [this]; simpa using h)]
    simp [h0]
theorem itoa_any {n : Int} (h1 : -9223372036854775808 ≤ n) (h2 : n ≤ 9223372036854775807) {w : World} (hc : Con w) : Calls Tryz.prog 137 #[.int .i64 n] w fun e w' => e = .returned (.string ⟨(numW n).toArray⟩) ∧ Below w.heap.size w w' :=
  (Tryz.strconv_Itoa n h1 h2 w hc.pow).mono fun e w' h => ⟨by rw [numW_itoa (by omega)]; exact h.1, by obtain ⟨k, os, rfl⟩ := h.2; exact Lib.below_grow _ _ (Nat.le_refl _) _ _⟩
theorem format_any {n : Int} (h1 : -9223372036854775808 ≤ n) (h2 : n ≤ 9223372036854775807) {w : World} (hc : Con w) : Calls Tryz.prog 138 #[.int .i64 n, .int .i64 10] w fun e w' => e = .returned (.string ⟨(numW n).toArray⟩) ∧ Below w.heap.size w w' :=
  (Tryz.strconv_FormatInt_10 n h1 h2 w hc.pow).mono fun e w' h => ⟨by rw [numW_itoa (by omega)]; exact h.1, by obtain ⟨k, os, rfl⟩ := h.2; exact Lib.below_grow _ _ (Nat.le_refl _) _ _⟩
end Go.Proofs.YtljgkfdnmikpfaaGreatDoor
/- The project's writer: terms with commas between; a term with its name ahead. -/
namespace Go.Proofs.YtljgkfdnmikpfaaGreatDoor
open Go.RowKit
set_option linter.unusedVariables false
set_option maxRecDepth 100000

/-- What a way of writing an Arg does. -/
def ArgC (f : Nat) (W : Tm → List UInt8) (n : Nat) (wb : Nat) (xs : List O) (vs : List Int) : Prop :=
  ∀ (y : Tm), sizeN y < n → goodT y = true → ∀ (M : Nat → Bool) (w : World) (out : List UInt8) (v : Value), Wr M w wb xs vs out → TmV (hide M w) y v → out.length + (W y).length ≤ 1000000000 → Calls Tryz.prog f #[.pointer (some ⟨wb, 0, none⟩), v] w (WPost M w wb xs vs (out ++ W y))
theorem row_take {W : Tm → List UInt8} : ∀ {l : List Tm} {i : Nat} {y : Tm}, l[i]? = some y → rowW W (l.take (i + 1)) = if i = 0 then W y else rowW W (l.take i) ++ 44 :: W y
  | [], i, y, h => by simp at h
  | x :: r, 0, y, h => by
    simp at h
    subst h
    simp [rowW]
  | x :: r, i + 1, y, h => by
    have h' : r[i]? = some y := by simpa using h
    have ih := row_take (W := W) h'
    rw [if_neg (by omega), List.take_succ_cons, List.take_succ_cons]
    obtain ⟨a, t, hat⟩ : ∃ a t, r.take (i + 1) = a :: t := by
      cases r with
      | nil => simp at h'
      | cons a r => exact ⟨a, r.take i, rfl⟩
    have e : rowW W (x :: r.take (i + 1)) = W x ++ 44 :: rowW W (r.take (i + 1)) := by rw [hat]; rfl
    rw [e, ih]
    by_cases h0 : i = 0
    · subst h0
      simp [rowW]
    · rw [if_neg h0]
      obtain ⟨b, u, hbu⟩ : ∃ b u, r.take i = b :: u := by
        cases r with
        | nil => simp at h'
        | cons b r =>
          cases i with
          | zero => exact absurd rfl h0
          | succ i => exact ⟨b, r.take i, rfl⟩
      have e2 : rowW W (x :: r.take i) = W x ++ 44 :: rowW W (r.take i) := by rw [hbu]; rfl
      rw [e2]
      simp
theorem row_len {W : Tm → List UInt8} : ∀ (l : List Tm) (i : Nat), (rowW W (l.take i)).length ≤ (rowW W l).length
  | [], i => by simp [rowW]
  | [x], 0 => by simp [rowW]
  | [x], i + 1 => by simp
  | x :: y :: r, 0 => by simp [rowW]
  | x :: y :: r, 1 => by simp [rowW]
  | x :: y :: r, i + 2 => by
    have := row_len (W := W) (y :: r) (i + 1)
    show (W x ++ 44 :: rowW W (y :: r.take i)).length ≤ (W x ++ 44 :: rowW W (y :: r)).length
    rw [List.length_append, List.length_append, List.length_cons, List.length_cons]
    have e : rowW W ((y :: r).take (i + 1)) = rowW W (y :: r.take i) := rfl
    rw [e] at this
    omega
theorem comma_bl : bl (⟨#[44]⟩ : ByteArray) = [44] := rfl
theorem open_bl1 : bl (⟨#[40]⟩ : ByteArray) = [40] := rfl
theorem shut_bl1 : bl (⟨#[41]⟩ : ByteArray) = [41] := rfl
set_option maxHeartbeats 4000000 in
theorem row_item {W : Tm → List UInt8} {n wb : Nat} {xs : List O} {vs : List Int} (HA : ArgC 136 W n wb xs vs) {l : List Tm} (hl : ∀ x ∈ l, sizeN x < n ∧ goodT x = true) {M : Nat → Bool} {w : World} {out : List UInt8} (h : Wr M w wb xs vs out) {v : Value} (ht : Tms (hide M w) v l) (hz : out.length + (rowW W l).length ≤ 1000000000) :
    Calls Tryz.prog 139 #[.pointer (some ⟨wb, 0, none⟩), v, .func (.func 136) #[.pointer (some ⟨wb, 0, none⟩)] #[]] w (WPost M w wb xs vs (out ++ rowW W l)) := by
  obtain ⟨a, c, rfl, h1, h2, h3⟩ := ht.len
  unfold BIG at h3
  unfold maxLen at h2
  obtain ⟨m, hm⟩ : ∃ m, l.length = m := ⟨_, rfl⟩
  have HT := Lib.hid ht
  have HM := Lib.hid hm
  rw [hm] at h1 h3 HT ⊢
  have HL := Lib.hid hl
  have HZ := Lib.hid hz
  have HAA := Lib.hid HA
  have HW := Lib.hid h
  clear h ht hm hl hz HA
  go_enter Tryz.func139, Tryz.ntmps139
  go_wp2_with fail
  go_loopw [10] (fun v wr => ∃ (i : Nat) (M1 : Nat → Bool), i ≤ m ∧ v = .int .i64 i ∧ Hid (Wr M1 wr wb xs vs (out ++ rowW W (l.take i))) ∧ Hid (Turn M M M1 M1 w wr)) (fun v _ => m - (intOf v).toNat)
  case atStart => exact ⟨0, M, Nat.zero_le _, rfl, Lib.hid (by simpa [rowW] using HW.out), Lib.hid (Turn.refl _ _ _)⟩
  case round =>
    obtain ⟨i, M1, hi, rfl, HR, HTU⟩ := hrel
    by_cases hil : i < m
    · have hdl : decide ((i : Int) < (m : Int)) = true := decide_eq_true (by omega)
      obtain ⟨y, hy⟩ : ∃ y, l[i]? = some y := ⟨_, List.getElem?_eq_getElem (by rw [HM.out]; exact hil)⟩
      have hmem := List.mem_of_getElem? hy
      have htm := HT.out.turn HTU.out
      obtain ⟨b, off, k', n', s', u', rfl, hbb, _, _, _, c0, c1, c2, c3, htu, hty⟩ := htm.get hy
      obtain ⟨au, cu, rfl, _⟩ := htu.len
      have hst := (Stays.unhide M1 wr).2
      have c0 := hst _ _ c0
      have c1 := hst _ _ c1
      have c2 := hst _ _ c2
      have c3 := hst _ _ c3
      obtain ⟨q, hq⟩ : ∃ q, y.args.length = q := ⟨_, rfl⟩
      rw [hq] at c3 hty
      have HTY := Lib.hid hty
      obtain ⟨w1, hw1, hb1, hz1, hx1⟩ := box_new wr #[.int .i64 k', .int .i64 n', .string s', .slice au q cu] 27
      have hrt := row_take (W := W) hy
      have hrl := row_len (W := W) l (i + 1)
      have HS := Lib.hid (HL.out y hmem)
      by_cases h0 : i = 0
      · subst h0
        simp only [Nat.zero_mul, Nat.add_zero] at c0 c1 c2 c3
        rw [if_pos rfl] at hrt
        rw [hrt] at hrl
        have HC := Lib.hid (HAA.out y HS.out.1 HS.out.2 M1 w1 _ _ (HR.out.later hb1) (TmV.later hb1 HTY.out) (by have := HZ.out; rw [show rowW W (l.take 0) = [] from rfl, List.append_nil]; omega))
        have HRT := Lib.hid hrt
        have hd0 : decide ((0 : Int) > 0) = false := by decide
        obtain ⟨b0, b1, b2, b3, bf⟩ := hx1.four
        have HB1 := Lib.hid hb1
        clear hy hmem htm htu hty hst hz1 hx1 hrt hrl hq hb1
        go_wp2_with fail
        (try rw [hw1])
        clear hw1
        go_wp2_with (go_at_call 136; go_fit (HC.out); rintro e w2 ⟨rfl, M2, g1, g2⟩; have G1 := Lib.hid g1; have G2 := Lib.hid (HTU.out.trans ((Turn.below HB1.out).trans g2)); clear g1 g2)
        go_roundw
        case rel => exact ⟨1, M2, by omega, by go_num, Lib.hid (by rw [HRT.out]; simpa [rowW] using G1.out), G2⟩
        case measure => simp [intOf]; omega
      · rw [if_neg h0] at hrt
        rw [hrt, List.length_append, List.length_cons] at hrl
        have HPT := Lib.hid (put_at (HR.out.later hb1) ⟨#[44]⟩ (by have := HZ.out; rw [comma_bl, List.length_append, List.length_singleton]; omega))
        have HRT := Lib.hid hrt
        have hd0 : decide ((i : Int) > 0) = true := decide_eq_true (by omega)
        have HX1 := Lib.hid hx1
        have HB1 := Lib.hid hb1
        have HTY1 := Lib.hid (TmV.later hb1 HTY.out)
        have HMB := Lib.hid (HR.out.new (Nat.le_refl _))
        have HRL := Lib.hid hrl
        clear hy hmem htm htu hty hst hz1 hx1 hrt hrl hq hb1
        go_wp2_with fail
        (try rw [hw1])
        clear hw1
        (go_wp2_with fail; go_fit (HPT.out); rintro e w2 ⟨rfl, M2, g1, g2⟩)
        have HC := Lib.hid (HAA.out y HS.out.1 HS.out.2 M2 w2 _ _ g1 (TmV.turn HTY1.out g2) (by have := HZ.out; have := HRL.out; rw [comma_bl, List.length_append, List.length_append, List.length_singleton]; omega))
        obtain ⟨b0, b1, b2, b3, bf⟩ := (HX1.out.turn g2 HMB.out).four
        have G2 := Lib.hid (HTU.out.trans ((Turn.below HB1.out).trans g2))
        clear g1 g2
        go_wp2_with (go_at_call 136; go_fit (HC.out); rintro e w3 ⟨rfl, M3, g3, g4⟩; have G3 := Lib.hid g3; have G4 := Lib.hid (G2.out.trans g4); clear g3 g4)
        go_roundw
        case rel => exact ⟨i + 1, M3, by omega, by go_num, Lib.hid (by rw [HRT.out]; have := G3.out; rw [comma_bl] at this; simpa using this), G4⟩
        case measure => simp [intOf]; omega
    · obtain rfl : m = i := by omega
      have hdl : decide ((m : Int) < (m : Int)) = false := decide_eq_false (by omega)
      have HE := Lib.hid (show l.take m = l from List.take_of_length_le (by rw [HM.out]; omega))
      go_wp2
      go_end0
      exact ⟨rfl, M1, by rw [← HE.out]; exact HR.out, HTU.out⟩
set_option maxHeartbeats 4000000 in
theorem row_plain {W : Tm → List UInt8} {n wb : Nat} {xs : List O} {vs : List Int} (HA : ArgC 57 W n wb xs vs) {l : List Tm} (hl : ∀ x ∈ l, sizeN x < n ∧ goodT x = true) {M : Nat → Bool} {w : World} {out : List UInt8} (h : Wr M w wb xs vs out) {v : Value} (ht : Tms (hide M w) v l) (hz : out.length + (rowW W l).length ≤ 1000000000) :
    Calls Tryz.prog 139 #[.pointer (some ⟨wb, 0, none⟩), v, .func (.func 57) #[.pointer (some ⟨wb, 0, none⟩)] #[]] w (WPost M w wb xs vs (out ++ rowW W l)) := by
  obtain ⟨a, c, rfl, h1, h2, h3⟩ := ht.len
  unfold BIG at h3
  unfold maxLen at h2
  obtain ⟨m, hm⟩ : ∃ m, l.length = m := ⟨_, rfl⟩
  have HT := Lib.hid ht
  have HM := Lib.hid hm
  rw [hm] at h1 h3 HT ⊢
  have HL := Lib.hid hl
  have HZ := Lib.hid hz
  have HAA := Lib.hid HA
  have HW := Lib.hid h
  clear h ht hm hl hz HA
  go_enter Tryz.func139, Tryz.ntmps139
  go_wp2_with fail
  go_loopw [10] (fun v wr => ∃ (i : Nat) (M1 : Nat → Bool), i ≤ m ∧ v = .int .i64 i ∧ Hid (Wr M1 wr wb xs vs (out ++ rowW W (l.take i))) ∧ Hid (Turn M M M1 M1 w wr)) (fun v _ => m - (intOf v).toNat)
  case atStart => exact ⟨0, M, Nat.zero_le _, rfl, Lib.hid (by simpa [rowW] using HW.out), Lib.hid (Turn.refl _ _ _)⟩
  case round =>
    obtain ⟨i, M1, hi, rfl, HR, HTU⟩ := hrel
    by_cases hil : i < m
    · have hdl : decide ((i : Int) < (m : Int)) = true := decide_eq_true (by omega)
      obtain ⟨y, hy⟩ : ∃ y, l[i]? = some y := ⟨_, List.getElem?_eq_getElem (by rw [HM.out]; exact hil)⟩
      have hmem := List.mem_of_getElem? hy
      have htm := HT.out.turn HTU.out
      obtain ⟨b, off, k', n', s', u', rfl, hbb, _, _, _, c0, c1, c2, c3, htu, hty⟩ := htm.get hy
      obtain ⟨au, cu, rfl, _⟩ := htu.len
      have hst := (Stays.unhide M1 wr).2
      have c0 := hst _ _ c0
      have c1 := hst _ _ c1
      have c2 := hst _ _ c2
      have c3 := hst _ _ c3
      obtain ⟨q, hq⟩ : ∃ q, y.args.length = q := ⟨_, rfl⟩
      rw [hq] at c3 hty
      have HTY := Lib.hid hty
      obtain ⟨w1, hw1, hb1, hz1, hx1⟩ := box_new wr #[.int .i64 k', .int .i64 n', .string s', .slice au q cu] 27
      have hrt := row_take (W := W) hy
      have hrl := row_len (W := W) l (i + 1)
      have HS := Lib.hid (HL.out y hmem)
      by_cases h0 : i = 0
      · subst h0
        simp only [Nat.zero_mul, Nat.add_zero] at c0 c1 c2 c3
        rw [if_pos rfl] at hrt
        rw [hrt] at hrl
        have HC := Lib.hid (HAA.out y HS.out.1 HS.out.2 M1 w1 _ _ (HR.out.later hb1) (TmV.later hb1 HTY.out) (by have := HZ.out; rw [show rowW W (l.take 0) = [] from rfl, List.append_nil]; omega))
        have HRT := Lib.hid hrt
        have hd0 : decide ((0 : Int) > 0) = false := by decide
        obtain ⟨b0, b1, b2, b3, bf⟩ := hx1.four
        have HB1 := Lib.hid hb1
        clear hy hmem htm htu hty hst hz1 hx1 hrt hrl hq hb1
        go_wp2_with fail
        (try rw [hw1])
        clear hw1
        go_wp2_with (go_at_call 57; go_fit (HC.out); rintro e w2 ⟨rfl, M2, g1, g2⟩; have G1 := Lib.hid g1; have G2 := Lib.hid (HTU.out.trans ((Turn.below HB1.out).trans g2)); clear g1 g2)
        go_roundw
        case rel => exact ⟨1, M2, by omega, by go_num, Lib.hid (by rw [HRT.out]; simpa [rowW] using G1.out), G2⟩
        case measure => simp [intOf]; omega
      · rw [if_neg h0] at hrt
        rw [hrt, List.length_append, List.length_cons] at hrl
        have HPT := Lib.hid (put_at (HR.out.later hb1) ⟨#[44]⟩ (by have := HZ.out; rw [comma_bl, List.length_append, List.length_singleton]; omega))
        have HRT := Lib.hid hrt
        have hd0 : decide ((i : Int) > 0) = true := decide_eq_true (by omega)
        have HX1 := Lib.hid hx1
        have HB1 := Lib.hid hb1
        have HTY1 := Lib.hid (TmV.later hb1 HTY.out)
        have HMB := Lib.hid (HR.out.new (Nat.le_refl _))
        have HRL := Lib.hid hrl
        clear hy hmem htm htu hty hst hz1 hx1 hrt hrl hq hb1
        go_wp2_with fail
        (try rw [hw1])
        clear hw1
        (go_wp2_with fail; go_fit (HPT.out); rintro e w2 ⟨rfl, M2, g1, g2⟩)
        have HC := Lib.hid (HAA.out y HS.out.1 HS.out.2 M2 w2 _ _ g1 (TmV.turn HTY1.out g2) (by have := HZ.out; have := HRL.out; rw [comma_bl, List.length_append, List.length_append, List.length_singleton]; omega))
        obtain ⟨b0, b1, b2, b3, bf⟩ := (HX1.out.turn g2 HMB.out).four
        have G2 := Lib.hid (HTU.out.trans ((Turn.below HB1.out).trans g2))
        clear g1 g2
        go_wp2_with (go_at_call 57; go_fit (HC.out); rintro e w3 ⟨rfl, M3, g3, g4⟩; have G3 := Lib.hid g3; have G4 := Lib.hid (G2.out.trans g4); clear g3 g4)
        go_roundw
        case rel => exact ⟨i + 1, M3, by omega, by go_num, Lib.hid (by rw [HRT.out]; have := G3.out; rw [comma_bl] at this; simpa using this), G4⟩
        case measure => simp [intOf]; omega
    · obtain rfl : m = i := by omega
      have hdl : decide ((m : Int) < (m : Int)) = false := decide_eq_false (by omega)
      have HE := Lib.hid (show l.take m = l from List.take_of_length_le (by rw [HM.out]; omega))
      go_wp2
      go_end0
      exact ⟨rfl, M1, by rw [← HE.out]; exact HR.out, HTU.out⟩
end Go.Proofs.YtljgkfdnmikpfaaGreatDoor
