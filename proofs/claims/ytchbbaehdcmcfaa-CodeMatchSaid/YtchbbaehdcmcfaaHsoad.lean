import Derived.Test.YtchbbaehdcmcfaaHsoac
import Derived.Laws.ResultCell
import Derived.Lib.Strings
set_option linter.unusedVariables false
set_option linter.unusedSimpArgs false
/- Package term: the makers, Comp, Size. -/
namespace Go.Proofs.Ytchbbaehdcmcfaa
open Go.RowKit
set_option linter.unusedVariables false
theorem results_cell1 {fn : Func} {p : Tmp} {ty : TypeId} (h : fn.results = #[.cell p ty]) (tmps : Array Value) (P : Program) (w : World) :
  (results fn tmps).run P w = ((asAddr (tmps.getD p undef)).run P w).andThen fun a w₁ => (loadVar ty a).run P w₁ := by
 simp only [results, h]
 simp [Sem.run_bind, Result.andThen]
theorem TmRow.pairs {w : World} : ∀ {l : List Tm} {b off : Nat}, TmRow w l b off → ∃ ps : List TmP, ps.map (·.1) = l ∧ (∀ p ∈ ps, TmV w p.1 (pVal p)) ∧ ∀ j u, (ps.flatMap pCells)[j]? = some u → w.cell? ⟨b, off + j, none⟩ = some u
 | [], b, off, _ => ⟨[], rfl, fun p h => by simp at h, fun j u h => by simp at h⟩
 | x :: r, b, off, h => by
  rw [TmRow] at h
  obtain ⟨⟨c0, c1, c2, c3, h0, h1, h2, h3, h4⟩, h5⟩ := h
  obtain ⟨ps, e1, e2, e3⟩ := TmRow.pairs h5
  obtain ⟨u, hu⟩ := h4.pair
  rw [hu] at h4
  simp only [pVal, Value.agg.injEq] at hu
  have h2' := congrArg Array.toList hu
  simp only [List.cons.injEq, and_true] at h2'
  obtain ⟨rfl, rfl, rfl, rfl⟩ := h2'
  refine ⟨(x, c3) :: ps, by simp [e1], fun p hp => ?_, fun j u hj => ?_⟩
  ·rcases List.mem_cons.1 hp with rfl | hp
   ·exact h4
   ·exact e2 p hp
  ·rw [List.flatMap_cons] at hj
   by_cases hlt : j < 4
   ·rw [List.getElem?_append_left (by rw [pCells_len]; exact hlt)] at hj
    match j, hlt with
    | 0, _ => cases hj; exact h0
    | 1, _ => cases hj; exact h1
    | 2, _ => cases hj; exact h2
    | 3, _ => cases hj; exact h3
   ·rw [List.getElem?_append_right (by rw [pCells_len]; omega), pCells_len] at hj
    have := e3 _ _ hj
    rw [show off + 4 + (j - 4) = off + j by omega] at this
    exact this
theorem Tms.pairs {w : World} {v : Value} {l : List Tm} (h : Tms w v l) : ∃ (ps : List TmP) (a : Option Addr) (c : Nat), v = .slice a l.length c ∧ ps.length = l.length ∧ ps.map (·.1) = l ∧ (∀ p ∈ ps, TmV w p.1 (pVal p)) ∧ l.length * 56 ≤ BIG ∧ (l.length = 0 ∨ ∃ ad, a = some ad ∧ ∀ j u, (ps.flatMap pCells)[j]? = some u → w.cell? (ad.add j) = some u) := by
 obtain ⟨a, c, h1, h2, h3, h4, h5⟩ := h
 rcases h5 with rfl | ⟨b, off, rfl, hb, hr⟩
 ·exact ⟨[], a, c, h1, rfl, rfl, fun p h => by simp at h, h4, Or.inl rfl⟩
 ·obtain ⟨ps, e1, e2, e3⟩ := hr.pairs
  exact ⟨ps, _, c, h1, by rw [← e1, List.length_map], e1, e2, h4, Or.inr ⟨_, rfl, fun j u hj => by rw [add_plain]; exact e3 j u hj⟩⟩
theorem infoTerm : (Try.prog.info? 31).map (fun i => (i.zero, i.size, i.bytes)) = some (some (.agg #[.int .i64 0, .int .i64 0, .string ⟨#[]⟩, .slice none 0 0]), 4, 56) := by kernel_rfl
theorem leaf_tm (w : World) {k n : Int} {s : ByteArray} (hk : I64 k) (hn : I64 n) (hs : s.size ≤ BIG) : TmV w (.mk k n s []) (.agg #[.int .i64 k, .int .i64 n, .string s, .slice none 0 0]) :=
 tmV_iff.2 ⟨_, rfl, hs, hk, hn, Tms.nil w⟩
def intT (n : Int) : Tm := .mk 1 n ⟨#[]⟩ []
def atomT (s : ByteArray) : Tm := .mk 2 0 s []
theorem i64_0 : I64 0 := by unfold I64; omega
theorem i64_1 : I64 1 := by unfold I64; omega
theorem i64_2 : I64 2 := by unfold I64; omega
theorem var_at (w : World) (n : Int) : Calls Try.prog 14 #[.int .i64 n] w fun e w' => e = .returned (.agg #[.int .i64 0, .int .i64 n, .string ⟨#[]⟩, .slice none 0 0]) ∧ Below w.heap.size w w' := by
 go_enter Try.func14, Try.ntmps14
 go_wp2
 refine bodyPost_ret (v := .agg #[.int .i64 0, .int .i64 n, .string ⟨#[]⟩, .slice none 0 0]) (by rw [results_cell1 rfl]; go_simp) rfl ⟨rfl, ?_⟩
 exact bel1' _ _
theorem int_at (w : World) (n : Int) : Calls Try.prog 15 #[.int .i64 n] w fun e w' => e = .returned (.agg #[.int .i64 1, .int .i64 n, .string ⟨#[]⟩, .slice none 0 0]) ∧ Below w.heap.size w w' := by
 go_enter Try.func15, Try.ntmps15
 go_wp2
 refine bodyPost_ret (v := .agg #[.int .i64 1, .int .i64 n, .string ⟨#[]⟩, .slice none 0 0]) (by rw [results_cell1 rfl]; go_simp) rfl ⟨rfl, ?_⟩
 exact bel1' _ _
theorem atom_at (w : World) (s : ByteArray) : Calls Try.prog 16 #[.string s] w fun e w' => e = .returned (.agg #[.int .i64 2, .int .i64 0, .string s, .slice none 0 0]) ∧ Below w.heap.size w w' := by
 go_enter Try.func16, Try.ntmps16
 go_wp2
 refine bodyPost_ret (v := .agg #[.int .i64 2, .int .i64 0, .string s, .slice none 0 0]) (by rw [results_cell1 rfl]; go_simp) rfl ⟨rfl, ?_⟩
 exact bel1' _ _
theorem css {w : World} {a : Addr} {u v : Value} (h : w.cell? a = some u) : (w.setCell a v).cell? a = some v := by apply World.cell?_setCell_same; exact h
def setFour (w : World) (B : Nat) (v0 v1 v2 v3 : Value) : World := (((w.setCell ⟨B, 0, none⟩ v0).setCell ⟨B, 1, none⟩ v1).setCell ⟨B, 2, none⟩ v2).setCell ⟨B, 3, none⟩ v3
theorem four_below {w0 w : World} {D B : Nat} (v0 v1 v2 v3 : Value) (h : Below D w0 w) (hB : D ≤ B) : Below D w0 (setFour w B v0 v1 v2 v3) :=
 (((h.setCell (p := ⟨B, 0, none⟩) hB v0).setCell (p := ⟨B, 1, none⟩) hB v1).setCell (p := ⟨B, 2, none⟩) hB v2).setCell (p := ⟨B, 3, none⟩) hB v3
theorem four_row {w : World} {base B n k : Nat} {e : TypeId} {v : Value} {xs : List Value} (v0 v1 v2 v3 : Value) (h : w.ownsRow base e k v n xs) (hB : B < base) : (setFour w B v0 v1 v2 v3).ownsRow base e k v n xs :=
 ownsRow_setCell_below (ownsRow_setCell_below (ownsRow_setCell_below (ownsRow_setCell_below h (a := ⟨B, 0, none⟩) hB v0) (a := ⟨B, 1, none⟩) hB v1) (a := ⟨B, 2, none⟩) hB v2) (a := ⟨B, 3, none⟩) hB v3
theorem four_kept {w w4 : World} {c0 c1 c2 c3 : Value} {ty : TypeId} (h : w4.heap[w.heap.size]? = (w.alloc (.cells #[c0, c1, c2, c3] ty)).heap[w.heap.size]?) :
  w4.cell? ⟨w.heap.size, 0, none⟩ = some c0 ∧ w4.cell? ⟨w.heap.size, 1, none⟩ = some c1 ∧ w4.cell? ⟨w.heap.size, 2, none⟩ = some c2 ∧ w4.cell? ⟨w.heap.size, 3, none⟩ = some c3 ∧ ∀ j, w4.frozen? ⟨w.heap.size, j, none⟩ = false := by
 refine ⟨?_, ?_, ?_, ?_, fun j => ?_⟩
 ·rw [World.cell?_of_block (w := w.alloc (.cells #[c0, c1, c2, c3] ty)) h]; simp
 ·rw [World.cell?_of_block (w := w.alloc (.cells #[c0, c1, c2, c3] ty)) h]; simp
 ·rw [World.cell?_of_block (w := w.alloc (.cells #[c0, c1, c2, c3] ty)) h]; simp
 ·rw [World.cell?_of_block (w := w.alloc (.cells #[c0, c1, c2, c3] ty)) h]; simp
 ·rw [World.frozen?_of_block (w := w.alloc (.cells #[c0, c1, c2, c3] ty)) h]; simp
set_option maxHeartbeats 2000000 in
theorem comp_ps {w : World} {ao : Option Addr} {m c : Nat} (ps : List TmP) (s : ByteArray) (hpl : ps.length = m) (hbig : m * 56 ≤ BIG) (hone : ∀ u ∈ ps.flatMap pCells, u.oneCell' = true)
  (hsrc : m = 0 ∨ ∃ ad, ao = some ad ∧ ∀ j u, (ps.flatMap pCells)[j]? = some u → w.cell? (ad.add j) = some u) :
  Calls Try.prog 17 #[.string s, .slice ao m c] w fun e w' => ∃ a c', e = .returned (.agg #[.int .i64 2, .int .i64 0, .string s, .slice a m c']) ∧ RowP w' (w.heap.size + 1) 31 (.slice a m c') ps ∧ Below w.heap.size w w' := by
 obtain ⟨i0, hi0, hz0, hs0, hb0⟩ := info_parts infoTerm
 have hfl : (ps.flatMap pCells).length = m * 4 := by rw [flat_len pCells_len, hpl]
 have HPL := Lib.hid hpl
 unfold BIG at hbig
 obtain ⟨news, hnews⟩ : ∃ news, ps.flatMap pCells = news := ⟨_, rfl⟩
 rw [hnews] at hfl hone hsrc
 have HN := Lib.hid hnews
 have hsrc' : m = 0 ∨ ∃ ad, ao = some ad ∧ ∀ j u, news[j]? = some u → (w.alloc (.cells #[.int .i64 0, .int .i64 0, .string ⟨#[]⟩, .slice none 0 0] 31)).cell? (ad.add j) = some u := by
  rcases hsrc with h | ⟨ad, e, h⟩
  ·exact Or.inl h
  ·exact Or.inr ⟨ad, e, fun j u hj => Lib.cell?_alloc_some _ (h j u hj)⟩
 clear hpl hnews hsrc
 go_enter Try.func17, Try.ntmps17
 go_wp2_with (at_builtin; refine wpList_append_k rfl _ _ 29 rfl (w.heap.size + 1) 31 i0 (.agg #[.int .i64 0, .int .i64 0, .string ⟨#[]⟩, .slice none 0 0]) 4 56 Try.underlying29 hi0 hz0 hs0 (by decide) hb0 rfl (.slice none 0 0) 0 [] rfl (World.ownsRow_nil _ _ _ _) ao m c news rfl hfl hsrc' hone (by unfold maxLen; omega) (by omega) (by simp) m news (by omega) rfl ?_; intro a4 c4 w4 hown4 hgrow4 hat4; obtain ⟨e0, e1, e2, e3, g0⟩ := four_kept (hgrow4.block w.heap.size (by simp) (by simp [Value.ownBlock])))
 have hB : Below w.heap.size w w4 := (bel1' w _).grown hgrow4 (by simp) (fun q hq => by simp [Value.ownBlock] at hq)
 refine bodyPost_ret (v := .agg #[.int .i64 2, .int .i64 0, .string s, .slice a4 m c4]) (by rw [results_cell1 rfl]; go_simp) rfl ⟨a4, c4, rfl, ?_⟩
 have hF : Below w.heap.size w (setFour w4 w.heap.size (.int .i64 2) (.int .i64 0) (.string s) (.slice a4 m c4)) := four_below _ _ _ _ hB (Nat.le_refl _)
 refine ⟨?_, hF⟩
 unfold RowP
 rw [HPL.out, HN.out]
 exact four_row _ _ _ _ hown4 (by omega)
theorem comp_at {w : World} {v : Value} {l : List Tm} (s : ByteArray) (hs : s.size ≤ BIG) (h : Tms w v l) :
  Calls Try.prog 17 #[.string s, v] w fun e w' => ∃ a c, e = .returned (.agg #[.int .i64 2, .int .i64 0, .string s, .slice a l.length c]) ∧ TmV w' (.mk 2 0 s l) (.agg #[.int .i64 2, .int .i64 0, .string s, .slice a l.length c]) ∧ Below w.heap.size w w' := by
 obtain ⟨ps, ao, c, rfl, hpl, hpm, hpa, hbig, hsrc⟩ := h.pairs
 refine (comp_ps (c := c) ps s hpl hbig (pCells_one ps hpa) hsrc).mono ?_
 rintro e w' ⟨a, c', rfl, hR, hB⟩
 refine ⟨a, c', rfl, ?_, hB⟩
 have hT := hR.terms (fun p hp => TmV.ext hB _ _ (hpa p hp)) (by rw [hpl]; exact hbig)
 rw [hpm] at hT
 exact tmV_iff.2 ⟨_, rfl, hs, i64_2, i64_0, hT⟩
end Go.Proofs.Ytchbbaehdcmcfaa
/- Chapter 15, the document's own example: pure. Nothing here is walked. -/
namespace Go.Proofs.Ytchbbaehdcmcfaa
set_option linter.unusedVariables false
def p15S : ByteArray := ⟨#[112]⟩
def f15S : ByteArray := ⟨#[102]⟩
def k15T : Tm := nameT p15S [varV 9, nameT f15S [varV 9]]
def k15C : CodeM := ⟨2, 1, 3, [⟨opVar, 0, 0, 0, 0, ⟨#[]⟩⟩, ⟨opComp, 1, 1, 2, 0, f15S⟩, ⟨opVal, 2, 0, 0, 0, ⟨#[]⟩⟩]⟩
theorem k15C_t : goodT k15T = true := by decide +kernel
theorem k15C_head : headCE k15T = (k15C, 0) := by
 unfold headCE
 rw [if_pos ⟨k15C_t, rfl⟩]
 rfl
end Go.Proofs.Ytchbbaehdcmcfaa
/- Chapter 15, Match over a head's steps: what each step asks, and that it is enough. Nothing here is walked. -/
namespace Go.Proofs.Ytchbbaehdcmcfaa
set_option linter.unusedVariables false
theorem pos_get8 {l : List Int} (hn : l.Nodup) {j : Nat} (hj : j < l.length) : posI l l[j] = j := by
 have e := congrArg (fun r : List Int => r[j]?) (pos_row hn 0)
 simp [hj] at e
 omega
def hArgs (t : Tm) : List Tm := subL (renV (varsT t []) 0) t.args
structure MQ (t : Tm) (i nx K : Nat) (q : List Tm) (seen : List Int) (sl : Int → Option Tm) : Prop where
 flat : (headC t).l.drop i = flatI (varsT t []) K q i nx seen
 size : sizesN q ≤ K
 len : nx = i + q.length
 formed : formedL q = true
 inv : ∀ n ∈ occL q, n ∈ varsT t []
 sv : ∀ n ∈ seen, n ∈ varsT t []
 slo : ∀ n ∈ varsT t [], ((sl (slotI (varsT t []) n)).isSome = true ↔ n ∈ seen)
 dom : ∀ v x, sl v = some x → ∃ n ∈ varsT t [], v = slotI (varsT t []) n
 cover : ∀ n ∈ varsT t [], n ∈ seen ∨ n ∈ occL q
def MAt (S0 : List (Int × Tm)) (N0 : Nat) (args : List Tm) (t : Tm) (i : Nat) (regs : List Tm) (sl : Int → Option Tm) (N : Nat) (S : List (Int × Tm)) : Prop :=
 ∃ K q seen, MQ t i regs.length K q seen sl ∧ MInv S0 N0 args (hArgs t) (subL (renV (varsT t []) 0) q) (regs.drop i) sl N S
section
variable {S0 : List (Int × Tm)} {N0 : Nat} {args regs : List Tm} {sl : Int → Option Tm} {N : Nat} {S : List (Int × Tm)} {t : Tm} {i : Nat}
theorem MAt.start (hf : formedT t = true) (hk : t.k = 2) (hl : args.length = t.args.length) (h : OkS N0 S0) (ht : ∀ m : Int, (N0 : Int) ≤ m → fullB S0 m = varV m) (ha : InNs N0 args) : MAt S0 N0 args t 0 args (fun _ => none) N0 S0 := by
 have hv : ∀ n, n ∈ varsT t [] ↔ n ∈ occL t.args := fun n => by
  rw [mem_vars2, occ_kids hf]
  simp [hk]
 refine ⟨sizesN t.args, t.args, [], ⟨?_, Nat.le_refl _, by omega, formed_argsL hf, fun n hn => (hv n).2 hn, fun n hn => (by cases hn), fun n _ => (by simp), fun v x e => (by cases e), fun n hn => Or.inr ((hv n).1 hn)⟩, ?_⟩
 ·rw [List.drop_zero, hl]; rfl
 ·rw [List.drop_zero]; exact MInv.start h ht ha
theorem MAt.step (h : MAt S0 N0 args t i regs sl N S) (hi : i < (headC t).l.length) : ∃ (r t' : Tm) (q : List Tm) (seen : List Int), regs[i]? = some r ∧ InN N r ∧ (headC t).l[i]? = some (stepI (varsT t []) seen i regs.length t') ∧ formedT t' = true ∧ (∀ n ∈ occT t', n ∈ varsT t []) ∧ (∀ n ∈ varsT t [], ((sl (slotI (varsT t []) n)).isSome = true ↔ n ∈ seen)) ∧ (∀ v x, sl v = some x → ∃ n ∈ varsT t [], v = slotI (varsT t []) n) ∧
  MInv S0 N0 args (hArgs t) (subT (renV (varsT t []) 0) t' :: q) (r :: regs.drop (i + 1)) sl N S ∧
  ∀ (us : List Tm) (sl' : Int → Option Tm) (N' : Nat) (S' : List (Int × Tm)), us.length = t'.args.length → (∀ n ∈ varsT t [], ((sl' (slotI (varsT t []) n)).isSome = true ↔ n ∈ seenI seen t')) → (∀ v x, sl' v = some x → ∃ n ∈ varsT t [], v = slotI (varsT t []) n) →
   MInv S0 N0 args (hArgs t) (q ++ subL (renV (varsT t []) 0) t'.args) (regs.drop (i + 1) ++ us) sl' N' S' → MAt S0 N0 args t (i + 1) (regs ++ us) sl' N' S' := by
 obtain ⟨K, q0, seen, hq, hm⟩ := h
 have hpos : 0 < ((headC t).l.drop i).length := by rw [List.length_drop]; omega
 cases q0 with
 | nil =>
  rw [hq.flat, cflat_size _ _ _ _ _ _ hq.size, sizesN] at hpos
  omega
 | cons t' q =>
  have hs := hq.size
  have hp := size_pos t'
  rw [sizesN] at hs
  cases K with
  | zero => omega
  | succ K =>
   have hfl := hq.flat
   rw [flatI] at hfl
   have hlen := hq.len
   rw [List.length_cons] at hlen
   have hir : i < regs.length := by omega
   have hkid := size_kids t'
   have hfm := hq.formed
   rw [formedL, Bool.and_eq_true] at hfm
   rw [List.drop_eq_getElem_cons hir, subL] at hm
   have hocc : ∀ n, n ∈ occL (t' :: q) ↔ n ∈ occT t' ∨ n ∈ occL q := fun n => by rw [occL, List.mem_append]
   refine ⟨regs[i], t', subL (renV (varsT t []) 0) q, seen, List.getElem?_eq_getElem hir, hm.reg _ List.mem_cons_self, ?_, hfm.1, fun n hn => hq.inv n ((hocc n).2 (Or.inl hn)), hq.slo, hq.dom, hm, fun us sl' N' S' hu h1 h2 h3 => ?_⟩
   ·have e := congrArg (fun l => l[0]?) hfl
    simpa [List.getElem?_drop] using e
   ·refine ⟨K, q ++ t'.args, seenI seen t', ⟨?_, ?_, ?_, ?_, fun n hn => ?_, fun n hn => ?_, h1, h2, fun n hn => ?_⟩, ?_⟩
    ·have e := congrArg (fun l => l.drop 1) hfl
     simp only [List.drop_drop, List.drop_succ_cons, List.drop_zero] at e
     rw [e, List.length_append, hu]
    ·rw [sizes_app]; omega
    ·rw [List.length_append, List.length_append, hu]; omega
    ·rw [formedL_app, hfm.2, formed_argsL hfm.1]; rfl
    ·rw [occL_app, List.mem_append] at hn
     exact hq.inv n ((hocc n).2 (hn.elim Or.inr fun hn => Or.inl ((occ_kids hfm.1).2 (Or.inr hn))))
    ·rcases mem_seenI.1 hn with hn | ⟨hk, rfl⟩
     ·exact hq.sv n hn
     ·exact hq.inv _ ((hocc _).2 (Or.inl ((occ_kids hfm.1).2 (Or.inl ⟨hk, rfl⟩))))
    ·rcases hq.cover n hn with hc | hc
     ·exact Or.inl (mem_seenI.2 (Or.inl hc))
     ·rcases (hocc n).1 hc with hc | hc
      ·rcases (occ_kids hfm.1).1 hc with hc | hc
       ·exact Or.inl (mem_seenI.2 (Or.inr hc))
       ·exact Or.inr (by rw [occL_app, List.mem_append]; exact Or.inr hc)
      ·exact Or.inr (by rw [occL_app, List.mem_append]; exact Or.inl hc)
    ·have e1 : subL (renV (varsT t []) 0) (q ++ t'.args) = subL (renV (varsT t []) 0) q ++ subL (renV (varsT t []) 0) t'.args := by rw [subL_map, subL_map, subL_map, List.map_append]
     rw [e1, List.drop_append_of_le_length (by omega)]
     exact h3
theorem MAt.done {L : List Tm} (h : MAt S0 N0 args t i regs sl N S) (hi : (headC t).l.length ≤ i) (hL : L.length = (varsT t []).length) (hsl : ∀ v x, sl v = some x → L[v.toNat]? = some x) : MYes S0 N0 args (hArgs t) (varsT t []).length N S L := by
 obtain ⟨K, q, seen, hq, hm⟩ := h
 have h0 : ((headC t).l.drop i).length = 0 := by rw [List.length_drop]; omega
 rw [hq.flat, cflat_size _ _ _ _ _ _ hq.size] at h0
 cases q with
 | cons x r => rw [sizesN] at h0; have := size_pos x; omega
 | nil =>
  have hlen := hq.len
  rw [subL, List.drop_eq_nil_of_le (by simp at hlen; omega)] at hm
  refine hm.done hL fun v x => ⟨fun e => ?_, fun ⟨h1, h2⟩ => ?_⟩
  ·obtain ⟨n, _, rfl⟩ := hq.dom v x e
   exact ⟨by unfold slotI; omega, hsl _ x e⟩
  ·have hv : v.toNat < (varsT t []).length := by rw [← hL]; exact (List.getElem?_eq_some_iff.1 h2).1
   have hmem : (varsT t [])[v.toNat] ∈ varsT t [] := List.getElem_mem hv
   have hslot : slotI (varsT t []) (varsT t [])[v.toNat] = v := by
    unfold slotI
    rw [pos_get8 (vars_nodup t [] List.nodup_nil) hv]
    omega
   have hs := (hq.slo _ hmem).2 ((hq.cover _ hmem).elim id fun hc => by rw [occL] at hc; cases hc)
   rw [hslot] at hs
   obtain ⟨y, hy⟩ := Option.isSome_iff_exists.1 hs
   have := hsl v y hy
   rw [h2] at this
   cases this
   exact hy
end
end Go.Proofs.Ytchbbaehdcmcfaa
/- Chapter 15, Match over a head's steps: each step by what it says. Nothing here is walked. -/
namespace Go.Proofs.Ytchbbaehdcmcfaa
set_option linter.unusedVariables false
section
variable (S0 : List (Int × Tm)) (N0 : Nat) (args regs : List Tm) (sl : Int → Option Tm) (N : Nat) (S : List (Int × Tm)) (t : Tm) (i : Nat) (r : Tm) (x : InsM)
def StVar : Prop := x.op = opVar ∧ sl x.b = none ∧ 0 ≤ x.b ∧ x.b < (varsT t []).length ∧ MAt S0 N0 args t (i + 1) regs (setO sl x.b r) N S
def StVal : Prop := x.op = opVal ∧ 0 ≤ x.b ∧ x.b < (varsT t []).length ∧ ∃ y, sl x.b = some y ∧ InN N y ∧ ∀ res, uniT 2000 S r y 0 = res ∨ uniT 2000 S y r 0 = res → res.cost ≤ 2000 →
 (res.ok = true → ∀ S', fullB S' = fullB res.set → OkS N S' → (∀ m : Int, (N : Int) ≤ m → fullB S' m = varV m) → MAt S0 N0 args t (i + 1) regs sl N S') ∧ (res.ok = false → MNo S0 N0 args (hArgs t))
def StCon : Prop := ∃ T, conT T ∧ ((x.op = opInt ∧ T = intT x.n) ∨ (x.op = opAtom ∧ T = atomT x.s)) ∧
 (subT (fullB S) T = subT (fullB S) r → MAt S0 N0 args t (i + 1) regs sl N S) ∧
 (∀ y, InN N y → subT (fullB S) y = subT (fullB S) r → ¬ y.k = 0 → ¬ y = T → MNo S0 N0 args (hArgs t)) ∧
 (∀ n y, 0 ≤ n → n < (N : Int) → fullB S n = varV n → subT (fullB S) (varV n) = subT (fullB S) r → (subT (fullB S) y = subT (fullB S) T → MAt S0 N0 args t (i + 1) regs sl N ((n, y) :: S))) ∧
 ∀ res, uniT 2000 S r T 0 = res → res.cost ≤ 2000 → (res.ok = true → ∀ S', fullB S' = fullB res.set → OkS N S' → (∀ m : Int, (N : Int) ≤ m → fullB S' m = varV m) → MAt S0 N0 args t (i + 1) regs sl N S') ∧ (res.ok = false → MNo S0 N0 args (hArgs t))
def StComp : Prop := x.op = opComp ∧ ∃ k : Nat, x.b = (k : Int) ∧ 1 ≤ k ∧ k ≤ 8 ∧ x.c = (regs.length : Int) ∧ (∀ us : List Tm, us.length = k → formedL us = true → formedT (nameT x.s us) = true) ∧
 (∀ us, InN N (nameT x.s us) → subT (fullB S) (nameT x.s us) = subT (fullB S) r → us.length = k → MAt S0 N0 args t (i + 1) (regs ++ us) sl N S) ∧
 (∀ y, InN N y → subT (fullB S) y = subT (fullB S) r → ¬ y.k = 0 → ¬ (y.k = 2 ∧ y.s = x.s ∧ y.args.length = k) → MNo S0 N0 args (hArgs t)) ∧
 ∀ n y, N + k ≤ 65536 → 0 ≤ n → n < (N : Int) → fullB S n = varV n → subT (fullB S) (varV n) = subT (fullB S) r → subT (fullB S) y = subT (fullB S) (nameT x.s (freshL N k)) → OkS (N + k) ((n, y) :: S) → MAt S0 N0 args t (i + 1) (regs ++ freshL N k) sl (N + k) ((n, y) :: S)
end
section
variable {S0 : List (Int × Tm)} {N0 : Nat} {args regs : List Tm} {sl : Int → Option Tm} {N : Nat} {S : List (Int × Tm)} {t : Tm} {i : Nat}
theorem pos_lt8 : ∀ {l : List Int} {m : Int}, m ∈ l → posI l m < l.length
 | [], m, h => by cases h
 | x :: r, m, h => by
  rw [posI, List.length_cons]
  by_cases hx : x = m
  ·rw [if_pos hx]; omega
  ·rw [if_neg hx]
   rcases List.mem_cons.1 h with h | h
   ·exact absurd h.symm hx
   ·have := pos_lt8 h; omega
theorem MInv.con_uni {hargs q rs : List Tm} {r T : Tm} {S' : List (Int × Tm)} {res : URes} (h : MInv S0 N0 args hargs (T :: q) (r :: rs) sl N S) (hT : conT T) (hres : uniT 2000 S r T 0 = res) (hok : res.ok = true) (hset : fullB S' = fullB res.set) (hoks : OkS N S') (htop : ∀ m : Int, (N : Int) ≤ m → fullB S' m = varV m) : MInv S0 N0 args hargs q rs sl N S' := by
 subst hres
 exact h.uni (y := T) (con_inN hT) (uni_post 2000 S r T 0 h.oks (h.reg r (by simp)) (con_inN hT) (by omega) (by omega)) hok (fun m => by rw [hset]) hoks htop (fun A ρ _ => by rw [con_sub hT, con_sub hT])
theorem MInv.con_uni_no {hargs q rs : List Tm} {r T : Tm} {res : URes} (h : MInv S0 N0 args hargs (T :: q) (r :: rs) sl N S) (hT : conT T) (hres : uniT 2000 S r T 0 = res) (hok : res.ok = false) (hc : res.cost ≤ 2000) : MNo S0 N0 args hargs := by
 subst hres
 exact h.uni_no (y := T) (uni_post 2000 S r T 0 h.oks (h.reg r (by simp)) (con_inN hT) (by omega) (by omega)) hok hc (fun A ρ _ => by rw [con_sub hT, con_sub hT])
theorem con_way {t' r : Tm} {q : List Tm} {seen : List Int} {x : InsM} (hm : MInv S0 N0 args (hArgs t) (subT (renV (varsT t []) 0) t' :: q) (r :: regs.drop (i + 1)) sl N S) (hcon : conT t')
  (hnext : ∀ (us : List Tm) (sl' : Int → Option Tm) (N' : Nat) (S' : List (Int × Tm)), us.length = ([] : List Tm).length → (∀ n ∈ varsT t [], ((sl' (slotI (varsT t []) n)).isSome = true ↔ n ∈ seenI seen t')) → (∀ v x, sl' v = some x → ∃ n ∈ varsT t [], v = slotI (varsT t []) n) →
   MInv S0 N0 args (hArgs t) (q ++ subL (renV (varsT t []) 0) []) (regs.drop (i + 1) ++ us) sl' N' S' → MAt S0 N0 args t (i + 1) (regs ++ us) sl' N' S')
  (hslo : ∀ n ∈ varsT t [], ((sl (slotI (varsT t []) n)).isSome = true ↔ n ∈ seen)) (hdom : ∀ v x, sl v = some x → ∃ n ∈ varsT t [], v = slotI (varsT t []) n) (hop : (x.op = opInt ∧ t' = intT x.n) ∨ (x.op = opAtom ∧ t' = atomT x.s)) : StCon S0 N0 args regs sl N S t i r x := by
 have hseen : seenI seen t' = seen := by unfold seenI; rw [if_neg hcon.2.1]
 rw [hseen] at hnext
 rw [con_sub hcon] at hm
 have go : ∀ S', MInv S0 N0 args (hArgs t) q (regs.drop (i + 1)) sl N S' → MAt S0 N0 args t (i + 1) regs sl N S' := fun S' hS => by
  have := hnext [] sl N S' rfl hslo hdom (by rw [subL, List.append_nil, List.append_nil]; exact hS)
  rwa [List.append_nil] at this
 exact ⟨t', hcon, hop, fun h1 => go S (hm.con_same hcon h1), fun y h1 h2 h3 h4 => hm.con_not hcon h1 h2 h3 h4, fun n y h1 h2 h3 h4 h5 => go _ (hm.con_set hcon h1 h2 h3 h4 h5), fun res hres hcost => ⟨fun hok S' h1 h2 h3 => go _ (hm.con_uni hcon hres hok h1 h2 h3), fun hok => hm.con_uni_no hcon hres hok hcost⟩⟩
theorem MAt.ways (hg : goodT t = true) (h : MAt S0 N0 args t i regs sl N S) (hi : i < (headC t).l.length) : ∃ (r : Tm) (x : InsM), regs[i]? = some r ∧ InN N r ∧ (headC t).l[i]? = some x ∧ x.a = (i : Int) ∧
  (StVar S0 N0 args regs sl N S t i r x ∨ StVal S0 N0 args regs sl N S t i r x ∨ StCon S0 N0 args regs sl N S t i r x ∨ StComp S0 N0 args regs sl N S t i r x) := by
 obtain ⟨r, t', q, seen, hr, hrN, hx, hf, hocc, hslo, hdom, hm, hnext⟩ := h.step hi
 refine ⟨r, _, hr, hrN, hx, ?_, ?_⟩
 ·unfold stepI
  repeat' split
  all_goals rfl
 ·rcases formed_kids hf with ⟨hk, he⟩ | ⟨hk, he⟩ | ⟨hk, he⟩
  ·have ha : t'.args = [] := by rw [he]; rfl
   have hn : t'.n ∈ varsT t [] := hocc _ (by rw [he, occ_varV]; exact List.mem_singleton.2 rfl)
   have hpl := pos_lt8 hn
   have hsub : subT (renV (varsT t []) 0) t' = varV (slotI (varsT t []) t'.n) := by
    conv => lhs; rw [he, sub_varV]
    unfold renV slotI
    rw [Int.zero_add]
   rw [hsub] at hm
   have hb : (stepI (varsT t []) seen i regs.length t').b = slotI (varsT t []) t'.n := by unfold stepI; rw [if_pos hk]; rfl
   rw [ha] at hnext
   have hst : stepI (varsT t []) seen i regs.length t' = ⟨if seen.contains t'.n then opVal else opVar, i, (posI (varsT t []) t'.n : Nat), 0, 0, ⟨#[]⟩⟩ := by unfold stepI; rw [if_pos hk]
   by_cases hc : seen.contains t'.n = true
   ·refine Or.inr (Or.inl ⟨by rw [hst, hc]; rfl, by rw [hb]; unfold slotI; omega, by rw [hb]; unfold slotI; omega, ?_⟩)
    rw [hb]
    have hmem : t'.n ∈ seen := by simpa using hc
    obtain ⟨y, hy⟩ := Option.isSome_iff_exists.1 ((hslo _ hn).2 hmem)
    have hseen : seenI seen t' = seen := by unfold seenI; rw [if_pos hk, if_pos hc]
    rw [hseen] at hnext
    have go : ∀ S', MInv S0 N0 args (hArgs t) q (regs.drop (i + 1)) sl N S' → MAt S0 N0 args t (i + 1) regs sl N S' := fun S' hS => by
     have := hnext [] sl N S' rfl hslo hdom (by rw [subL, List.append_nil, List.append_nil]; exact hS)
     rwa [List.append_nil] at this
    refine ⟨y, hy, hm.slo _ y hy, fun res hres hcost => ⟨fun hok S' h1 h2 h3 => go S' ?_, fun hok => ?_⟩⟩
    ·rcases hres with hres | hres
     ·exact hm.val_at hy hres hok hcost h1 h2 h3
     ·exact hm.val_at' hy hres hok hcost h1 h2 h3
    ·rcases hres with hres | hres
     ·exact hm.val_no hy hres hok hcost
     ·exact hm.val_no' hy hres hok hcost
   ·have hmem : ¬ t'.n ∈ seen := by simpa using hc
    have hnone : sl (slotI (varsT t []) t'.n) = none := by
     cases hs : sl (slotI (varsT t []) t'.n) with
     | none => rfl
     | some y => exact absurd ((hslo _ hn).1 (by rw [hs]; rfl)) hmem
    refine Or.inl ⟨by rw [hst]; exact if_neg hc, by rw [hb]; exact hnone, by rw [hb]; unfold slotI; omega, by rw [hb]; unfold slotI; omega, ?_⟩
    rw [hb]
    have hv := hm.var hnone
    have := hnext [] _ N S rfl (fun n hn2 => ?_) (fun v y e => ?_) (by rw [subL, List.append_nil, List.append_nil]; exact hv)
    ·rwa [List.append_nil] at this
    ·unfold setO
     rw [mem_seenI]
     by_cases hs : slotI (varsT t []) n = slotI (varsT t []) t'.n
     ·rw [if_pos hs]
      have : n = t'.n := pos_inj hn2 hn (by unfold slotI at hs; omega)
      simp [this, hk]
     ·rw [if_neg hs, hslo n hn2]
      exact ⟨Or.inl, fun h => h.elim id fun h => absurd (by rw [h.2]) hs⟩
    ·unfold setO at e
     by_cases hs : v = slotI (varsT t []) t'.n
     ·exact ⟨_, hn, hs⟩
     ·rw [if_neg hs] at e; exact hdom v y e
  ·have ha : t'.args = [] := by rw [he]; rfl
   have hcon : conT t' := ⟨hf, by omega, ha⟩
   refine Or.inr (Or.inr (Or.inl ?_))
   exact con_way hm hcon (by rw [ha] at hnext; exact hnext) hslo hdom (Or.inl ⟨by unfold stepI; rw [if_neg (by omega), if_pos hk], by unfold stepI; rw [if_neg (by omega), if_pos hk]; exact he⟩)
  ·by_cases ha : t'.args = []
   ·have hcon : conT t' := ⟨hf, by omega, ha⟩
    refine Or.inr (Or.inr (Or.inl ?_))
    have hst : stepI (varsT t []) seen i regs.length t' = ⟨opAtom, i, 0, 0, 0, t'.s⟩ := by unfold stepI; rw [if_neg (by omega), if_neg (by omega), if_pos (by rw [ha]; rfl)]
    refine con_way hm hcon (by rw [ha] at hnext; exact hnext) hslo hdom (Or.inr ⟨by rw [hst], ?_⟩)
    rw [hst]
    rw [ha] at he
    exact he
   ·refine Or.inr (Or.inr (Or.inr ?_))
    have hlen : ¬ t'.args.length = 0 := fun e => ha (List.eq_nil_of_length_eq_zero e)
    have hst : stepI (varsT t []) seen i regs.length t' = ⟨opComp, i, (t'.args.length : Nat), (regs.length : Nat), 0, t'.s⟩ := by unfold stepI; rw [if_neg (by omega), if_neg (by omega), if_neg hlen]
    rw [hst]
    have hpk := plain_kids hf hk
    have hseen : seenI seen t' = seen := by unfold seenI; rw [if_neg (by omega)]
    rw [hseen] at hnext
    have hsub : subT (renV (varsT t []) 0) t' = nameT t'.s (subL (renV (varsT t []) 0) t'.args) := by
     conv => lhs; rw [he]
     exact sub_nameL _ _ _
    have hl : (subL (renV (varsT t []) 0) t'.args).length = t'.args.length := subL_len _ _
    rw [hsub] at hm
    have hform : ∀ us : List Tm, us.length = t'.args.length → formedL us = true → formedT (nameT t'.s us) = true := fun us h1 h2 => by
     have h3 := hf
     rw [he] at h3
     unfold nameT at h3 ⊢
     rw [formedT, Bool.and_eq_true] at h3 ⊢
     exact ⟨by rw [h1]; exact h3.1, h2⟩
    have hfr : formedT (nameT t'.s (subL (renV (varsT t []) 0) t'.args)) = true := by
     refine hform _ hl (formeds_sub _ (formed_argsL hf) fun m hm2 => ?_)
     have h1 : m ∈ varsT t [] := hocc m ((occ_kids hf).2 (Or.inr hm2))
     have h2 := pos_lt8 h1
     unfold renV
     exact var_formed (by omega) (by have h3 := cvars_len t []; have h4 := (good_parts hg).1; simp at h3; omega)
    refine ⟨rfl, t'.args.length, rfl, by omega, hpk.2, rfl, hform, fun us h1 h2 h3 => ?_, fun y h1 h2 h3 h4 => ?_, fun n y h1 h2 h3 h4 h5 h6 h7 => ?_⟩
    ·exact hnext us sl N S h3 hslo hdom (hm.comp_at h1 h2 (by rw [hl]; exact h3))
    ·exact hm.comp_not h1 h2 h3 (by rw [hl]; exact h4)
    ·have hfl : (freshL N t'.args.length).length = t'.args.length := by unfold freshL; rw [List.length_map, List.length_range]
     have := hm.build_at (y := y) (by rw [hl]; exact h1) h2 h3 h4 h5 hfr (by rw [hl]; exact h6) (by rw [hl]; exact h7)
     rw [hl] at this
     exact hnext (freshL N t'.args.length) sl _ _ hfl hslo hdom this
end
end Go.Proofs.Ytchbbaehdcmcfaa
/- Chapter 15, Match's laws, their pure ends. Nothing here is walked. -/
namespace Go.Proofs.Ytchbbaehdcmcfaa
set_option linter.unusedVariables false
section
variable {t : Tm}
theorem hArgs_eq (hg : goodT t = true) (hk : t.k = 2) : renT 0 t = nameT t.s (hArgs t) ∧ (renT 0 t).args = hArgs t := by
 have he : t = nameT t.s t.args := by
  rcases formed_kids (good_parts hg).2.2 with ⟨h, _⟩ | ⟨h, _⟩ | ⟨_, h⟩
  ·omega
  ·omega
  ·exact h
 have h0 : renT 0 t = nameT t.s (hArgs t) := by
  have h2 := sub_nameL (renV (varsT t []) 0) t.s t.args
  rw [← he] at h2
  exact h2
 exact ⟨h0, by rw [h0]; rfl⟩
theorem head8 (hg : goodT t = true) (hk : t.k = 2) (b : Int) : renT b t = nameT t.s (subL (upV b) (hArgs t)) := by rw [ren_name hg hk, (hArgs_eq hg hk).2]
theorem vars_le (hg : goodT t = true) : (varsT t []).length ≤ 2000 := by
 have h1 := cvars_len t []
 have h2 := (good_parts hg).1
 simp at h1
 omega
theorem hArgs_in (hg : goodT t = true) (hk : t.k = 2) : InNs (varsT t []).length (hArgs t) := fun x hx => by
 have hl := vars_le hg
 have hf := (good_parts hg).2.2
 unfold hArgs at hx
 rw [subL_map] at hx
 obtain ⟨y, hy, rfl⟩ := List.mem_map.1 hx
 have hv : ∀ m ∈ occT y, m ∈ varsT t [] := fun m hm => (mem_vars2 t []).2 (Or.inr ((occ_kids hf).2 (Or.inr (mem_occL.2 ⟨y, hy, hm⟩))))
 refine ⟨formed_sub y (formedL_iff.1 (formed_argsL hf) y hy) fun m hm => ?_, fun m hm => ?_⟩
 ·have := pos_lt8 (hv m hm)
  unfold renV
  exact var_formed (by omega) (by omega)
 ·obtain ⟨j, hj, hm⟩ := (occ_sub y).1 hm
  have := pos_lt8 (hv j hj)
  unfold renV at hm
  rw [occ_varV] at hm
  simp at hm
  omega
theorem head8_in (hg : goodT t = true) (hk : t.k = 2) : InN (8 + (varsT t []).length) (nameT t.s (subL (upV 8) (hArgs t))) := by
 have hl := vars_le hg
 have hf := (good_parts hg).2.2
 have hs := ren_same hf (base := 8) (by omega) (by omega)
 rw [← head8 hg hk 8]
 refine ⟨(good_parts (show goodT (renT 8 t) = true by rw [hs.2]; exact hg)).2.2, fun m hm => ?_⟩
 unfold renT at hm
 obtain ⟨j, hj, hm⟩ := (occ_sub t).1 hm
 have := pos_lt8 ((mem_vars2 t []).2 (Or.inr hj))
 unfold renV at hm
 rw [occ_varV] at hm
 simp at hm
 omega
theorem match_law {args : List Tm} (hg : goodT t = true) (hk : t.k = 2) (ha : InNs 8 args) (hc : formedT (nameT t.s args) = true) {r : URes} (hr : uniT 2000 [] (renT 8 t) (nameT t.s args) 0 = r) (hcost : r.cost ≤ 2000) :
  (∀ N' S sl, MYes [] 8 args (hArgs t) (varsT t []).length N' S sl → r.ok = true ∧ (goodT (listT (args.map (subT (fullB S)) ++ sl.map (subT (fullB S))) nilT) = true → alikeQ (listT (args.map (subT (fullB S)) ++ sl.map (subT (fullB S))) nilT) (listT (args.map (subT (fullB r.set)) ++ (List.range (varsT t []).length).map (fun (i : Nat) => fullB r.set (8 + (i : Int)))) nilT) = true)) ∧
  (MNo [] 8 args (hArgs t) → r.ok = false) := by
 have hl := vars_le hg
 have hcN : InN (8 + (varsT t []).length) (nameT t.s args) := ⟨hc, fun m hm => by
  unfold nameT at hm
  rw [occ_not (by decide)] at hm
  have := ha.occ m hm
  omega⟩
 rw [head8 hg hk 8] at hr
 refine ⟨fun N' S sl h => code_lists (by omega) ha (hArgs_in hg hk) (head8_in hg hk) hcN hr hcost h, fun h => ?_⟩
 rw [← hr]
 exact match_no (by omega) (head8_in hg hk) hcN h
end
end Go.Proofs.Ytchbbaehdcmcfaa
/- Chapter 15: what steps may be, as the check goes. Nothing here is walked. -/
namespace Go.Proofs.Ytchbbaehdcmcfaa
set_option linter.unusedVariables false
def partI (sl : Int) (next : Nat) (seen : List Int) (x : InsM) : Bool :=
 if x.op = opVar then decide (0 ≤ x.b) && decide (x.b < sl) && !seen.contains x.b && x.c == 0 && x.n == 0 && noS x.s
  else if x.op = opVal then seen.contains x.b && x.c == 0 && x.n == 0 && noS x.s
  else if x.op = opInt then x.b == 0 && x.c == 0 && noS x.s
  else if x.op = opAtom then x.b == 0 && x.c == 0 && x.n == 0 && nmOk x.s
  else if x.op = opComp then decide (1 ≤ x.b) && decide (x.b ≤ 8) && x.c == (next : Int) && x.n == 0 && nmOk x.s
  else false
theorem insOk_part (sl : Int) (i next : Nat) (seen : List Int) (x : InsM) : insOk sl i next seen x = (x.a == (i : Int) && partI sl next seen x) := rfl
def partK (sl : Int) (next : Nat) (seen : List Int) (x : InsM) : Bool := decide (x.a < (next : Int)) && partI sl next seen x
def nextI (next : Nat) (x : InsM) : Nat := if x.op = opComp then next + x.b.toNat else next
def metI (seen : List Int) (x : InsM) : List Int := if x.op = opVar then seen ++ [x.b] else seen
def goK (sl : Int) : List InsM → Nat → Nat → List Int → Option (Nat × List Int)
 | [], _, next, seen => some (next, seen)
 | x :: r, i, next, seen => if (x.a == (i : Int) && partK sl next seen x) = true then goK sl r (i + 1) (nextI next x) (metI seen x) else none
def goodK (c : CodeM) : Bool := decide (0 ≤ c.ar) && decide (c.ar ≤ 8) && c.rg == ((c.l.length : Nat) : Int) && decide (c.rg ≤ 2000) && decide (0 ≤ c.sl) && decide (c.sl ≤ c.rg) && (match goK c.sl c.l 0 c.ar.toNat [] with
 | some (next, seen) => ((next : Nat) : Int) == c.rg && ((seen.length : Nat) : Int) == c.sl
 | none => false)
theorem goK_flat (vs : List Int) (sl : Int) : ∀ (K : Nat) (q : List Tm) (i next : Nat) (seen sn : List Int), sizesN q ≤ K → next = i + q.length → formedL q = true → goK sl (flatI vs K q i next seen) i next sn = goC sl (flatI vs K q i next seen) i next sn
 | 0, q, i, next, seen, sn, h, hn, hf => by rw [flatI, goK, goC]
 | K + 1, [], i, next, seen, sn, h, hn, hf => by rw [flatI, goK, goC]
 | K + 1, t :: q, i, next, seen, sn, h, hn, hf => by
  have hk := size_kids t
  rw [sizesN] at h
  rw [formedL, Bool.and_eq_true] at hf
  rw [flatI, goK, goC]
  have ha : (stepI vs seen i next t).a = (i : Int) := by
   unfold stepI
   repeat' split
   all_goals rfl
  have hlt : decide ((stepI vs seen i next t).a < (next : Int)) = true := by
   rw [ha, decide_eq_true_eq, hn, List.length_cons]; omega
  have e1 : ((stepI vs seen i next t).a == (i : Int) && partK sl next sn (stepI vs seen i next t)) = insOk sl i next sn (stepI vs seen i next t) := by
   unfold partK
   rw [hlt, Bool.true_and, insOk_part]
  have e2 : nextI next (stepI vs seen i next t) = next + t.args.length := by
   unfold nextI
   rcases formed_kids hf.1 with ⟨h0, e⟩ | ⟨h1, e⟩ | ⟨h2, e⟩
   ·have hal : t.args.length = 0 := by rw [e]; rfl
    have : ¬ (stepI vs seen i next t).op = opComp := by
     unfold stepI; rw [if_pos h0]
     show ¬ (if seen.contains t.n then opVal else opVar) = opComp
     split <;> decide
    rw [if_neg this, hal, Nat.add_zero]
   ·have hal : t.args.length = 0 := by rw [e]; rfl
    have : ¬ (stepI vs seen i next t).op = opComp := by
     unfold stepI; rw [if_neg (by omega), if_pos h1]
     show ¬ opInt = opComp
     decide
    rw [if_neg this, hal, Nat.add_zero]
   ·by_cases hal : t.args.length = 0
    ·have : ¬ (stepI vs seen i next t).op = opComp := by
      unfold stepI; rw [if_neg (by omega), if_neg (by omega), if_pos hal]
      show ¬ opAtom = opComp
      decide
     rw [if_neg this, hal, Nat.add_zero]
    ·have hst : stepI vs seen i next t = ⟨opComp, i, (t.args.length : Nat), (next : Nat), 0, t.s⟩ := by unfold stepI; rw [if_neg (by omega), if_neg (by omega), if_neg hal]
     rw [hst, if_pos rfl]
     show next + ((t.args.length : Nat) : Int).toNat = _
     rw [Int.toNat_natCast]
  rw [e1, ← e2]
  by_cases hb : insOk sl i next sn (stepI vs seen i next t) = true
  ·rw [if_pos hb, if_pos hb]
   have ih := goK_flat vs sl K (q ++ t.args) (i + 1) (next + t.args.length) (seenI seen t) (metI sn (stepI vs seen i next t)) (by rw [sizes_app]; omega) (by rw [hn, List.length_cons, List.length_append]; omega) (by rw [formedL_app, hf.2, formed_argsL hf.1]; rfl)
   rw [← e2] at ih
   exact ih
  ·rw [if_neg hb, if_neg hb]
theorem head_goodK {t : Tm} (hg : goodT t = true) (hk : t.k = 2) : goodK (headC t) = true := by
 have h := head_good hg hk
 have hf := (good_parts hg).2.2
 have e := goK_flat (varsT t []) ((varsT t []).length : Nat) (sizesN t.args) t.args 0 t.args.length [] [] (Nat.le_refl _) (by omega) (formed_argsL hf)
 unfold goodC at h
 unfold goodK
 have e' : goK (headC t).sl (headC t).l 0 (headC t).ar.toNat [] = goC (headC t).sl (headC t).l 0 (headC t).ar.toNat [] := by
  show goK _ _ 0 ((t.args.length : Nat) : Int).toNat [] = goC _ _ 0 ((t.args.length : Nat) : Int).toNat []
  rw [Int.toNat_natCast]
  exact e
 rw [e']
 have hl : (varsT t []).length ≤ sizesN t.args := by
  have h2 := plain_kids hf hk
  have e3 : varsT t [] = varsL t.args [] := by
   rcases formed_kids hf with ⟨h, _⟩ | ⟨h, _⟩ | ⟨_, h⟩
   ·omega
   ·omega
   ·conv => lhs; rw [h]
    unfold nameT
    rw [varsT, if_neg (by decide)]
  have := cvarss_len t.args []
  rw [e3]
  simpa using this
 have hlen : (headC t).l.length = sizesN t.args := cflat_size _ _ _ _ _ _ (Nat.le_refl _)
 have b1 : decide (0 ≤ (headC t).sl) = true := by
  rw [decide_eq_true_eq]
  show (0 : Int) ≤ ((varsT t []).length : Nat)
  omega
 have b2 : decide ((headC t).sl ≤ (headC t).rg) = true := by
  rw [decide_eq_true_eq]
  show (((varsT t []).length : Nat) : Int) ≤ (sizesN t.args : Nat)
  omega
 have b3 : ((headC t).rg == (((headC t).l.length : Nat) : Int)) = true := by
  rw [hlen]
  show (((sizesN t.args : Nat) : Int) == ((sizesN t.args : Nat) : Int)) = true
  simp
 simp only [Bool.and_eq_true] at h
 rw [b1, b2, b3, h.1.1.1.1, h.1.1.1.2, h.1.1.2]
 simp only [Bool.true_and]
 exact h.2
theorem nm_good (s : ByteArray) : goodT (atomT s) = nmOk s := by
 unfold goodT nmOk atomT
 rw [formedT, formedL, Bool.and_true]
 have h1 : decide (sizeN (.mk 2 0 s []) ≤ 2000) = true := by rw [sizeN, sizesN]; decide
 have h2 : decide (depthN (.mk 2 0 s []) ≤ 64) = true := by rw [depthN, depthsN]; decide
 first
  | (rw [h1, h2]; rfl)
  | (simp [h1, h2])
end Go.Proofs.Ytchbbaehdcmcfaa
/- Package term: Size. -/
namespace Go.Proofs.Ytchbbaehdcmcfaa
open Go.RowKit
set_option linter.unusedVariables false
theorem sizes_drop' : ∀ {ts : List Tm} {i : Nat} {y : Tm}, ts[i]? = some y → sizesN (ts.take (i + 1)) = sizesN (ts.take i) + sizeN y
 | x :: r, 0, y, h => by
  simp at h; subst h
  simp [sizesN]
 | x :: r, i + 1, y, h => by
  have := sizes_drop' (ts := r) (i := i) (y := y) (by simpa using h)
  simp only [List.take_succ_cons, sizesN, this]
  omega
 | [], i, y, h => by simp at h
theorem sizes_take' (ts : List Tm) (i : Nat) : sizesN (ts.take i) ≤ sizesN ts := by
 induction ts generalizing i with
 | nil => simp
 | cons x r ih =>
  cases i with
  | zero => simp [sizesN]
  | succ i =>
   simp only [List.take_succ_cons, sizesN]
   have := ih i
   omega
theorem TmV.four {w : World} {x : Tm} {v : Value} (h : TmV w x v) : ∃ k n s u, v = .agg #[.int .i64 k, .int .i64 n, .string s, u] := by
 obtain ⟨u, rfl⟩ := h.pair
 exact ⟨_, _, _, _, rfl⟩
set_option maxHeartbeats 2000000 in
set_option maxRecDepth 100000 in
theorem count_at : ∀ (N : Nat) (x : Tm), sizeN x ≤ N → ∀ (q : Nat), 1 ≤ q → q ≤ 1000000 → ∀ (w : World) (v : Value), TmV w x v →
  Calls Try.prog 68 #[v, .int .i64 q] w fun e w' => e = .returned (.int .i64 (min (sizeN x) q : Nat)) ∧ Below w.heap.size w w'
 | 0, x, h, q, hq1, hq, w, v, hv => by have := size_pos x; omega
 | N + 1, .mk k n s ts, h, q, hq1, hq, w, v, hv => by
  obtain ⟨u, rfl, hs, hk, hn, hu⟩ := tmV_iff.1 hv
  obtain ⟨a, c, rfl, h1, h2, h3⟩ := hu.len
  unfold BIG at h3
  obtain ⟨m, hm⟩ : ∃ m, ts.length = m := ⟨_, rfl⟩
  have IH := Lib.hid (fun (y : Tm) (hy : y ∈ ts) => count_at N y (mem_size h hy))
  have HU := Lib.hid hu
  have HM := Lib.hid hm
  rw [hm] at h1 h3 hu HU ⊢
  obtain ⟨r, hr⟩ : ∃ r, min (sizeN (.mk k n s ts)) q = r := ⟨_, rfl⟩
  rw [hr]
  have HR := Lib.hid (show min (sizesN ts + 1) q = r by rw [← hr, sizeN])
  clear hv hu hm hr h
  go_enter Try.func68, Try.ntmps68
  go_wp2_with fail
  go_loopw [5, 11] (fun z v wr => ∃ i t : Nat, i ≤ m ∧ v = .int .i64 i ∧ z = .int .i64 t ∧ Hid (t = min (sizesN (ts.take i) + 1) q) ∧ t ≤ q ∧ Hid (Below (w.alloc (.cells #[.int .i64 k, .int .i64 n, .string s, .slice a m c] 31)).heap.size (w.alloc (.cells #[.int .i64 k, .int .i64 n, .string s, .slice a m c] 31)) wr)) (fun _ v _ => m - (RowKit.intOf v).toNat)
  case atStart => exact ⟨0, 1, Nat.zero_le _, rfl, rfl, Lib.hid (by simp [sizesN]; omega), by omega, Lib.hid (Below.refl _ _)⟩
  case round =>
   obtain ⟨i, t, hi, rfl, rfl, HT, ht, HB⟩ := hrel
   have HBW := Lib.hid (Ext.trans' (bel1' w _) HB.out)
   by_cases hil : i < m
   ·obtain ⟨y, hy⟩ : ∃ y, ts[i]? = some y := ⟨_, List.getElem?_eq_getElem (by rw [HM.out]; exact hil)⟩
    have hst := sizes_take' ts (i + 1)
    have hds := sizes_drop' hy
    obtain ⟨b, off, k', n', s', u', rfl, hbb, _, _, _, c0, c1, c2, c3, htu, hty⟩ := (HU.out.ext HBW.out).get hy
    obtain ⟨au, cu, rfl, _⟩ := htu.len
    clear htu
    by_cases htq : t < q
    ·obtain ⟨d, hd⟩ : ∃ d, q - t = d := ⟨_, rfl⟩
     have hqt : (q : Int) - t = d := by omega
     have htq' : ((t : Int) == q) = false := by apply beq_false_of_ne; omega
     have HNE := Lib.hid (show ¬ t = q by omega)
     have ih := IH.out y (List.mem_of_getElem? hy) d (by omega) (by omega) _ _ (TmV.ext (bel1' wr (box4 k' n' s' (.slice au y.args.length cu) 31)) _ _ hty)
     obtain ⟨z, hz⟩ : ∃ z, min (sizeN y) d = z := ⟨_, rfl⟩
     rw [hz] at ih
     have HN : Hid (t + z = min (sizesN (ts.take (i + 1)) + 1) q) := Lib.hid (by
      have := HT.out
      rw [hds]
      omega)
     have hzd : z ≤ d := by omega
     have hzq : t + z ≤ q := by omega
     clear hst hds hz hy hty hd HT
     (go_wp2_with fail; go_fit (ih); rintro e w2 ⟨rfl, b2⟩)
     have B2 := Lib.hid (Ext.trans' HB.out (Ext.trans' (bel1' _ _) b2))
     clear b2
     go_wp2
     go_roundw
     case rel => exact ⟨i + 1, t + z, by omega, by go_num, by go_num, HN, hzq, B2⟩
     case measure => simp [RowKit.intOf]; omega
    ·have hrt : q = r := by
      have a1 := HT.out
      have a2 := HR.out
      have a3 := sizes_take' ts i
      omega
     have htq2 : t = q := by omega
     subst hrt htq2
     clear hst hds hy hty
     go_wp2
     go_ret
     exact ⟨rfl, Ext.trans' HBW.out (bel1' _ _)⟩
   ·have hrt : t = r := by
     have a1 := HT.out
     have a2 := HR.out
     rw [List.take_of_length_le (by rw [HM.out]; omega)] at a1
     omega
    subst hrt
    go_wp2
    go_ret
    exact ⟨rfl, HBW.out⟩
theorem size_at (x : Tm) (w : World) (v : Value) (hv : TmV w x v) : Calls Try.prog 30 #[v] w fun e w' => e = .returned (.int .i64 (min (sizeN x) 2001 : Nat)) ∧ Below w.heap.size w w' := by
 have C := fun w (h : TmV w x v) => count_at _ x (Nat.le_refl _) 2001 (by omega) (by omega) w v h
 obtain ⟨z, hz⟩ : ∃ z, min (sizeN x) 2001 = z := ⟨_, rfl⟩
 rw [hz] at C ⊢
 obtain ⟨k, n, s, u, rfl⟩ := hv.four
 have hv0 := TmV.ext (bel1' w (box4 k n s u 31)) _ _ hv
 clear hz hv
 go_enter Try.func30, Try.ntmps30
 (go_wp2_with fail; go_fit (C _ hv0); rintro e w1 ⟨rfl, b1⟩)
 have B1 := Lib.hid (Ext.trans' (bel1' w _) b1)
 clear b1
 go_wp2
 go_ret
 exact ⟨rfl, B1.out⟩
end Go.Proofs.Ytchbbaehdcmcfaa
/- Package term: what fits. -/
namespace Go.Proofs.Ytchbbaehdcmcfaa
open Go.RowKit
set_option linter.unusedVariables false
theorem isEmpty_size' (s : ByteArray) : s.data.toList.isEmpty = decide (s.size = 0) := by
 have h : s.data.toList.length = s.size := rfl
 cases hq : s.data.toList with
 | nil => rw [hq] at h; simp at h; simp [← h]
 | cons a r =>
  rw [hq, List.length_cons] at h
  rw [decide_eq_false (by omega)]
  rfl
theorem toList_empty' {s : ByteArray} (h : s.size = 0) : s.toList.isEmpty = true := by rw [Lib.toList_data, isEmpty_size']; simpa using h
theorem toList_some' {s : ByteArray} (h : ¬ s.size = 0) : s.toList.isEmpty = false := by rw [Lib.toList_data, isEmpty_size']; simpa using h
theorem letter_eq' : ∀ c : UInt8, letterB c = (((c.toNat : Int) == 9) || ((c.toNat : Int) == 10) || (!decide ((c.toNat : Int) < 32) && !decide (126 < (c.toNat : Int)))) := by
 intro c
 have h : ((List.range 256).all fun n => letterB (UInt8.ofNat n) == ((((UInt8.ofNat n).toNat : Int) == 9) || (((UInt8.ofNat n).toNat : Int) == 10) || (!decide (((UInt8.ofNat n).toNat : Int) < 32) && !decide (126 < ((UInt8.ofNat n).toNat : Int))))) = true := by decide +kernel
 have hc := List.all_eq_true.1 h c.toNat (List.mem_range.2 (UInt8.toNat_lt c))
 rw [UInt8.ofNat_toNat] at hc
 exact eq_of_beq hc
def fitB (s : ByteArray) : Bool := decide (s.size ≤ 64) && s.data.toList.all letterB
set_option maxHeartbeats 2000000 in
theorem fitsName_at (s : ByteArray) (hs : s.size ≤ 140737488351232) (w : World) : Calls Try.prog 123 #[.string s] w fun e w' => e = .returned (.bool (fitB s)) ∧ w = w' := by
 by_cases hbig : 64 < s.size
 ·have hr : fitB s = false := by unfold fitB; rw [decide_eq_false (by omega)]; rfl
  rw [hr]
  clear hr
  go_enter Try.func123, Try.ntmps123
  go_wp2
  go_ret
  exact ⟨rfl, rfl⟩
 obtain ⟨r, hr⟩ : ∃ r, fitB s = r := ⟨_, rfl⟩
 rw [hr]
 have HR : Hid (s.data.toList.all letterB = r) := Lib.hid (by rw [← hr]; unfold fitB; rw [decide_eq_true (by omega)]; rfl)
 clear hr
 go_enter Try.func123, Try.ntmps123
 go_wp2_with fail
 go_loop [10] (fun z => ∃ i : Nat, i ≤ s.size ∧ z = .int .i64 i ∧ Hid (∀ j (hj : j < s.size), j < i → letterB s[j] = true)) (fun z => s.size - (RowKit.intOf z).toNat)
 case atStart => exact ⟨0, Nat.zero_le _, rfl, Lib.hid (fun j _ h => by omega)⟩
 case round =>
  obtain ⟨i, hi, rfl, HL⟩ := hrel
  by_cases hil : i < s.size
  ·cases hq : letterB s[i]
   ·have hlq := letter_eq' s[i]
    rw [hq] at hlq
    have hall : s.data.toList.all letterB = false := by
     rw [List.all_eq_false]
     exact ⟨s.data.toList[i]'hil, List.getElem_mem _, by show ¬ letterB s[i] = true; rw [hq]; simp⟩
    have hrf : r = false := by rw [← HR.out, hall]
    subst hrf
    obtain ⟨z, hz⟩ : ∃ z : Int, (s[i].toNat : Int) = z := ⟨_, rfl⟩
    rw [hz] at hlq
    have e9 : (z == 9) = false := by
     cases h : (z == 9)
     ·rfl
     ·rw [h] at hlq; cases hlq
    have e10 : (z == 10) = false := by
     cases h : (z == 10)
     ·rfl
     ·rw [h, Bool.or_true] at hlq; cases hlq
    rw [e9, e10, Bool.false_or, Bool.false_or] at hlq
    have n9 : (z != 9) = true := by unfold bne; rw [e9]; rfl
    have n10 : (z != 10) = true := by unfold bne; rw [e10]; rfl
    clear e9 e10
    clear hall hq HR HL
    by_cases h32 : z < 32
    ·clear hlq
     go_wp2
     go_ret
     exact ⟨rfl, rfl⟩
    ·have h126 : 126 < z := by
      simp [h32] at hlq
      omega
     clear hlq
     go_wp2
     go_ret
     exact ⟨rfl, rfl⟩
   ·have hlq := letter_eq' s[i]
    rw [hq] at hlq
    have HN : Hid (∀ j (hj : j < s.size), j < i + 1 → letterB s[j] = true) := Lib.hid (fun j hj h => by
     by_cases e : j = i
     ·subst e; exact hq
     ·exact HL.out j hj (by omega))
    obtain ⟨z, hz⟩ : ∃ z : Int, (s[i].toNat : Int) = z := ⟨_, rfl⟩
    rw [hz] at hlq
    clear hq HL
    by_cases e9 : z = 9
    ·subst e9
     clear hlq
     go_wp2
     go_round
     case rel => exact ⟨i + 1, by omega, by go_num, HN⟩
     case measure => simp [RowKit.intOf]; omega
    have e9' : (z == 9) = false := beq_false_of_ne e9
    by_cases e10 : z = 10
    ·subst e10
     clear hlq
     go_wp2
     go_round
     case rel => exact ⟨i + 1, by omega, by go_num, HN⟩
     case measure => simp [RowKit.intOf]; omega
    have e10' : (z == 10) = false := beq_false_of_ne e10
    rw [e9', e10'] at hlq
    have h32 : ¬ z < 32 := fun hh => by simp [hh] at hlq
    have h126 : ¬ 126 < z := fun hh => by simp [hh] at hlq
    have n9 : (z != 9) = true := by unfold bne; rw [e9']; rfl
    have n10 : (z != 10) = true := by unfold bne; rw [e10']; rfl
    clear hlq e9 e10 e9' e10'
    go_wp2
    go_round
    case rel => exact ⟨i + 1, by omega, by go_num, HN⟩
    case measure => simp [RowKit.intOf]; omega
  ·have hall : s.data.toList.all letterB = true := by
    rw [List.all_eq_true]
    intro x hx
    obtain ⟨j, hj, rfl⟩ := List.getElem_of_mem hx
    exact HL.out j hj (by have : j < s.size := hj; omega)
   have hrt : r = true := by rw [← HR.out, hall]
   subst hrt
   clear hall HR HL
   go_wp2
   go_ret
   exact ⟨rfl, rfl⟩
set_option maxHeartbeats 4000000 in
set_option maxRecDepth 100000 in
theorem fits_at {k n : Int} {s : ByteArray} {a : Option Addr} {m c : Nat} (hs : s.size ≤ 140737488351232) (hn : I64 n) (h1 : m ≤ c) (h2 : c ≤ maxLen) (h3 : m * 56 ≤ 140737488351232) (w : World) :
  Calls Try.prog 101 #[.agg #[.int .i64 k, .int .i64 n, .string s, .slice a m c]] w fun e w' => e = .returned (.bool (plainT k n s.data.toList m)) ∧ Below w.heap.size w w' := by
 have F := fun w => fitsName_at s hs w
 by_cases k0 : k = 0
 ·subst k0
  have hp : plainT 0 n s.data.toList m = (decide (0 ≤ n) && decide (n < 2147483648) && decide (s.size = 0) && decide (m = 0)) := by
   unfold plainT; rw [if_pos rfl, isEmpty_size']
  by_cases g1 : 0 ≤ n
  ·by_cases g2 : n < 2147483648
   ·have g2' : n ≤ 2147483647 := by omega
    by_cases g3 : s.size = 0
    ·have g3' := toList_empty' g3
     by_cases g4 : m = 0
     ·have hr : plainT 0 n s.data.toList m = true := by rw [hp]; simp [g1, g2, g3, g4]
      rw [hr]
      subst g4
      clear hp g3 hr F
      go_enter Try.func101, Try.ntmps101
      go_wp2
      go_ret
      exact ⟨rfl, bel1' _ _⟩
     ·have hr : plainT 0 n s.data.toList m = false := by rw [hp]; simp [g4]
      rw [hr]
      have g4' : ((m : Int) == 0) = false := by apply beq_false_of_ne; omega
      clear hp g3 hr F
      go_enter Try.func101, Try.ntmps101
      go_wp2
      go_ret
      exact ⟨rfl, bel1' _ _⟩
    ·have hr : plainT 0 n s.data.toList m = false := by rw [hp]; simp [g3]
     rw [hr]
     have g3' := toList_some' g3
     clear hp hr F
     go_enter Try.func101, Try.ntmps101
     go_wp2
     go_ret
     exact ⟨rfl, bel1' _ _⟩
   ·have hr : plainT 0 n s.data.toList m = false := by rw [hp]; simp [g2]
    rw [hr]
    have g2' : ¬ n ≤ 2147483647 := by omega
    clear hp hr F
    go_enter Try.func101, Try.ntmps101
    go_wp2
    go_ret
    exact ⟨rfl, bel1' _ _⟩
  ·have hr : plainT 0 n s.data.toList m = false := by rw [hp]; simp [g1]
   rw [hr]
   clear hp hr F
   go_enter Try.func101, Try.ntmps101
   go_wp2
   go_ret
   exact ⟨rfl, bel1' _ _⟩
 by_cases k1 : k = 1
 ·subst k1
  have hp : plainT 1 n s.data.toList m = (decide (s.size = 0) && decide (m = 0)) := by
   unfold plainT; rw [if_neg (by decide), if_pos rfl, isEmpty_size']
  by_cases g3 : s.size = 0
  ·have g3' := toList_empty' g3
   by_cases g4 : m = 0
   ·have hr : plainT 1 n s.data.toList m = true := by rw [hp]; simp [g3, g4]
    rw [hr]
    subst g4
    clear hp g3 hr F
    go_enter Try.func101, Try.ntmps101
    go_wp2
    go_ret
    exact ⟨rfl, bel1' _ _⟩
   ·have hr : plainT 1 n s.data.toList m = false := by rw [hp]; simp [g4]
    rw [hr]
    have g4' : ((m : Int) == 0) = false := by apply beq_false_of_ne; omega
    clear hp g3 hr F
    go_enter Try.func101, Try.ntmps101
    go_wp2
    go_ret
    exact ⟨rfl, bel1' _ _⟩
  ·have hr : plainT 1 n s.data.toList m = false := by rw [hp]; simp [g3]
   rw [hr]
   have g3' := toList_some' g3
   clear hp hr F
   go_enter Try.func101, Try.ntmps101
   go_wp2
   go_ret
   exact ⟨rfl, bel1' _ _⟩
 have k0' : (k == 0) = false := beq_false_of_ne k0
 have k1' : (k == 1) = false := beq_false_of_ne k1
 by_cases k2 : k = 2
 ·subst k2
  have hp : plainT 2 n s.data.toList m = (decide (n = 0) && decide (m ≤ 8) && fitB s) := by
   unfold plainT fitB; rw [if_neg (by decide), if_neg (by decide), if_pos rfl]
   have e : s.data.toList.length = s.size := rfl
   rw [e]
   cases decide (n = 0) <;> cases decide (s.size ≤ 64) <;> cases decide (m ≤ 8) <;> simp
  by_cases g1 : n = 0
  ·subst g1
   by_cases g3 : m ≤ 8
   ·have hr : plainT 2 0 s.data.toList m = fitB s := by rw [hp, decide_eq_true g3]; simp
    rw [hr]
    have g3i : (m : Int) ≤ 8 := by omega
    clear hr hp k0 k1 k0' k1'
    generalize fitB s = r at F ⊢
    cases r
    ·go_enter Try.func101, Try.ntmps101
     (go_wp2_with fail; go_fit (F _); rintro e w1 ⟨rfl, rfl⟩)
     go_wp2
     go_ret
     exact ⟨rfl, bel1' _ _⟩
    ·go_enter Try.func101, Try.ntmps101
     (go_wp2_with fail; go_fit (F _); rintro e w1 ⟨rfl, rfl⟩)
     go_wp2
     go_ret
     exact ⟨rfl, bel1' _ _⟩
   ·have hr : plainT 2 0 s.data.toList m = false := by rw [hp, decide_eq_false g3]; simp
    rw [hr]
    have g3i : (8 : Int) < m := by omega
    clear hr hp k0 k1 k0' k1'
    generalize fitB s = r at F
    cases r
    ·go_enter Try.func101, Try.ntmps101
     (go_wp2_with fail; go_fit (F _); rintro e w1 ⟨rfl, rfl⟩)
     go_wp2
     go_ret
     exact ⟨rfl, bel1' _ _⟩
    ·go_enter Try.func101, Try.ntmps101
     (go_wp2_with fail; go_fit (F _); rintro e w1 ⟨rfl, rfl⟩)
     go_wp2
     go_ret
     exact ⟨ret_bool (decide_eq_false (by omega)), bel1' _ _⟩
  ·have hr : plainT 2 n s.data.toList m = false := by rw [hp]; simp [g1]
   rw [hr]
   have g1' : (n == 0) = false := beq_false_of_ne g1
   clear hp hr k0 k1 k0' k1' F
   go_enter Try.func101, Try.ntmps101
   go_wp2
   go_ret
   exact ⟨rfl, bel1' _ _⟩
 ·have hr : plainT k n s.data.toList m = false := by unfold plainT; rw [if_neg k0, if_neg k1, if_neg k2]
  rw [hr]
  have k2' : (k == 2) = false := beq_false_of_ne k2
  clear hr k0 k1 k2 F
  go_enter Try.func101, Try.ntmps101
  go_wp2
  go_ret
  exact ⟨rfl, bel1' _ _⟩
end Go.Proofs.Ytchbbaehdcmcfaa
