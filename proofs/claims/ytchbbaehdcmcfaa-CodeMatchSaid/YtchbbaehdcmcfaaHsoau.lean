import Derived.Test.YtchbbaehdcmcfaaHsozz
import Derived.Test.YtchbbaehdcmcfaaHsoat
set_option linter.unusedVariables false
set_option linter.unusedSimpArgs false
/- Package code: a name of so many Args, where there is one or a variable. -/
namespace Go.Proofs.Ytchbbaehdcmcfaa
open Go.RowKit
set_option linter.unusedVariables false
theorem freshL_len (N k : Nat) : (freshL N k).length = k := by unfold freshL; rw [List.length_map, List.length_range]
theorem freshL_get {N k : Nat} {x : Tm} (h : x ∈ freshL N k) : ∃ i, i < k ∧ x = varV ((N + i : Nat) : Int) := by
 unfold freshL at h
 obtain ⟨i, hi, rfl⟩ := List.mem_map.1 h
 exact ⟨i, List.mem_range.1 hi, rfl⟩
theorem freshL_occ {N k : Nat} {m : Int} (h : m ∈ occL (freshL N k)) : (N : Int) ≤ m ∧ m < ((N + k : Nat) : Int) := by
 obtain ⟨x, hx, hm⟩ := mem_occL.1 h
 obtain ⟨i, hi, rfl⟩ := freshL_get hx
 rw [occ_varV] at hm
 simp at hm
 omega
theorem name_occ {s : ByteArray} {ts : List Tm} {m : Int} : m ∈ occT (nameT s ts) ↔ m ∈ occL ts := by unfold nameT; rw [occ_not (by decide)]
theorem good_var {n : Int} (h0 : 0 ≤ n) (h1 : n < 2147483648) : goodT (varV n) = true := by
 unfold goodT
 rw [var_formed h0 h1]
 have e1 : sizeN (varV n) = 1 := rfl
 have e2 : depthN (varV n) = 1 := rfl
 rw [e1, e2]
 rfl
theorem fresh_good2 {N k : Nat} {s : ByteArray} (hk : k ≤ 8) (hN : N + k ≤ 65536) (hf : formedT (nameT s (freshL N k)) = true) : goodT (nameT s (freshL N k)) = true := by
 have key : ∀ l : List Nat, sizesN (l.map fun i => varV ((N + i : Nat) : Int)) = l.length ∧ depthsN (l.map fun i => varV ((N + i : Nat) : Int)) ≤ 1 := by
  intro l
  induction l with
  | nil => exact ⟨rfl, by rw [List.map_nil, depthsN]; omega⟩
  | cons a l ih =>
   rw [List.map_cons, sizesN, depthsN, List.length_cons]
   have e1 : sizeN (varV ((N + a : Nat) : Int)) = 1 := rfl
   have e2 : depthN (varV ((N + a : Nat) : Int)) = 1 := rfl
   rw [e1, e2]
   omega
 obtain ⟨k1, k2⟩ := key (List.range k)
 rw [List.length_range] at k1
 unfold goodT
 rw [hf, Bool.and_true, Bool.and_eq_true, decide_eq_true_eq, decide_eq_true_eq]
 unfold nameT
 rw [sizeN, depthN]
 unfold freshL
 omega
theorem set_fresh {N k : Nat} {R : List (Int × Tm)} {n : Int} {s : ByteArray} (hT : Tri N R) (hN : N + k ≤ 65536) (hk : k ≤ 8) (h0 : 0 ≤ n) (h1 : n < N) (hg : getB R n = none) (hf : formedT (nameT s (freshL N k)) = true) : setB (N + k) R n (nameT s (freshL N k)) = 0 := by
 have hocc : ∀ m ∈ occT (nameT s (freshL N k)), (N : Int) ≤ m ∧ m < ((N + k : Nat) : Int) := fun m hm => freshL_occ (name_occ.1 hm)
 have hfit : fitsB (N + k) (nameT s (freshL N k)) = true := fitsB_true.2 ⟨fresh_good2 hk hN hf, fun m hm => by have := hocc m hm; omega⟩
 unfold setB
 rw [hfit, show decide (0 ≤ n) = true by simpa using h0, show decide (n < ((N + k : Nat) : Int)) = true by simp; omega]
 rw [if_pos (show (true && true && true) = true from rfl), hg, if_neg (by simp)]
 rw [if_neg]
 intro hm
 obtain ⟨j, hj, hm⟩ := (occ_sub _).1 hm
 have hjN := hocc j hj
 have hnd : ¬ j ∈ domB R := fun hd => by
  obtain ⟨q, hq, e⟩ := List.mem_map.1 hd
  have := hT.mem hq
  omega
 rw [full_free hnd, occ_varV] at hm
 simp at hm
 omega
theorem boxAll4 {w : World} {b : Nat} {v0 v1 v2 v3 : Value} (h : Box w b [v0, v1, v2, v3]) (u0 u1 u2 u3 : Value) : Box (set4 w b u0 u1 u2 u3) b [u0, u1, u2, u3] :=
 (((h.set (k := 0) (u := u0) (by simp)).set (k := 1) (u := u1) (by simp)).set (k := 2) (u := u2) (by simp)).set (k := 3) (u := u3) (by simp)
theorem tm_kind {w : World} {y : Tm} {k n : Int} {s : ByteArray} {a : Option Addr} {m c : Nat} (h : TmV w y (.agg #[.int .i64 k, .int .i64 n, .string s, .slice a m c])) : y.k = k ∧ y.n = n ∧ y.s = s ∧ y.args.length = m ∧ Tms w (.slice a m c) y.args := by
 obtain ⟨k', n', s', ts⟩ := y
 obtain ⟨u, hu, _, _, _, hts⟩ := tmV_iff.1 h
 have e : Value.int .i64 k = .int .i64 k' ∧ Value.int .i64 n = .int .i64 n' ∧ Value.string s = .string s' ∧ Value.slice a m c = u := by simpa using hu
 obtain ⟨e1, e2, e3, e4⟩ := e
 injection e1 with _ e1
 injection e2 with _ e2
 injection e3 with e3
 subst e1 e2 e3 e4
 obtain ⟨a', c', h1, _⟩ := hts.len
 injection h1 with _ h1 _
 exact ⟨rfl, rfl, rfl, h1.symm, hts⟩
def WalkB (V w1 : World) (N : Nat) (R : List (Int × Tm)) (r : Tm) (s6 : Value) (wx : World) : Prop :=
 ∃ d k n s a m c y, s6 = .pointer (some ⟨d, 0, none⟩) ∧ Box wx d [.int .i64 k, .int .i64 n, .string s, .slice a m c] ∧ TmV V y (.agg #[.int .i64 k, .int .i64 n, .string s, .slice a m c]) ∧ Wk N R r y ∧ topB R y ∧ Below w1.heap.size w1 wx ∧ w1.heap.size ≤ d
def CmpP (V : World) (F : List Nat) (w : World) (mb gb tb n S : Nat) (p : Value) (N : Nat) (R : List (Int × Tm)) (regs : List Tm) (sl : Int → Option Tm) (r : Tm) (k : Nat) (s : ByteArray) (e : Ending) (w' : World) : Prop :=
  ∃ V' F' R' N', Stays V V' ∧ IsB V' F' w' p N' R' ∧ Touch (gb :: F) w w' ∧ (∀ q ∈ F', q ∈ F ∨ w.heap.size ≤ q) ∧
    ((∃ us, e = .returned (.tuple #[.bool true, .int .i64 0]) ∧ N' = N ∧ R' = R ∧ InN N (nameT s us) ∧ subT (fullB R) (nameT s us) = subT (fullB R) r ∧ us.length = k ∧ RunS V' w' F' mb gb tb n S p (regs ++ us) sl) ∨
     (∃ y, e = .returned (.tuple #[.bool false, .int .i64 0]) ∧ N' = N ∧ R' = R ∧ InN N y ∧ subT (fullB R) y = subT (fullB R) r ∧ ¬ y.k = 0 ∧ ¬ (y.k = 2 ∧ y.s = s ∧ y.args.length = k) ∧ RunS V' w' F' mb gb tb n S p regs sl) ∨
     (∃ n0 y, e = .returned (.tuple #[.bool true, .int .i64 0]) ∧ N' = N + k ∧ 0 ≤ n0 ∧ n0 < (N : Int) ∧ getB R n0 = none ∧ subT (fullB R) (varV n0) = subT (fullB R) r ∧ R' = (n0, y) :: R ∧ subT (fullB R) y = subT (fullB R) (nameT s (freshL N k)) ∧ RunS V' w' F' mb gb tb n S p (regs ++ freshL N k) sl))
section
variable {V w w' : World} {F F' : List Nat} {mb gb tb n S N : Nat} {p : Value} {regs : List Tm} {sl : Int → Option Tm} {R S0 : List (Int × Tm)}
theorem RunS.copy (h : RunS V w F mb gb tb n S p regs sl) {qs : List TmP} (hC : regs.length + qs.length ≤ n) (hq : ∀ q ∈ qs, TmV V q.1 (pVal q)) (hg : ∀ q ∈ qs, goodT q.1 = true) : RunS V (w.setCells gb (regs.length * 4) (qs.flatMap pCells)) F mb gb tb n S p (regs ++ qs.map (·.1)) sl := by
 have t := setCells_touch gb (qs.flatMap pCells) (regs.length * 4) w
 have a := h.apart
 refine ⟨t.box (fun hm => a.1 (List.mem_singleton.1 hm)) h.box, (h.rrow.copy hC hq).congr (fun k hk => ?_), h.srow.touch t (fun hm => a.2.2 (List.mem_singleton.1 hm).symm), a, h.own, h.blind, by rw [List.length_append, List.length_map]; exact hC, h.size, fun r hr => ?_, h.goods⟩
 ·show (regs ++ qs.map (·.1))[k]? = if k < regs.length then regs[k]? else if k < regs.length + qs.length then (qs[k - regs.length]?).map (·.1) else regs[k]?
  by_cases e : k < regs.length
  ·rw [if_pos e, List.getElem?_append_left e]
  ·rw [if_neg e, List.getElem?_append_right (by omega), List.getElem?_map]
   by_cases e2 : k < regs.length + qs.length
   ·rw [if_pos e2]
   ·rw [if_neg e2, List.getElem?_eq_none (by omega), List.getElem?_eq_none (by omega)]
    rfl
 ·rcases List.mem_append.1 hr with hr | hr
  ·exact h.goodr r hr
  ·obtain ⟨q, hq', rfl⟩ := List.mem_map.1 hr
   exact hg q hq'
theorem RunS.keepI (h : RunS V w F mb gb tb n S p regs sl) (hI : IsB V F w p N R) (vs : List Value) (o : Nat) : IsB V F (w.setCells gb o vs) p N R := by
 have t := setCells_touch gb vs o w
 refine hI.keep (fun k hk => t.block k (hI.lt k hk) (fun hm => h.own.2.1 (by rw [← List.mem_singleton.1 hm]; exact hk))) (hI.see.1.touch (F := [gb]) (fun a ha => h.blind a (by have := List.mem_singleton.1 ha; simp [this])) t)
theorem RunS.copyRun (h : RunS V w F mb gb tb n S p regs sl) {qs : List TmP} {ao : Option Addr} {c : Nat} (hC : regs.length + qs.length ≤ n) (hone : ∀ u ∈ qs.flatMap pCells, u.oneCell' = true) (hsrc : qs.length = 0 ∨ ∃ ad, ao = some ad ∧ ∀ j u, (qs.flatMap pCells)[j]? = some u → w.cell? (ad.add j) = some u) (hk1 : 1 ≤ qs.length) (ty : TypeId) :
  (Builtin.copy_ #[29, 29] ty #[.slice (some ⟨gb, regs.length * 4, none⟩) (n - regs.length) (n - regs.length), .slice ao qs.length c]).run Try.prog w = .ok (goInt (Nat.min qs.length (n - regs.length))) (w.setCells gb (regs.length * 4) (qs.flatMap pCells)) := by
 rcases hsrc with h0 | ⟨ad, rfl, hs⟩
 ·omega
 have hfl : (qs.flatMap pCells).length = qs.length * 4 := flat_len pCells_len _
 have hmin : Nat.min qs.length (n - regs.length) = qs.length := Nat.min_eq_left (by omega)
 refine run_copy_k (P := Try.prog) w 29 29 ty 31 4 gb (regs.length * 4) (n - regs.length) (n - regs.length) ad qs.length c (qs.flatMap pCells) Try.underlying29 (by kernel_rfl) (by rw [hmin, hfl]) hs (fun j hj => ?_) (fun j hj => h.rrow.fz _) hone
 rw [hfl] at hj
 obtain ⟨u, e⟩ := h.rrow.cells (i := regs.length + j / 4) (j := j % 4) (by omega) (Nat.mod_lt _ (by omega))
 rw [show (regs.length + j / 4) * 4 + j % 4 = regs.length * 4 + j by omega] at e
 rw [e]; rfl
set_option maxHeartbeats 8000000 in
set_option maxRecDepth 100000 in
theorem compM_at (hI : IsB V F w p N R) (h : RunS V w F mb gb tb n S p regs sl) (x : InsM) (hx : InsIn x) {i k : Nat} (ha : x.a = (i : Int)) {r : Tm} (hr : regs[i]? = some r) (hrN : ∀ m ∈ occT r, 0 ≤ m ∧ m < (N : Int)) (hk : x.b = (k : Int)) (hk1 : 1 ≤ k) (hk8 : k ≤ 8) (hC : x.c = (regs.length : Int)) (hCn : regs.length + k ≤ n) (hN : N + k ≤ 65536) (hform : formedT (nameT x.s (freshL N k)) = true) :
  Calls Try.prog 95 #[.pointer (some ⟨mb, 0, none⟩), insVal x] w (CmpP V F w mb gb tb n S p N R regs sl r k x.s) := by
 obtain ⟨op, a, b, c, m, s⟩ := x
 obtain rfl : a = (i : Int) := ha
 obtain rfl : b = (k : Int) := hk
 obtain ⟨C, hCC⟩ : ∃ C, regs.length = C := ⟨_, rfl⟩
 rw [hCC] at hC hCn
 obtain rfl : c = (C : Int) := hC
 have hil : i < regs.length := (List.getElem?_eq_some_iff.1 hr).1
 have hin : i < n := Nat.lt_of_lt_of_le hil h.len
 have hn2 := h.size.1
 have hrg := h.goodr r (List.mem_of_getElem? hr)
 obtain ⟨w1, e1, B1, z1, X1⟩ := box_new w #[.string op, .int .i64 i, .int .i64 k, .int .i64 C, .int .i64 m, .string s] 36
 have h1 := h.ext B1
 have hI1 := hI.ext B1
 obtain ⟨rk, rn, rs, ra, rl, rc, hv, d0, d1, d2, d3, _⟩ := h1.rrow.get hin hr
 obtain ⟨c0, c1, c2, cf⟩ := h1.box.three
 have x1 := X1.cells 1 _ rfl
 have HW := Lib.hid (fun (wq : World) (hb : Below w1.heap.size w1 wq) => Walk_at (hI1.ext hb) hv hrg hrN)
 have HB1 := Lib.hid (And.intro B1 (And.intro X1 (And.intro h1 hI1)))
 have HE := Lib.hid e1
 have HX := Lib.hid hx
 have HP := Lib.hid (And.intro hCC (And.intro hform hr))
 have HZ1 := Lib.hid z1
 have HGB := Lib.hid h.rrow.lt
 have HVS := Lib.hid hI.see.1.1
 have HLF := Lib.hid hI.lt
 have HC := Lib.hid (fun (wq : World) (hb : Below w1.heap.size w1 wq) => (show (wq.cell? ⟨mb, 0, none⟩ = some p ∧ wq.cell? ⟨mb, 1, none⟩ = some (.slice (some ⟨gb, 0, none⟩) n n) ∧ (wq.cell? ⟨gb, i * 4, none⟩ = some (.int .i64 rk) ∧ wq.cell? ⟨gb, i * 4 + 1, none⟩ = some (.int .i64 rn) ∧ wq.cell? ⟨gb, i * 4 + 2, none⟩ = some (.string rs) ∧ wq.cell? ⟨gb, i * 4 + 3, none⟩ = some (.slice ra rl rc)) ∧ wq.cell? ⟨w.heap.size, 1, none⟩ = some (.int .i64 i)) ∧ Below w1.heap.size w1 wq from ⟨⟨cell_later hb c0, cell_later hb c1, ⟨cell_later hb d0, cell_later hb d1, cell_later hb d2, cell_later hb d3⟩, cell_later hb x1⟩, hb⟩))
 unfold insVal
 clear hI h hx B1 X1 z1 e1 h1 hI1 hr hrN hrg hv hform
 go_enter Try.func95, Try.ntmps95
 go_upto_region 1 with fail
 (try rw [HE.out])
 go_cut [6] from 9 to 21 (fun s6 wx => Hid (WalkB V w1 N R r s6 wx))
 case first =>
  refine wp_region_held_drew (S := fun wq => (wq.cell? ⟨mb, 0, none⟩ = some p ∧ wq.cell? ⟨mb, 1, none⟩ = some (.slice (some ⟨gb, 0, none⟩) n n) ∧ (wq.cell? ⟨gb, i * 4, none⟩ = some (.int .i64 rk) ∧ wq.cell? ⟨gb, i * 4 + 1, none⟩ = some (.int .i64 rn) ∧ wq.cell? ⟨gb, i * 4 + 2, none⟩ = some (.string rs) ∧ wq.cell? ⟨gb, i * 4 + 3, none⟩ = some (.slice ra rl rc)) ∧ wq.cell? ⟨w.heap.size, 1, none⟩ = some (.int .i64 i)) ∧ Below w1.heap.size w1 wq) (by kernel_rfl) ⟨⟨c0, c1, ⟨d0, d1, d2, d3⟩, x1⟩, (Below.refl _ _).drew⟩ (fun hHeld => ?_)
  first | (refine held_t (i := 0) hHeld ?_; constructor; constructor; intro wq hq; focus ((try dsimp only at hq); go_simp; first | done | with_reducible rfl | fail)) | refine held_s (i := 0) hHeld ?_ | fail
  first | (refine held_t (i := 1) hHeld ?_; constructor; constructor; intro wq hq; focus ((try dsimp only at hq); go_simp; first | done | with_reducible rfl | fail)) | refine held_s (i := 1) hHeld ?_ | fail
  first | (refine held_t (i := 2) hHeld ?_; constructor; constructor; intro wq hq; focus ((try dsimp only at hq); go_simp; first | done | with_reducible rfl | fail)) | refine held_s (i := 2) hHeld ?_ | fail
  first | (refine held_t (i := 3) hHeld ?_; constructor; constructor; intro wq hq; focus ((try dsimp only at hq); go_simp; first | done | with_reducible rfl | fail)) | refine held_s (i := 3) hHeld ?_ | fail
  first | (refine held_t (i := 4) hHeld ?_; constructor; constructor; intro wq hq; focus ((try dsimp only at hq); go_simp; first | done | with_reducible rfl | fail)) | refine held_s (i := 4) hHeld ?_ | fail
  first | (refine held_t (i := 5) hHeld ?_; constructor; constructor; intro wq hq; focus ((try dsimp only at hq); go_simp; first | done | with_reducible rfl | fail)) | refine held_s (i := 5) hHeld ?_ | fail
  first | (refine held_t (i := 6) hHeld ?_; constructor; constructor; intro wq hq; focus ((try dsimp only at hq); go_simp; first | done | with_reducible rfl | fail)) | refine held_s (i := 6) hHeld ?_ | fail
  first | (refine held_t (i := 7) hHeld ?_; constructor; constructor; intro wq hq; focus ((try dsimp only at hq); go_simp; first | done | with_reducible rfl | fail)) | refine held_s (i := 7) hHeld ?_ | fail
  first | (refine held_t (i := 8) hHeld ?_; constructor; constructor; intro wq hq; focus ((try dsimp only at hq); go_simp; first | done | with_reducible rfl | fail)) | refine held_s (i := 8) hHeld ?_ | fail
  first | (refine held_t (i := 9) hHeld ?_; constructor; constructor; intro wq hq; focus ((try dsimp only at hq); go_simp; first | done | with_reducible rfl | fail)) | refine held_s (i := 9) hHeld ?_ | fail
  first | (refine held_t (i := 10) hHeld ?_; constructor; constructor; intro wq hq; focus ((try dsimp only at hq); go_simp; first | done | with_reducible rfl | fail)) | refine held_s (i := 10) hHeld ?_ | fail
  first | (refine held_t (i := 11) hHeld ?_; constructor; constructor; intro wq hq; focus ((try dsimp only at hq); go_simp; first | done | with_reducible rfl | fail)) | refine held_s (i := 11) hHeld ?_ | fail
  try simp only [Act.put, lay4]
  obtain ⟨wd, hwd⟩ : ∃ wd, w1.drew = wd := ⟨_, rfl⟩
  have hbd : Below w1.heap.size w1 wd := by rw [← hwd]; exact (Below.refl _ _).drew
  rw [hwd] at hHeld ⊢
  clear hwd
  refine wpAnyH_ready (rs := [12, 13]) (by kernel_rfl) (by simp) ?_
  refine AllReadyH.cons (by simp only [ops3]; rfl) (fun K hK => ?_) (AllReadyH.cons (by simp only [ops3]; rfl) (fun K hK => ?_) AllReadyH.nil)
  ·go_simp
   (go_at_call 99; refine (HW.out _ hbd).mono ?_; rintro e w5 ⟨y, v', rfl, hy, hwk, htop, b5⟩; obtain ⟨k5, n5, s5, a5, m5, c5, rfl, f1, f2, f3, f4⟩ := four_of hy; clear f1 f2 f3 f4; have HY := Lib.hid (And.intro hy (And.intro hwk (And.intro htop (Ext.trans' hbd b5)))); clear hy hwk htop b5)
   refine hK.out _ _ (HC.out _ HY.out.2.2.2) (fun hHeld => ?_)
   clear hK K
   try simp only [Act.put, lay4]
   have hd5 := HY.out.2.2.2.size
   refine held_c 13 fun K hK => ?_
   go_simp
   skip
   refine hK.out _ _ (HC.out _ (Ext.trans' HY.out.2.2.2 (bel1' _ _))) (fun hHeld => ?_)
   clear hK K
   try simp only [Act.put, lay4]
   obtain ⟨w6, e6, b6, z6, X6⟩ := box_new w5 #[.int .i64 0, .int .i64 0, .string ⟨#[]⟩, .slice none 0 0] 31
   rw [e6] at hHeld ⊢
   clear e6 z6
   have hb16 := Ext.trans' HY.out.2.2.2 b6
   have TD := Lib.hid (show WalkB V w1 N R r (.pointer (some ⟨w5.heap.size, 0, none⟩)) (set4 w6 w5.heap.size (.int .i64 k5) (.int .i64 n5) (.string s5) (.slice a5 m5 c5)) from
    ⟨_, k5, n5, s5, a5, m5, c5, y, rfl, boxAll4 X6 _ _ _ _, HY.out.1, HY.out.2.1, HY.out.2.2.1, Below.set4 hb16 hd5 _ _ _ _, hd5⟩)
   obtain ⟨r0, r1, r2, r3, rf⟩ := X6.four
   refine held_c 14 fun K hK => ?_
   go_simp
   skip
   refine hK.out _ _ (HC.out _ (Below.set4 hb16 hd5 _ _ _ _)) (fun hHeld => ?_)
   clear hK K
   try simp only [Act.put, lay4]
   refine wpAnyH_done (by kernel_rfl) ?_ _
   clear hHeld r0 r1 r2 r3 rf
   go_wp2
   all_goals go_meet
   exact TD.out
  ·go_simp
   skip
   refine hK.out _ _ (HC.out _ (Ext.trans' hbd (bel1' _ _))) (fun hHeld => ?_)
   clear hK K
   try simp only [Act.put, lay4]
   obtain ⟨w6, e6, b6, z6, X6⟩ := box_new wd #[.int .i64 0, .int .i64 0, .string ⟨#[]⟩, .slice none 0 0] 31
   rw [e6] at hHeld ⊢
   clear e6 z6
   have hd5 := hbd.size
   have hb16 := Ext.trans' hbd b6
   refine held_c 12 fun K hK => ?_
   go_simp
   (go_at_call 99; refine (HW.out _ hb16).mono ?_; rintro e w5 ⟨y, v', rfl, hy, hwk, htop, b5⟩; obtain ⟨k5, n5, s5, a5, m5, c5, rfl, f1, f2, f3, f4⟩ := four_of hy; clear f1 f2 f3 f4; have HY := Lib.hid (And.intro hy (And.intro hwk (And.intro htop (And.intro (Ext.trans' hb16 b5) (X6.ext b5))))); clear hy hwk htop b5)
   refine hK.out _ _ (HC.out _ HY.out.2.2.2.1) (fun hHeld => ?_)
   clear hK K
   try simp only [Act.put, lay4]
   have TD := Lib.hid (show WalkB V w1 N R r (.pointer (some ⟨wd.heap.size, 0, none⟩)) (set4 w5 wd.heap.size (.int .i64 k5) (.int .i64 n5) (.string s5) (.slice a5 m5 c5)) from
    ⟨_, k5, n5, s5, a5, m5, c5, y, rfl, boxAll4 HY.out.2.2.2.2 _ _ _ _, HY.out.1, HY.out.2.1, HY.out.2.2.1, Below.set4 HY.out.2.2.2.1 hd5 _ _ _ _, hd5⟩)
   obtain ⟨r0, r1, r2, r3, rf⟩ := HY.out.2.2.2.2.four
   refine held_c 14 fun K hK => ?_
   go_simp
   skip
   refine hK.out _ _ (HC.out _ (Below.set4 HY.out.2.2.2.1 hd5 _ _ _ _)) (fun hHeld => ?_)
   clear hK K
   try simp only [Act.put, lay4]
   refine wpAnyH_done (by kernel_rfl) ?_ _
   clear hHeld r0 r1 r2 r3 rf
   go_wp2
   all_goals go_meet
   exact TD.out
 case rest =>
  obtain ⟨d, ky, ny, sy, ay, my, cy, y, rfl, hxd, hyv, hwk, htop, hb, hdw⟩ := hcut.out
  have HY := Lib.hid (And.intro hxd (And.intro hyv (And.intro hwk (And.intro htop (And.intro hb hdw)))))
  obtain ⟨y0, y1, y2, y3, yf⟩ := hxd.four
  obtain ⟨⟨q0, q1, _, q2⟩, _⟩ := HC.out _ hb
  have hyk := tm_kind hyv
  clear hxd hyv hwk htop hb hdw hcut
  by_cases hk0 : ky = 0
  ·subst hk0
   obtain ⟨HB1a, HB1b, HB1c, HB1d⟩ := HB1.out
   have HRS := Lib.hid (HB1c.ext HY.out.2.2.2.2.1)
   have HIS := Lib.hid (HB1d.ext HY.out.2.2.2.2.1)
   have HBW := Lib.hid (Ext.trans' HB1a HY.out.2.2.2.2.1)
   have hye : y = varV ny := by
    rcases formed_kids (good_parts HY.out.2.2.1.good).2.2 with h | h | h
    ·rw [← hyk.2.1]; exact h.2
    ·have := h.1; rw [hyk.1] at this; exact absurd this (by decide)
    ·have := h.1; rw [hyk.1] at this; exact absurd this (by decide)
   have hny : 0 ≤ ny ∧ ny < (N : Int) := HY.out.2.2.1.rng ny (by rw [hye, occ_varV]; simp)
   have hfree : getB R ny = none := by
    have := HY.out.2.2.2.1
    rw [hye] at this
    exact this rfl
   have hsame : subT (fullB R) (varV ny) = subT (fullB R) r := by rw [← hye]; exact HY.out.2.2.1.same
   have hTri := HIS.out.tri
   have HSB := Lib.hid (And.intro (set_fresh (s := s) hTri.1 hN hk8 hny.1 hny.2 hfree HP.out.2.1) (And.intro hny (And.intro hfree hsame)))
   have hdw : w1.heap.size ≤ d := HY.out.2.2.2.2.2
   have hlt := HB1c.lts
   have hdg : d ≠ gb := by omega
   have hdm : d ≠ mb := by omega
   have hdt : d ≠ tb := by omega
   have hwg : w.heap.size ≠ gb := by have := HGB.out; omega
   have HDN := Lib.hid (show d ≠ mb ∧ d ≠ tb ∧ w.heap.size < w1.heap.size from ⟨hdm, hdt, by have := HZ1.out; omega⟩)
   have C5 := freshM_at (X := [mb, gb, tb, d]) HIS.out HRS.out ⟨op, (i : Int), (k : Int), (C : Int), m, s⟩ HX.out (k := k) rfl hk8 hN (fun q hq => by
    have l2 := HRS.out.lts
    have l3 := HY.out.1.lt
    simp only [List.mem_cons, List.not_mem_nil, or_false] at hq
    rcases hq with e | e | e | e <;> omega)
   unfold FrsP insVal at C5
   have zb := (HB1b.ext HY.out.2.2.2.2.1)
   have HZB := Lib.hid zb
   have z0 := zb.cells 0 _ rfl
   have z1 := zb.cells 1 _ rfl
   have z2 := zb.cells 2 _ rfl
   have z3 := zb.cells 3 _ rfl
   have z4 := zb.cells 4 _ rfl
   have z5 := zb.cells 5 _ rfl
   clear HB1a HB1b HB1c HB1d HW HC zb hye hny hfree hsame hTri hyk hdm hdt hdw hlt d0 d1 d2 d3
   (go_wp2_with fail; go_fit (C5); rintro e w5 ⟨F5, v5, rfl, i5, t5, n5, ht5⟩)
   obtain ⟨k5, m5n, s5, a5, m5, c5, rfl, f1, f2, f3, f4⟩ := four_of ht5
   have hk5 := tm_kind ht5
   obtain rfl : (2 : Int) = k5 := hk5.1
   obtain rfl : (0 : Int) = m5n := hk5.2.1
   obtain rfl : s = s5 := hk5.2.2.1
   obtain rfl : k = m5 := by have h9 : (freshL N k).length = m5 := hk5.2.2.2.1; rw [freshL_len] at h9; exact h9
   have HT5 := Lib.hid hk5.2.2.2.2
   have H5 := Lib.hid (And.intro i5 (And.intro t5 (And.intro n5 ht5)))
   clear i5 t5 n5 ht5 f1 f2 f3 f4 hk5 C5 z0 z1 z2 z3 z4 z5
   go_upto_region 6 with fail
   obtain ⟨w6, e6, b6, z6, X6⟩ := box_new w5 #[.int .i64 2, .int .i64 0, .string s, .slice a5 k c5] 31
   rw [e6]
   clear e6
   obtain ⟨tb7, htb7⟩ : ∃ q, w5.heap.size = q := ⟨_, rfl⟩
   rw [htb7] at X6 ⊢
   have HX6 := Lib.hid (And.intro b6 X6)
   clear X6 b6 z6
   obtain ⟨Vn, hVn⟩ : ∃ Vn, hide (awayB ([mb, gb, tb, d] ++ F5)) w5 = Vn := ⟨_, rfl⟩
   have haw : ∀ q, q ∈ [mb, gb, tb, d] ++ F5 → awayB ([mb, gb, tb, d] ++ F5) q = true := fun q hq => by unfold awayB; simpa using hq
   have hst : Stays V Vn := by
    rw [← hVn]
    refine ⟨by rw [hide_size]; exact H5.out.1.see.1.1, fun a0 v0 hv0 => ?_⟩
    have hblk := World.block_lt_of_cell? _ _ hv0
    have hVsz : V.heap.size ≤ w.heap.size := HVS.out
    rw [hide_cell _ _ _ (by
     unfold awayB
     rw [decide_eq_false_iff_not]
     intro hm
     rcases List.mem_append.1 hm with hm | hm
     ·simp only [List.mem_cons, List.not_mem_nil, or_false] at hm
      rcases hm with e | e | e | e
      ·have := HRS.out.blind a0 (by simp [e]); rw [hv0] at this; cases this
      ·have := HRS.out.blind a0 (by simp [e]); rw [hv0] at this; cases this
      ·have := HRS.out.blind a0 (by simp [e]); rw [hv0] at this; cases this
      ·have h8 := HY.out.2.2.2.2.2; have h9 := HDN.out.2.2; omega
     ·have := H5.out.1.see.2 a0 hm; rw [hv0] at this; cases this)]
    exact H5.out.1.see.1.2 _ _ hv0
   have hsn : Stays Vn w5 := by rw [← hVn]; exact Stays.unhide _ _
   have hbl : ∀ a0 : Addr, a0.block ∈ [mb, gb, tb, d] ++ F5 → Vn.cell? a0 = none := fun a0 ha0 => by rw [← hVn]; exact hide_gone _ _ _ (haw _ ha0)
   have hI5 : IsB Vn F5 w5 p (N + k) R := H5.out.1.from hst hsn (fun a0 ha0 => hbl a0 (List.mem_append_right _ ha0))
   have hr5 := HRS.out.touch H5.out.2.1 H5.out.2.2.1
   have hR5 : RunS Vn w5 F5 mb gb tb n S p regs sl := ⟨hr5.box, hr5.rrow.see hst, hr5.srow.see hst, hr5.apart, hr5.own, fun a0 ha0 => hbl a0 (List.mem_append_left _ (by simp only [List.mem_cons, List.not_mem_nil, or_false] at ha0 ⊢; rcases ha0 with e | e | e <;> simp [e])), hr5.len, hr5.size, hr5.goodr, hr5.goods⟩
   have hT5 : TmV Vn (nameT s (freshL N k)) (.agg #[.int .i64 2, .int .i64 0, .string s, .slice a5 k c5]) := by rw [← hVn]; exact H5.out.2.2.2
   have hdF : ¬ d ∈ F5 := fun hm => by
    rcases H5.out.2.2.1 _ hm with e | e
    ·have h9 := HDN.out.2.2; have h8 := HY.out.2.2.2.2.2; have h10 := HLF.out _ e; omega
    ·have := HY.out.1.lt; omega
   have hwF : ¬ w.heap.size ∈ F5 := fun hm => by
    rcases H5.out.2.2.1 _ hm with e | e
    ·have h10 := HLF.out _ e; omega
    ·have := HZB.out.lt; omega
   have hdF0 : ¬ d ∈ F := fun e => by have h10 := HLF.out _ e; have h8 := HY.out.2.2.2.2.2; have h9 := HDN.out.2.2; omega
   have hwF0 : ¬ w.heap.size ∈ F := fun e => by have h10 := HLF.out _ e; omega
   have hbd5 := H5.out.2.1.box hdF0 HY.out.1
   have hbz5 := H5.out.2.1.box hwF0 HZB.out
   have HN5 := Lib.hid (And.intro hst (And.intro hI5 (And.intro hR5 (And.intro hT5 (And.intro hdF (And.intro hwF (And.intro hbd5 (And.intro hbz5 (fun a0 ha0 => hbl a0 (List.mem_append_left _ ha0)))))))))) 
   have HT5n := Lib.hid (tm_kind hT5).2.2.2.2
   clear hst hsn hbl haw hVn hI5 hr5 hR5 hT5 hdF hwF hbd5 hbz5 hdF0 hwF0 HT5 q0 q1 q2 y0 y1 y2 y3 yf
   obtain ⟨t0, t1, t2, t3, tf⟩ := HX6.out.2.four
   obtain ⟨y0, y1, y2, y3, yf⟩ := (HN5.out.2.2.2.2.2.2.1.ext HX6.out.1).four
   obtain ⟨k0, k1, k2, kf⟩ := (HN5.out.2.2.1.ext HX6.out.1).box.three
   have HSet := Lib.hid (fun (wq : World) (hb : Below w6.heap.size w6 wq) => Set_at (HN5.out.2.1.ext (Ext.trans' HX6.out.1 hb)) (n := ny) (by have := HSB.out.2.1; unfold I64; omega) HN5.out.2.2.2.1)
   unfold SetPost at HSet
   rw [HSB.out.1] at HSet
   have hF6 : ∀ q ∈ F5, q < tb7 := fun q hq => by rw [← htb7]; exact H5.out.1.lt q hq
   have HF6 := Lib.hid hF6
   have hmF : ¬ mb ∈ F5 := HN5.out.2.2.1.own.1
   have htF : ¬ tb7 ∈ F5 := fun hm => by have := hF6 _ hm; omega
   have hdF : ¬ d ∈ F5 := HN5.out.2.2.2.2.1
   clear hF6
   refine wp_region_held_drew (S := fun wq => wq.cell? ⟨mb, 0, none⟩ = some p ∧ wq.cell? ⟨d, 1, none⟩ = some (.int .i64 ny) ∧ (wq.cell? ⟨tb7, 0, none⟩ = some (.int .i64 2) ∧ wq.cell? ⟨tb7, 1, none⟩ = some (.int .i64 0) ∧ wq.cell? ⟨tb7, 2, none⟩ = some (.string s) ∧ wq.cell? ⟨tb7, 3, none⟩ = some (.slice a5 k c5))) (by kernel_rfl) (⟨k0, y1, t0, t1, t2, t3⟩) (fun hHeld => ?_)
   first | (refine held_t (i := 0) hHeld ?_; constructor; constructor; intro wq hq; focus ((try dsimp only at hq); go_simp; first | done | with_reducible rfl | fail)) | refine held_s (i := 0) hHeld ?_ | fail
   first | (refine held_t (i := 1) hHeld ?_; constructor; constructor; intro wq hq; focus ((try dsimp only at hq); go_simp; first | done | with_reducible rfl | fail)) | refine held_s (i := 1) hHeld ?_ | fail
   first | (refine held_t (i := 2) hHeld ?_; constructor; constructor; intro wq hq; focus ((try dsimp only at hq); go_simp; first | done | with_reducible rfl | fail)) | refine held_s (i := 2) hHeld ?_ | fail
   first | (refine held_t (i := 3) hHeld ?_; constructor; constructor; intro wq hq; focus ((try dsimp only at hq); go_simp; first | done | with_reducible rfl | fail)) | refine held_s (i := 3) hHeld ?_ | fail
   first | (refine held_t (i := 4) hHeld ?_; constructor; constructor; intro wq hq; focus ((try dsimp only at hq); go_simp; first | done | with_reducible rfl | fail)) | refine held_s (i := 4) hHeld ?_ | fail
   first | (refine held_t (i := 5) hHeld ?_; constructor; constructor; intro wq hq; focus ((try dsimp only at hq); go_simp; first | done | with_reducible rfl | fail)) | refine held_s (i := 5) hHeld ?_ | fail
   first | (refine held_t (i := 6) hHeld ?_; constructor; constructor; intro wq hq; focus ((try dsimp only at hq); go_simp; first | done | with_reducible rfl | fail)) | refine held_s (i := 6) hHeld ?_ | fail
   try simp only [Act.put, lay4]
   refine held_c 7 fun K hK => ?_
   go_simp
   (go_at_call 118; refine (HSet.out _ (Below.refl _ _).drew).mono ?_; rintro e w7 ⟨F7, R7, rfl, i7, t7, n7, g7⟩; have H7 := Lib.hid (And.intro i7 (And.intro t7 (And.intro n7 g7))); clear i7 n7 g7)
   refine hK.out _ _ (⟨t7.cell hmF hHeld.1, t7.cell hdF hHeld.2.1, t7.cell htF hHeld.2.2.1, t7.cell htF hHeld.2.2.2.1, t7.cell htF hHeld.2.2.2.2.1, t7.cell htF hHeld.2.2.2.2.2⟩) (fun hHeld => ?_)
   clear hK K
   try simp only [Act.put, lay4]
   refine wpAnyH_done (by kernel_rfl) ?_ _
   have t5w : Touch F5 w5 w7 := ((Touch.of_below HX6.out.1 F5).trans (Touch.of_below (Below.refl _ _).drew F5) (fun q hq => Or.inl hq)).trans H7.out.2.1 (fun q hq => Or.inl hq)
   have hnew7 : ∀ q ∈ F7, q ∈ F5 ∨ w5.heap.size ≤ q := fun q hq => (H7.out.2.2.1 q hq).imp id (fun e => Nat.le_trans HX6.out.1.size e)
   have hdF7 : ¬ d ∈ F7 := fun hm => by
    rcases hnew7 _ hm with e | e
    ·exact hdF e
    ·have := HN5.out.2.2.2.2.2.2.1.lt; omega
   obtain ⟨y', hR7, hy'⟩ : ∃ y', R7 = (ny, y') :: R ∧ subT (fullB R) y' = subT (fullB R) (nameT s (freshL N k)) := by
    rcases H7.out.2.2.2 with ⟨_, y', e1, e2⟩ | ⟨e, _⟩
    ·exact ⟨y', e1, e2⟩
    ·exact absurd rfl e
   have hbd7 := t5w.box hdF HN5.out.2.2.2.2.2.2.1
   have hbt7 := (t7.box htF (HX6.out.2.ext (Below.refl _ _).drew))
   have hbz7 := t5w.box HN5.out.2.2.2.2.2.1 HN5.out.2.2.2.2.2.2.2.1
   have hR7s := (HN5.out.2.2.1.touch t5w hnew7)
   obtain ⟨u0, u1, u2, u3, uf⟩ := hbd7.four
   obtain ⟨t0, t1, t2, t3, tf⟩ := hbt7.four
   have t78 := touchM4 w7 d (.int .i64 2) (.int .i64 0) (.string s) (.slice a5 k c5)
   have hI8 : IsB Vn F7 (set4 w7 d (.int .i64 2) (.int .i64 0) (.string s) (.slice a5 k c5)) p (N + k) R7 :=
    H7.out.1.keep (fun q hq => t78.block q (H7.out.1.lt q hq) (fun hm => hdF7 (by rw [← List.mem_singleton.1 hm]; exact hq))) (H7.out.1.see.1.touch (F := [d]) (fun a0 ha0 => HN5.out.2.2.2.2.2.2.2.2 a0 (by have := List.mem_singleton.1 ha0; simp [this])) t78)
   have hR8 : RunS Vn (set4 w7 d (.int .i64 2) (.int .i64 0) (.string s) (.slice a5 k c5)) F7 mb gb tb n S p regs sl := by
    have hx : ¬ mb ∈ [d] ∧ ¬ gb ∈ [d] ∧ ¬ tb ∈ [d] := ⟨fun hm => HDN.out.1 (List.mem_singleton.1 hm).symm, fun hm => hdg (List.mem_singleton.1 hm).symm, fun hm => HDN.out.2.1 (List.mem_singleton.1 hm).symm⟩
    exact ⟨t78.box hx.1 hR7s.box, hR7s.rrow.touch t78 hx.2.1, hR7s.srow.touch t78 hx.2.2, hR7s.apart, hR7s.own, hR7s.blind, hR7s.len, hR7s.size, hR7s.goodr, hR7s.goods⟩
   have hwd : w.heap.size ≠ d := by have h8 := HY.out.2.2.2.2.2; have h9 := HDN.out.2.2; omega
   have hbz8 := t78.box (fun hm => hwd (List.mem_singleton.1 hm)) hbz7
   have hbd8 := boxAll4 hbd7 (.int .i64 2) (.int .i64 0) (.string s) (.slice a5 k c5)
   obtain ⟨qs, ao, c', hsl, hql, hqm, hqa, hbig, hsrc⟩ := HT5n.out.pairs
   have e5 : a5 = ao ∧ c5 = c' := by injection hsl with h1 h2 h3; exact ⟨h1, h3⟩
   obtain ⟨hao, hc'⟩ := e5
   subst hao hc'
   have hql2 : qs.length = k := by rw [hql]; exact freshL_len N k
   have HRS := Lib.hid (hR8.ext (Below.refl _ _).drew)
   have HIS8 := Lib.hid (hI8.ext (Below.refl _ _).drew)
   have HQ := Lib.hid (show regs.length + qs.length ≤ n ∧ (∀ u ∈ qs.flatMap pCells, u.oneCell' = true) ∧ (qs.length = 0 ∨ ∃ ad, a5 = some ad ∧ ∀ j u, (qs.flatMap pCells)[j]? = some u → (set4 w7 d (.int .i64 2) (.int .i64 0) (.string s) (.slice a5 k c5)).drew.cell? (ad.add j) = some u) ∧ 1 ≤ qs.length ∧ qs.length = k from
    ⟨by rw [HP.out.1, hql2]; exact hCn, pCells_one qs hqa, by rw [hql]; exact hsrc.imp id (fun ⟨ad, e, hc⟩ => ⟨ad, e, fun j u hj => HIS8.out.see.1.2 _ _ (hc j u hj)⟩), by omega, hql2⟩)
   have tW8 : Touch (gb :: F) w (set4 w7 d (.int .i64 2) (.int .i64 0) (.string s) (.slice a5 k c5)) := by
    have ta : Touch F w w5 := (Touch.of_below HBW.out F).trans H5.out.2.1 (fun q hq => Or.inl hq)
    have hszw : w.heap.size ≤ wc.heap.size := HBW.out.size
    have tb' : Touch F w w7 := ta.trans t5w (fun q hq => (H5.out.2.2.1 q hq).imp id (fun e => Nat.le_trans hszw e))
    have hd8 := HY.out.2.2.2.2.2
    have h9 := HDN.out.2.2
    exact (tb'.sub (fun q hq => List.mem_cons_of_mem _ hq)).trans t78 (fun q hq => Or.inr (by have := List.mem_singleton.1 hq; omega))
   have hnewF : ∀ q ∈ F7, q ∈ F ∨ w.heap.size ≤ q := fun q hq => by
    have hszw : w.heap.size ≤ wc.heap.size := HBW.out.size
    have hs5 : w.heap.size ≤ w5.heap.size := Nat.le_trans hszw H5.out.2.1.size
    rcases hnew7 q hq with e | e
    ·exact (H5.out.2.2.1 q e).imp id (fun e => Nat.le_trans hszw e)
    ·exact Or.inr (Nat.le_trans hs5 e)
   have FIN := Lib.hid (show CmpP V F w mb gb tb n S p N R regs sl r k s (.returned (.tuple #[.bool true, .int .i64 0])) ((set4 w7 d (.int .i64 2) (.int .i64 0) (.string s) (.slice a5 k c5)).drew.setCells gb (C * 4) (qs.flatMap pCells)) from
    ⟨Vn, F7, R7, N + k, HN5.out.1, HRS.out.keepI HIS8.out _ _, (tW8.trans (Touch.of_below (Below.refl _ _).drew []) (fun q hq => by cases hq)).trans (setCells_touch gb (qs.flatMap pCells) (C * 4) _) (fun q hq => Or.inl (by have := List.mem_singleton.1 hq; simp [this])), hnewF,
     Or.inr (Or.inr ⟨ny, y', rfl, rfl, HSB.out.2.1.1, HSB.out.2.1.2, HSB.out.2.2.1, HSB.out.2.2.2, hR7, hy', by
      have h9 := HRS.out.copy (qs := qs) HQ.out.1 hqa (fun q hq => by
       have hm : q.1 ∈ freshL N k := (show q.1 ∈ (nameT s (freshL N k)).args by rw [← hqm]; exact List.mem_map_of_mem hq)
       obtain ⟨j, hj, e⟩ := freshL_get hm
       rw [e]
       exact good_var (by omega) (by omega))
      rw [HP.out.1, hqm] at h9
      exact h9⟩)⟩)
   obtain ⟨w8, hw8⟩ : ∃ w8, set4 w7 d (.int .i64 2) (.int .i64 0) (.string s) (.slice a5 k c5) = w8 := ⟨_, rfl⟩
   rw [hw8] at FIN HRS HQ hbz8 hbd8 hR8
   unfold Go.Proofs.Ytchbbaehdcmcfaa.set4 Go.Proofs.Ytchbbaehdcmcfaa.set3 at hw8
   clear t5w hnew7 hdF7 hR7 hy' hbd7 hbt7 hbz7 hR7s t78 hI8 hsl hql hqm hqa hbig hsrc tW8 hnewF hHeld t7 hql2 HIS8
   go_upto_region 8 with fail
   (try rw [hw8])
   clear hw8 u0 u1 u2 u3 uf t0 t1 t2 t3 tf k0 k1 k2 kf y0 y1 y2 y3 yf
   obtain ⟨y0, y1, y2, y3, yf⟩ := hbd8.four
   have z2 := hbz8.cells 2 _ rfl
   have z3 := hbz8.cells 3 _ rfl
   have z5 := hbz8.cells 5 _ rfl
   have m1 := hR8.box.three.2.1
   clear hbz8 hbd8 hR8
   go_upto_region 10 with fail
   have HCR := Lib.hid (HRS.out.copyRun (qs := qs) (c := c5) HQ.out.1 HQ.out.2.1 HQ.out.2.2.1 HQ.out.2.2.2.1)
   have hmw : mb ≠ gb := HRS.out.apart.1
   refine wp_region_held_drew (S := fun wq => wq.cell? ⟨mb, 1, none⟩ = some (.slice (some ⟨gb, 0, none⟩) n n) ∧ wq.cell? ⟨w.heap.size, 3, none⟩ = some (.int .i64 C) ∧ wq.cell? ⟨d, 3, none⟩ = some (.slice a5 k c5)) (by kernel_rfl) ⟨m1, z3, y3⟩ (fun hHeld => ?_)
   have hcr := fun ty => HCR.out ty
   rw [HP.out.1, HQ.out.2.2.2.2] at hcr
   first | (refine held_t (i := 0) hHeld ?_; constructor; constructor; intro wq hq; focus ((try dsimp only at hq); go_simp; first | done | with_reducible rfl | fail)) | refine held_s (i := 0) hHeld ?_ | fail
   first | (refine held_t (i := 1) hHeld ?_; constructor; constructor; intro wq hq; focus ((try dsimp only at hq); go_simp; first | done | with_reducible rfl | fail)) | refine held_s (i := 1) hHeld ?_ | fail
   first | (refine held_t (i := 2) hHeld ?_; constructor; constructor; intro wq hq; focus ((try dsimp only at hq); go_simp; first | done | with_reducible rfl | fail)) | refine held_s (i := 2) hHeld ?_ | fail
   first | (refine held_t (i := 3) hHeld ?_; constructor; constructor; intro wq hq; focus ((try dsimp only at hq); go_simp; first | done | with_reducible rfl | fail)) | refine held_s (i := 3) hHeld ?_ | fail
   first | (refine held_t (i := 4) hHeld ?_; constructor; constructor; intro wq hq; focus ((try dsimp only at hq); go_simp; first | done | with_reducible rfl | fail)) | refine held_s (i := 4) hHeld ?_ | fail
   first | (refine held_t (i := 5) hHeld ?_; constructor; constructor; intro wq hq; focus ((try dsimp only at hq); go_simp; first | done | with_reducible rfl | fail)) | refine held_s (i := 5) hHeld ?_ | fail
   first | (refine held_t (i := 7) hHeld ?_; constructor; constructor; intro wq hq; focus ((try dsimp only at hq); go_simp; first | done | with_reducible rfl | fail)) | refine held_s (i := 7) hHeld ?_ | fail
   first | (refine held_t (i := 8) hHeld ?_; constructor; constructor; intro wq hq; focus ((try dsimp only at hq); go_simp; first | done | with_reducible rfl | fail)) | refine held_s (i := 8) hHeld ?_ | fail
   try simp only [Act.put, lay4]
   refine held_c 6 fun K hK => ?_
   go_simp
   (rw [if_pos (by omega : C ≤ n), if_neg (by omega : ¬ n = C)]; go_simp)
   refine hK.out _ _ (hHeld) (fun hHeld => ?_)
   clear hK K
   try simp only [Act.put, lay4]
   have tcp := setCells_touch gb (qs.flatMap pCells) (C * 4) w8.drew
   refine held_c 9 fun K hK => ?_
   go_simp
   skip
   refine hK.out _ _ (⟨tcp.cell (fun hm => hmw (List.mem_singleton.1 hm)) hHeld.1, tcp.cell (fun hm => hwg (List.mem_singleton.1 hm)) hHeld.2.1, tcp.cell (fun hm => hdg (List.mem_singleton.1 hm)) hHeld.2.2⟩) (fun hHeld => ?_)
   clear hK K
   try simp only [Act.put, lay4]
   refine wpAnyH_done (by kernel_rfl) ?_ _
   clear hHeld tcp hcr
   go_wp2
   go_ret2
   exact FIN.out
  ·have hk0' : (ky == 0) = false := beq_false_of_ne hk0
   obtain ⟨HB1a, HB1b, HB1c, HB1d⟩ := HB1.out
   have z2 := (HB1b.ext HY.out.2.2.2.2.1).cells 2 _ rfl
   have z3 := (HB1b.ext HY.out.2.2.2.2.1).cells 3 _ rfl
   have z5 := (HB1b.ext HY.out.2.2.2.2.1).cells 5 _ rfl
   have HRS := Lib.hid (HB1c.ext HY.out.2.2.2.2.1)
   have HIS := Lib.hid (HB1d.ext HY.out.2.2.2.2.1)
   have HBW := Lib.hid (Ext.trans' HB1a HY.out.2.2.2.2.1)
   have m1 := q1
   clear HB1a HB1b HB1c HB1d HW HC
   have hInN : InN N y := ⟨(good_parts HY.out.2.2.1.good).2.2, HY.out.2.2.1.rng⟩
   have HIN := Lib.hid (And.intro hInN HY.out.2.2.1.same)
   have NO := Lib.hid (fun (wq : World) (hb : Below wc.heap.size wc wq) (hno : ¬ (y.k = 2 ∧ y.s = s ∧ y.args.length = k)) => (show CmpP V F w mb gb tb n S p N R regs sl r k s (.returned (.tuple #[.bool false, .int .i64 0])) wq from
    ⟨V, F, R, N, Stays.refl V, HIS.out.ext hb, (Touch.of_below (Ext.trans' HBW.out hb) (gb :: F)), fun q hq => Or.inl hq, Or.inr (Or.inl ⟨y, rfl, rfl, rfl, HIN.out.1, HIN.out.2, by rw [hyk.1]; exact hk0, hno, HRS.out.ext hb⟩)⟩))
   have hym := hyk.2.2.2.1
   have hys := hyk.2.2.1
   have HYK := Lib.hid hyk
   clear hyk hInN
   by_cases hs : sy = s
   ·by_cases hm : my = k
    ·have hk2 : y.k = 2 := by
      rcases formed_kids HIN.out.1.1 with h | h | h
      ·exact absurd (h.1.symm.trans HYK.out.1).symm hk0
      ·exfalso
       have : y.args = [] := by rw [h.2]; rfl
       rw [this] at hym
       simp at hym
       omega
      ·exact h.1
     have hye : y = nameT s y.args := by
      rcases formed_kids HIN.out.1.1 with h | h | h
      ·omega
      ·omega
      ·rw [← hs, ← hys]; exact h.2
     obtain ⟨qs, ao, c', hsl, hql, hqm, hqa, hbig, hsrc⟩ := HYK.out.2.2.2.2.pairs
     obtain ⟨hao, hc'⟩ : ay = ao ∧ cy = c' := by injection hsl with h1 h2 h3; exact ⟨h1, h3⟩
     subst hao hc' hs hm
     have hql2 : qs.length = my := by rw [hql, hym]
     have HQ := Lib.hid (show regs.length + qs.length ≤ n ∧ (∀ u ∈ qs.flatMap pCells, u.oneCell' = true) ∧ (qs.length = 0 ∨ ∃ ad, ay = some ad ∧ ∀ j u, (qs.flatMap pCells)[j]? = some u → wc.drew.cell? (ad.add j) = some u) ∧ 1 ≤ qs.length ∧ qs.length = my from
      ⟨by rw [HP.out.1, hql2]; exact hCn, pCells_one qs hqa, by rw [hql]; exact hsrc.imp id (fun ⟨ad, e, hc⟩ => ⟨ad, e, fun j u hj => (HIS.out.ext (Below.refl _ _).drew).see.1.2 _ _ (hc j u hj)⟩), by omega, hql2⟩)
     have HQ2 := Lib.hid (And.intro hqm (And.intro hqa hye))
     have hwg : w.heap.size ≠ gb := by have := HB1.out.2.2.1.rrow.lt; have := HGB.out; omega
     have hdg : d ≠ gb := by have := HGB.out; have := HY.out.2.2.2.2.2; have := HZ1.out; omega
     replace HRS := Lib.hid (HRS.out.ext (Below.refl wc.heap.size wc).drew)
     have FIN := Lib.hid (show CmpP V F w mb gb tb n S p N R regs sl r my sy (.returned (.tuple #[.bool true, .int .i64 0])) (wc.drew.setCells gb (C * 4) (qs.flatMap pCells)) from
      ⟨V, F, R, N, Stays.refl V, HRS.out.keepI (HIS.out.ext (Below.refl _ _).drew) _ _, ((Touch.of_below (Ext.trans' HBW.out (Below.refl _ _).drew) (gb :: F)).trans (setCells_touch gb (qs.flatMap pCells) (C * 4) _) (fun q hq => Or.inl (by have := List.mem_singleton.1 hq; simp [this]))), fun q hq => Or.inl hq,
       Or.inl ⟨y.args, rfl, rfl, rfl, by rw [← hye]; exact HIN.out.1, by rw [← hye]; exact HIN.out.2, hym, by
        have h9 := HRS.out.copy (qs := qs) HQ.out.1 hqa (fun q hq => good_arg HY.out.2.2.1.good (by rw [← hqm]; exact List.mem_map_of_mem hq))
        rw [HP.out.1, hqm] at h9
        exact h9⟩⟩)
     clear hsl hql hqm hqa hbig hsrc hye hk2 hym hys hql2
     go_upto_region 10 with fail
     have HCR := Lib.hid (HRS.out.copyRun (qs := qs) (c := cy) HQ.out.1 HQ.out.2.1 HQ.out.2.2.1 HQ.out.2.2.2.1)
     have hmw : mb ≠ gb := HRS.out.apart.1
     refine wp_region_held_drew (S := fun wq => wq.cell? ⟨mb, 1, none⟩ = some (.slice (some ⟨gb, 0, none⟩) n n) ∧ wq.cell? ⟨w.heap.size, 3, none⟩ = some (.int .i64 C) ∧ wq.cell? ⟨d, 3, none⟩ = some (.slice ay my cy)) (by kernel_rfl) ⟨m1, z3, y3⟩ (fun hHeld => ?_)
     have hcr := fun ty => HCR.out ty
     rw [HP.out.1, HQ.out.2.2.2.2] at hcr
     first | (refine held_t (i := 0) hHeld ?_; constructor; constructor; intro wq hq; focus ((try dsimp only at hq); go_simp; first | done | with_reducible rfl | fail)) | refine held_s (i := 0) hHeld ?_ | fail
     first | (refine held_t (i := 1) hHeld ?_; constructor; constructor; intro wq hq; focus ((try dsimp only at hq); go_simp; first | done | with_reducible rfl | fail)) | refine held_s (i := 1) hHeld ?_ | fail
     first | (refine held_t (i := 2) hHeld ?_; constructor; constructor; intro wq hq; focus ((try dsimp only at hq); go_simp; first | done | with_reducible rfl | fail)) | refine held_s (i := 2) hHeld ?_ | fail
     first | (refine held_t (i := 3) hHeld ?_; constructor; constructor; intro wq hq; focus ((try dsimp only at hq); go_simp; first | done | with_reducible rfl | fail)) | refine held_s (i := 3) hHeld ?_ | fail
     first | (refine held_t (i := 4) hHeld ?_; constructor; constructor; intro wq hq; focus ((try dsimp only at hq); go_simp; first | done | with_reducible rfl | fail)) | refine held_s (i := 4) hHeld ?_ | fail
     first | (refine held_t (i := 5) hHeld ?_; constructor; constructor; intro wq hq; focus ((try dsimp only at hq); go_simp; first | done | with_reducible rfl | fail)) | refine held_s (i := 5) hHeld ?_ | fail
     first | (refine held_t (i := 7) hHeld ?_; constructor; constructor; intro wq hq; focus ((try dsimp only at hq); go_simp; first | done | with_reducible rfl | fail)) | refine held_s (i := 7) hHeld ?_ | fail
     first | (refine held_t (i := 8) hHeld ?_; constructor; constructor; intro wq hq; focus ((try dsimp only at hq); go_simp; first | done | with_reducible rfl | fail)) | refine held_s (i := 8) hHeld ?_ | fail
     try simp only [Act.put, lay4]
     refine held_c 6 fun K hK => ?_
     go_simp
     (rw [if_pos (by omega : C ≤ n), if_neg (by omega : ¬ n = C)]; go_simp)
     refine hK.out _ _ (hHeld) (fun hHeld => ?_)
     clear hK K
     try simp only [Act.put, lay4]
     have tcp := setCells_touch gb (qs.flatMap pCells) (C * 4) wc.drew
     refine held_c 9 fun K hK => ?_
     go_simp
     skip
     refine hK.out _ _ (⟨tcp.cell (fun hm => hmw (List.mem_singleton.1 hm)) hHeld.1, tcp.cell (fun hm => hwg (List.mem_singleton.1 hm)) hHeld.2.1, tcp.cell (fun hm => hdg (List.mem_singleton.1 hm)) hHeld.2.2⟩) (fun hHeld => ?_)
     clear hK K
     try simp only [Act.put, lay4]
     refine wpAnyH_done (by kernel_rfl) ?_ _
     clear hHeld tcp hcr
     go_wp2
     go_ret2
     exact FIN.out
    ·have hm' : ((my : Int) == (k : Int)) = false := by simp; omega
     go_wp2
     go_ret2
     exact NO.out _ (Below.refl _ _) (fun h => hm (by rw [← hym]; exact h.2.2))
   ·have hs' := op_ne hs
    go_wp2
    go_ret2
    exact NO.out _ (Below.refl _ _) (fun h => hs (by rw [← hys]; exact h.2.1))
end
end Go.Proofs.Ytchbbaehdcmcfaa
