import Derived.Test.YtchbbaehdcmcfaaHdtzz
import Derived.Test.YtchbbaehdcmcfaaHdtae
import Derived.Test.YtchbbaehdcmcfaaHdtaa
import Derived.Test.YtchbbaehdcmcfaaHdtac
import Derived.Test.YtchbbaehdcmcfaaHdtab
import Derived.Deep.RegionHeld3
import Derived.Deep.Quiet
import Derived.Deep.LoopGhost
import Derived.Test.YtchbbaehdcmcfaaHdtad
import Derived.Deep.QuietTactic
import Derived.Laws.ResultCell
set_option linter.unusedVariables false
set_option linter.unusedSimpArgs false
/- Package bind in memory: its block, its slots, its trail; given, Len, Mark. -/
namespace Go.Proofs.Ytchbbaehdcmcfaa
open Go.RowKit
set_option linter.unusedVariables false
abbrev SlP := Option TmP
def slCells : SlP → List Value
 | none => [.bool false, .int .i64 0, .int .i64 0, .string ⟨#[]⟩, .slice none 0 0]
 | some p => .bool true :: pCells p
theorem slCells_len (s : SlP) : (slCells s).length = 5 := by cases s <;> rfl
theorem infoSlot : (Try.prog.info? 112).map (fun i => (i.zero, i.size, i.bytes)) = some (some (.agg #[.bool false, .int .i64 0, .int .i64 0, .string ⟨#[]⟩, .slice none 0 0]), 5, 64) := by kernel_rfl
def Blind (V : World) (F : List Nat) : Prop := ∀ a : Addr, a.block ∈ F → V.cell? a = none
theorem Stays.later {V w w' : World} (h : Stays V w) (hb : Below w.heap.size w w') : Stays V w' :=
 ⟨Nat.le_trans h.1 hb.size, fun a v hv => by
  have hc := h.2 a v hv
  rw [World.cell?_of_block (hb.block _ (World.block_lt_of_cell? _ _ hc))]
  exact hc⟩
theorem Stays.touch {V w w' : World} {F : List Nat} (h : Stays V w) (hb : Blind V F) (ht : Touch F w w') : Stays V w' :=
 ⟨Nat.le_trans h.1 ht.size, fun a v hv => by
  have hc := h.2 a v hv
  rw [World.cell?_of_block (ht.block _ (World.block_lt_of_cell? _ _ hc) (fun hm => by rw [hb a hm] at hv; cases hv))]
  exact hc⟩
theorem Blind.new {V w : World} {F : List Nat} (h : Stays V w) (hF : ∀ k ∈ F, w.heap.size ≤ k) : Blind V F := fun a ha => by
  cases hc : V.cell? a with
  | none => rfl
  | some v =>
    have h1 := World.block_lt_of_cell? _ _ hc
    have h2 := hF _ ha
    have h3 := h.1
    omega
theorem Blind.some {V w : World} {F F' : List Nat} (h : Blind V F) (hs : Stays V w) (hF : ∀ k ∈ F', k ∈ F ∨ w.heap.size ≤ k) : Blind V F' := fun a ha => by
 rcases hF _ ha with h1 | h1
 ·exact h a h1
 ·exact Blind.new (F := [a.block]) hs (fun k hk => by simp at hk; subst hk; exact h1) a (by simp)
structure SlOK (V : World) (R : List (Int × Tm)) (sl : List SlP) : Prop where
 free : ∀ i : Nat, i < sl.length → getB R i = none → sl[i]? = some none
 held : ∀ (i : Nat) (t : Tm), getB R i = some t → ∃ u, sl[i]? = some (some (t, u)) ∧ TmV V t (pVal (t, u))
def trailV (R : List (Int × Tm)) : List Value := R.reverse.map (fun p => Value.int .i64 p.1)
def IsB (V : World) (F : List Nat) (w : World) (p : Value) (N : Nat) (R : List (Int × Tm)) : Prop :=
  ∃ bt v q G sl, p = .pointer (some ⟨bt, 0, none⟩) ∧ F = bt :: (v.ownBlock.toList ++ G) ∧ v.ownBlock ≠ some bt ∧ ¬ bt ∈ G ∧ (∀ k, v.ownBlock = some k → ¬ k ∈ G) ∧
    w.heap[bt]? = some (.cells #[v, q] 110 (0, 0)) ∧ sl.length = N ∧ w.ownsRow 0 112 5 v N (sl.flatMap slCells) ∧ StkL G w q 65536 (trailV R) ∧ SlOK V R sl ∧ Tri N R ∧ N ≤ 65536 ∧ Stays V w ∧ Blind V F
section
variable {V w : World} {F : List Nat} {p : Value} {N : Nat} {R : List (Int × Tm)}
theorem IsB.tri (h : IsB V F w p N R) : Tri N R ∧ N ≤ 65536 := by
 obtain ⟨bt, v, q, G, sl, rfl, rfl, h1, h2, h3, h4, h5, h6, h7, h8, h9, h10, h11, h12⟩ := h
 exact ⟨h9, h10⟩
theorem IsB.see (h : IsB V F w p N R) : Stays V w ∧ Blind V F := by
 obtain ⟨bt, v, q, G, sl, rfl, rfl, h1, h2, h3, h4, h5, h6, h7, h8, h9, h10, h11, h12⟩ := h
 exact ⟨h11, h12⟩
theorem IsB.lt (h : IsB V F w p N R) : ∀ k ∈ F, k < w.heap.size := by
 obtain ⟨bt, v, q, G, sl, rfl, rfl, h1, h2, h3, h4, h5, h6, h7, h8, h9, h10, h11, h12⟩ := h
 intro k hk
 simp only [List.mem_cons, List.mem_append, Option.mem_toList] at hk
 rcases hk with rfl | hk | hk
 ·exact (Array.getElem?_eq_some_iff.1 h4).1
 ·exact (h6.lt k hk).2
 ·exact h7.lt k hk
theorem IsB.keep {w' : World} (h : IsB V F w p N R) (hb : ∀ k ∈ F, w'.heap[k]? = w.heap[k]?) (hs : Stays V w') : IsB V F w' p N R := by
 obtain ⟨bt, v, q, G, sl, rfl, rfl, h1, h2, h3, h4, h5, h6, h7, h8, h9, h10, h11, h12⟩ := h
 exact ⟨bt, v, q, G, sl, rfl, rfl, h1, h2, h3, (hb bt (by simp)).trans h4, h5, owns_row_block h6 (fun k hk => hb k (by simp [hk])), h7.keep (fun k hk => hb k (by simp [hk])), h8, h9, h10, hs, h12⟩
theorem IsB.ext {w' : World} (h : IsB V F w p N R) (hb : Below w.heap.size w w') : IsB V F w' p N R := h.keep (fun k hk => hb.block k (h.lt k hk)) (h.see.1.later hb)
theorem IsB.from {V' : World} (h : IsB V F w p N R) (hv : Stays V V') (hs : Stays V' w) (hb : Blind V' F) : IsB V' F w p N R := by
 obtain ⟨bt, v, q, G, sl, rfl, rfl, h1, h2, h3, h4, h5, h6, h7, h8, h9, h10, h11, h12⟩ := h
 exact ⟨bt, v, q, G, sl, rfl, rfl, h1, h2, h3, h4, h5, h6, h7, ⟨h8.free, fun i t hi => by
  obtain ⟨u, e1, e2⟩ := h8.held i t hi
  exact ⟨u, e1, TmV.stay hv _ _ e2⟩⟩, h9, h10, hs, hb⟩
theorem IsB.open (h : IsB V F w p N R) : ∃ bt a c bs, p = .pointer (some ⟨bt, 0, none⟩) ∧ bt < w.heap.size ∧ w.cell? ⟨bt, 0, none⟩ = some (.slice a N c) ∧ w.cell? ⟨bt, 1, none⟩ = some (.pointer (some ⟨bs, 0, none⟩)) ∧ N ≤ c ∧ c ≤ maxLen ∧
    ∀ n : Nat, n < N → ∃ g, a = some ⟨g, 0, none⟩ ∧ ((getB R n = none ∧ w.cell? ⟨g, n * 5, none⟩ = some (.bool false)) ∨
      ∃ t k m s au l cu, getB R n = some t ∧ w.cell? ⟨g, n * 5, none⟩ = some (.bool true) ∧ w.cell? ⟨g, n * 5 + 1, none⟩ = some (.int .i64 k) ∧ w.cell? ⟨g, n * 5 + 2, none⟩ = some (.int .i64 m) ∧ w.cell? ⟨g, n * 5 + 3, none⟩ = some (.string s) ∧ w.cell? ⟨g, n * 5 + 4, none⟩ = some (.slice au l cu) ∧ TmV V t (.agg #[.int .i64 k, .int .i64 m, .string s, .slice au l cu])) := by
  obtain ⟨bt, v, q, G, sl, rfl, rfl, h1, h2, h3, h4, h5, h6, h7, h8, h9, h10, h11, h12⟩ := h
  obtain ⟨bs, hq⟩ : ∃ bs, q = .pointer (some ⟨bs, 0, none⟩) := by obtain ⟨bs, _, rfl, _⟩ := h7; exact ⟨bs, rfl⟩
  subst hq
  have hr := h6
  rw [← h5] at hr
  have hel := Elems.owned slCells_len hr
  obtain ⟨a, c, rfl, e1, e2, e3⟩ := hel
  rw [h5] at e1 h4
  refine ⟨bt, a, c, bs, rfl, (Array.getElem?_eq_some_iff.1 h4).1, by simp [blk_cell h4], by simp [blk_cell h4], e1, e2, fun n hn => ?_⟩
  rcases e3 with rfl | ⟨b, off, rfl, hb, hc⟩
  · simp at h5; omega
  · have ho : off = 0 := by
      rcases h6.2 with ⟨e, _⟩ | ⟨g, cap, cur, e, _⟩
      · cases e
      · cases e; rfl
    subst ho
    refine ⟨b, rfl, ?_⟩
    cases hg : getB R n with
    | none =>
      left
      have := hc n none (h8.free n (by omega) hg) 0 (.bool false) rfl
      rw [Nat.zero_add] at this
      exact ⟨rfl, this⟩
    | some t =>
      right
      obtain ⟨u, s1, s2⟩ := h8.held n t hg
      obtain ⟨k, m, s, au, l, cu, hv⟩ := s2.full
      have hv' := hv
      simp only [pVal, Value.agg.injEq] at hv'
      have h2' := congrArg Array.toList hv'
      simp only [List.cons.injEq, and_true] at h2'
      obtain ⟨q0, q1, q2, rfl⟩ := h2'
      rw [hv] at s2
      have g0 := hc n _ s1 0 (.bool true) rfl
      have g1 := hc n _ s1 1 _ rfl
      have g2 := hc n _ s1 2 _ rfl
      have g3 := hc n _ s1 3 _ rfl
      have g4 := hc n _ s1 4 _ rfl
      rw [q0] at g1
      rw [q1] at g2
      rw [q2] at g3
      simp only [Nat.zero_add, Nat.add_zero] at g0 g1 g2 g3 g4
      exact ⟨t, k, m, s, au, l, cu, rfl, g0, g1, g2, g3, g4, s2⟩
theorem given_at (h : IsB V F w p N R) (n : Int) (hn : I64 n) : Calls Try.prog 98 #[p, .int .i64 n] w fun e w' => e = .returned (.bool (decide (0 ≤ n) && decide (n < N))) ∧ w = w' := by
 have hN := h.tri.2
 obtain ⟨bt, a, c, bs, rfl, hlt, c0, c1, h1, h2, hs⟩ := h.open
 clear hs h
 unfold I64 at hn
 by_cases g : 0 ≤ n
 ·by_cases g2 : n < N
  ·have hr : (decide (0 ≤ n) && decide (n < N)) = true := by simp [g, g2]
   rw [hr]
   go_enter Try.func98, Try.ntmps98
   go_wp2
   go_ret
   exact ⟨rfl, rfl⟩
  ·have hr : (decide (0 ≤ n) && decide (n < N)) = false := by simp [g2]
   rw [hr]
   have g3 : decide (n < N) = false := by simpa using g2
   go_enter Try.func98, Try.ntmps98
   go_wp2
   go_ret
   exact ⟨rfl, rfl⟩
 ·have hr : (decide (0 ≤ n) && decide (n < N)) = false := by simp [g]
  rw [hr]
  go_enter Try.func98, Try.ntmps98
  go_wp2
  go_ret
  exact ⟨rfl, rfl⟩
theorem Len_at (h : IsB V F w p N R) : Calls Try.prog 139 #[p] w fun e w' => e = .returned (.int .i64 N) ∧ w = w' := by
 obtain ⟨bt, a, c, bs, rfl, hlt, c0, c1, h1, h2, hs⟩ := h.open
 clear hs h
 go_enter Try.func139, Try.ntmps139
 go_wp2
 go_ret
 exact ⟨rfl, rfl⟩
theorem Mark_at (h : IsB V F w p N R) : Calls Try.prog 25 #[p] w fun e w' => e = .returned (.int .i64 R.length) ∧ w = w' := by
 have hM : ∀ bt a c bs, p = .pointer (some ⟨bt, 0, none⟩) → w.cell? ⟨bt, 0, none⟩ = some (.slice a N c) → w.cell? ⟨bt, 1, none⟩ = some (.pointer (some ⟨bs, 0, none⟩)) → ∃ G, StkL G w (.pointer (some ⟨bs, 0, none⟩)) 65536 (trailV R) := by
  intro bt a c bs e e0 e1
  obtain ⟨bt, v, q, G, sl, rfl, rfl, h1, h2, h3, h4, h5, h6, h7, _⟩ := h
  cases e
  have : w.cell? ⟨bt, 1, none⟩ = some q := by simp [blk_cell h4]
  rw [e1] at this
  cases this
  exact ⟨G, h7⟩
 obtain ⟨bt, a, c, bs, rfl, hlt, c0, c1, h1, h2, hs⟩ := h.open
 obtain ⟨G, hG⟩ := hM _ _ _ _ rfl c0 c1
 have hl : (trailV R).length = R.length := by simp [trailV]
 have M := markL hG
 rw [hl] at M
 clear hs h hM hG hl
 go_enter Try.func25, Try.ntmps25
 (go_wp2_with fail; go_fit (M); rintro e w' ⟨rfl, rfl⟩)
 go_wp2
 go_ret
 exact ⟨rfl, rfl⟩
end
end Go.Proofs.Ytchbbaehdcmcfaa
/- Package bind: stands, Walk. -/
namespace Go.Proofs.Ytchbbaehdcmcfaa
open Go.RowKit
set_option linter.unusedVariables false
section
variable {V w : World} {F : List Nat} {p : Value} {N : Nat} {R : List (Int × Tm)}
set_option maxHeartbeats 2000000 in
theorem stands_not {k n : Int} {s : ByteArray} {u : Value} (hk : ¬ k = 0) (p : Value) (w : World) : Calls Try.prog 122 #[p, .agg #[.int .i64 k, .int .i64 n, .string s, u]] w fun e w' => e = .returned (.bool false) ∧ Below w.heap.size w w' := by
 have hk' : (k == 0) = false := beq_false_of_ne hk
 go_enter Try.func122, Try.ntmps122
 go_wp2_with fail
 go_quiet (fail)
 go_wp2
 go_ret
 exact ⟨rfl, belN (bel1' w _) _⟩
set_option maxHeartbeats 2000000 in
theorem stands_var (h : IsB V F w p N R) (n : Nat) (hn : n < N) (a : Option Addr) (c : Nat) : Calls Try.prog 122 #[p, .agg #[.int .i64 0, .int .i64 n, .string ⟨#[]⟩, .slice a 0 c]] w fun e w' => e = .returned (.bool (getB R n).isSome) ∧ Below w.heap.size w w' := by
 have hN := h.tri.2
 have HG := Lib.hid (fun wq (hb : Below w.heap.size w wq) => given_at (h.ext hb) (n : Int) (by unfold I64; omega))
 have hr : (decide ((0 : Int) ≤ n) && decide ((n : Int) < N)) = true := by simp [hn]
 obtain ⟨bt, av, cv, bs, rfl, hlt, c0, c1, h1, h2, hs⟩ := h.open
 obtain ⟨g, rfl, hsl⟩ := hs n hn
 clear hs
 have d0 := fun o => Lib.cell?_alloc_some o c0
 rw [hr] at HG
 have he : ((⟨#[]⟩ : ByteArray).toList == []) = true := by rw [Lib.toList_data]; rfl
 rcases hsl with ⟨hg, e0⟩ | ⟨t, k, m, s, au, l, cu, hg, e0, _⟩
 ·rw [hg]
  have e1 := fun o => Lib.cell?_alloc_some o e0
  clear h hr hg c0 c1 e0
  go_enter Try.func122, Try.ntmps122
  go_wp2_with fail
  (refine wp_region_class (fun w' => (w'.cell? ⟨bt, 0, none⟩ = some (.slice (some ⟨g, 0, none⟩) N cv) ∧ w'.cell? ⟨g, n * 5, none⟩ = some (.bool false) ∧ w'.cell? ⟨w.heap.size, 0, none⟩ = some (.int .i64 0) ∧ w'.cell? ⟨w.heap.size, 1, none⟩ = some (.int .i64 n) ∧ w'.cell? ⟨w.heap.size, 2, none⟩ = some (.string ⟨#[]⟩) ∧ w'.cell? ⟨w.heap.size, 3, none⟩ = some (.slice a 0 c)) ∧ Below w.heap.size w w') (by kernel_rfl) (by kernel_rfl) (⟨⟨d0 _, e1 _, by simp, by simp, by simp, by simp⟩, (bel1' w _).drew⟩) ?_; (repeat (first | go_big_quiet_skip | (go_big_quiet_want; refine quiet_of ?_; apply Exists.intro; refine ⟨fun wq hq => ?_, ?_⟩; (focus ((try dsimp only at hq); go_simp; (first | done | with_reducible rfl | ((go_at_call 98; refine (HG.out wq hq.2).mono ?_; rintro e w6 ⟨rfl, rfl⟩; exact ⟨rfl, hq⟩)) | fail))); try simp only [Act.put, lay4]; go_big_quiet_on) | fail)); refine wpQuiet_nil ?_; intro wz hz)
  go_wp2
  go_ret
  exact ⟨rfl, hz.2⟩
 ·rw [hg]
  have e1 := fun o => Lib.cell?_alloc_some o e0
  clear h hr hg c0 c1 e0
  go_enter Try.func122, Try.ntmps122
  go_wp2_with fail
  (refine wp_region_class (fun w' => (w'.cell? ⟨bt, 0, none⟩ = some (.slice (some ⟨g, 0, none⟩) N cv) ∧ w'.cell? ⟨g, n * 5, none⟩ = some (.bool true) ∧ w'.cell? ⟨w.heap.size, 0, none⟩ = some (.int .i64 0) ∧ w'.cell? ⟨w.heap.size, 1, none⟩ = some (.int .i64 n) ∧ w'.cell? ⟨w.heap.size, 2, none⟩ = some (.string ⟨#[]⟩) ∧ w'.cell? ⟨w.heap.size, 3, none⟩ = some (.slice a 0 c)) ∧ Below w.heap.size w w') (by kernel_rfl) (by kernel_rfl) (⟨⟨d0 _, e1 _, by simp, by simp, by simp, by simp⟩, (bel1' w _).drew⟩) ?_; (repeat (first | go_big_quiet_skip | (go_big_quiet_want; refine quiet_of ?_; apply Exists.intro; refine ⟨fun wq hq => ?_, ?_⟩; (focus ((try dsimp only at hq); go_simp; (first | done | with_reducible rfl | ((go_at_call 98; refine (HG.out wq hq.2).mono ?_; rintro e w6 ⟨rfl, rfl⟩; exact ⟨rfl, hq⟩)) | fail))); try simp only [Act.put, lay4]; go_big_quiet_on) | fail)); refine wpQuiet_nil ?_; intro wz hz)
  go_wp2
  go_ret
  exact ⟨rfl, hz.2⟩
end
end Go.Proofs.Ytchbbaehdcmcfaa
/- Package bind: Walk. -/
namespace Go.Proofs.Ytchbbaehdcmcfaa
open Go.RowKit
set_option linter.unusedVariables false
structure Wk (N : Nat) (R : List (Int × Tm)) (x y : Tm) : Prop where
 same : subT (fullB R) y = subT (fullB R) x
 good : goodT y = true
 rng : ∀ m ∈ occT y, 0 ≤ m ∧ m < N
def topB (R : List (Int × Tm)) (y : Tm) : Prop := y.k = 0 → getB R y.n = none
def hgt (r : Int → Nat) (y : Tm) : Nat := if y.k = 0 then r y.n + 1 else 0
theorem hgt_less {R : List (Int × Tm)} {r : Int → Nat} (hr : ∀ p ∈ R, ∀ j ∈ occT p.2, r j < r p.1) {n : Int} {t : Tm} (h : getB R n = some t) : hgt r t < r n + 1 := by
  cases t with
  | mk k m s ts =>
    unfold hgt
    by_cases hk : k = 0
    · subst hk
      have := hr _ (get_mem h) m (by rw [occ_var]; simp)
      show (if (0 : Int) = 0 then r m + 1 else 0) < r n + 1
      rw [if_pos rfl]
      show r m + 1 < r n + 1
      have h2 : r m < r n := this
      omega
    · have : (Tm.mk k m s ts).k ≠ 0 := hk
      rw [if_neg this]
      omega
theorem Wk.step {N : Nat} (hN : N ≤ 65536) {R : List (Int × Tm)} (hT : Tri N R) {x : Tm} {n : Int} {t : Tm} (h : Wk N R x (varV n)) (hg : getB R n = some t) : Wk N R x t := by
 have hm := get_mem hg
 have h1 := hT.mem hm
 refine ⟨?_, h1.2.2.1, h1.2.2.2⟩
 rw [← h.same, sub_varV]
 exact (full_mem hN hT hm).symm
section
variable {V w : World} {F : List Nat} {p : Value} {N : Nat} {R : List (Int × Tm)}
set_option maxHeartbeats 4000000 in
theorem Walk_at (h : IsB V F w p N R) {x : Tm} {v : Value} (hv : TmV V x v) (hg : goodT x = true) (ho : ∀ m ∈ occT x, 0 ≤ m ∧ m < N) :
    Calls Try.prog 99 #[p, v] w fun e w' => ∃ y v', e = .returned v' ∧ TmV V y v' ∧ Wk N R x y ∧ topB R y ∧ Below w.heap.size w w' := by
  obtain ⟨hT, hN⟩ := h.tri
  obtain ⟨r, hr⟩ := high hN hT
  obtain ⟨bt, av, cv, bs, rfl, hlt, c0, c1, h1, h2, hs⟩ := h.open
  obtain ⟨kx, nx, sx, ax, mx, cx, rfl, fk, fn, fs, fv⟩ := four_of hv
  clear fs fv
  obtain ⟨w1, e1, B1, z1, X1⟩ := box_new w #[.int .i64 kx, .int .i64 nx, .string sx, .slice ax mx cx] 31
  obtain ⟨w2, e2, B2, z2, X2⟩ := box_new w1 #[.int .i64 0, .int .i64 0, .string ⟨#[]⟩, .slice none 0 0] 31
  have X1 := X1.ext B2
  rw [z1] at X2
  have HB := Lib.hid (h)
  have HX := Lib.hid (show (TmV V x (.agg #[.int .i64 kx, .int .i64 nx, .string sx, .slice ax mx cx])) ∧ Wk N R x x ∧ (∀ p ∈ R, ∀ j ∈ occT p.2, r j < r p.1) from ⟨hv, ⟨rfl, hg, ho⟩, hr⟩)
  have HW := Lib.hid (show Below w.heap.size w w2 from Ext.trans' B1 B2)
  have HS := Lib.hid hs
  have HB2 := Lib.hid (And.intro X1 X2)
  have HT := Lib.hid (And.intro hT hN)
  have HC := Lib.hid (And.intro c0 hlt)
  have HK := Lib.hid (And.intro fk fn)
  clear hs h hv hg ho hr B1 B2 X1 X2 hT hN z2 c0 c1 h1 h2 fk fn
  go_enter Try.func99, Try.ntmps99
  go_wp2_with fail
  (try rw [e1])
  (try rw [e2])
  clear e1 e2 z1
  go_loopg [] (hgt r x) (fun g wr => ∃ (y : Tm) (k n : Int) (s : ByteArray) (a : Option Addr) (m c : Nat), TmV V y (.agg #[.int .i64 k, .int .i64 n, .string s, .slice a m c]) ∧ (y.k = k ∧ y.n = n) ∧ Wk N R x y ∧ g = hgt r y ∧ Below w.heap.size w wr ∧ Box wr w.heap.size [.int .i64 k, .int .i64 n, .string s, .slice a m c] ∧ Box wr (w.heap.size + 1) [.int .i64 0, .int .i64 0, .string ⟨#[]⟩, .slice none 0 0])
  case atStart => exact ⟨x, kx, nx, sx, ax, mx, cx, HX.out.1, HK.out, HX.out.2.1, rfl, HW.out, HB2.out.1, HB2.out.2⟩
  case round =>
    obtain ⟨y, k, n, s, a, m, c, hy, ⟨hyk, hyn⟩, hwk, hgk, hbw, hbx, hbz⟩ := hrel
    by_cases hk : k = 0
    · subst hk
      obtain ⟨yk, yn, ys, yt⟩ := y
      cases (show yk = 0 from hyk)
      cases (show yn = n from hyn)
      have hf := (good_parts hwk.good).2.2
      obtain ⟨hvar, hn0, hn1⟩ := formed_var hf
      have hrg := hwk.rng n (by rw [occ_var]; simp)
      obtain ⟨i, rfl⟩ : ∃ i : Nat, n = i := ⟨n.toNat, by omega⟩
      rw [hvar] at hy hwk hgk
      have hiN : i < N := by omega
      obtain ⟨u, hu, _, _, _, hU⟩ := tmV_iff.1 (show TmV V (.mk 0 i ⟨#[]⟩ []) _ from hy)
      obtain ⟨a', c', rfl, _⟩ := hU.len
      simp only [Value.agg.injEq] at hu
      have hu' := congrArg Array.toList hu
      simp only [List.cons.injEq, and_true, true_and, Value.string.injEq, Value.slice.injEq, List.length_nil] at hu'
      obtain ⟨rfl, rfl, rfl, rfl⟩ := hu'
      have C := stands_var (HB.out.ext hbw) i hiN a c
      obtain ⟨x0, x1, x2, x3, xf⟩ := hbx.four
      cases hgt' : getB R i with
      | none =>
        rw [hgt'] at C
        have HY := Lib.hid (show TmV V (varV i) (.agg #[.int .i64 0, .int .i64 i, .string ⟨#[]⟩, .slice a 0 c]) ∧ Wk N R x (varV i) ∧ topB R (varV i) from ⟨hy, hwk, fun _ => hgt'⟩)
        have HBW := Lib.hid hbw
        have HZ := Lib.hid hbz
        have HXX := Lib.hid hbx
        clear hu hU hvar hf hrg hy hwk hgk hbw hbx hbz hgt' hn0 hn1 hyk hyn
        go_wp2_with fail
        go_fit (C)
        rintro e w6 ⟨rfl, b6⟩
        obtain ⟨d0, d1, d2, d3, df⟩ := (HXX.out.ext b6).four
        obtain ⟨z0, z1, z2, z3, zf⟩ := (HZ.out.ext b6).four
        have HB6 := Lib.hid (HBW.out.trans (b6.mono HBW.out.size))
        clear b6 x0 x1 x2 x3 xf
        go_wp2
        refine bodyPost_ret (v := .agg #[.int .i64 0, .int .i64 i, .string ⟨#[]⟩, .slice a 0 c]) (by rw [results_cell1 rfl]; go_simp) rfl ⟨varV i, _, rfl, HY.out.1, HY.out.2.1, HY.out.2.2, ?_⟩
        exact Below.set4 HB6.out (by omega) _ _ _ _
      | some t =>
        rw [hgt'] at C
        obtain ⟨g, rfl, hsl⟩ := HS.out i hiN
        rcases hsl with ⟨hno, _⟩ | ⟨t', tk, tm, tsn, ta, tl, tc, ht', s0, s1, s2, s3, s4, htm⟩
        · rw [hno] at hgt'; cases hgt'
        rw [hgt'] at ht'
        cases ht'
        obtain ⟨q1, q2, q3, q4, q5, q6, hq, hqk, hqn, hqs, hqv⟩ := four_of htm
        simp only [Value.agg.injEq] at hq
        have hq' := congrArg Array.toList hq
        simp only [List.cons.injEq, and_true, true_and, Value.int.injEq, Value.string.injEq, Value.slice.injEq] at hq'
        obtain ⟨rfl, rfl, rfl, rfl, rfl, rfl⟩ := hq'
        have HY := Lib.hid (show TmV V t (.agg #[.int .i64 tk, .int .i64 tm, .string tsn, .slice ta tl tc]) ∧ (t.k = tk ∧ t.n = tm) ∧ Wk N R x t ∧ hgt r t < hgt r (varV i) from ⟨htm, ⟨hqk, hqn⟩, Wk.step HT.out.2 HT.out.1 hwk hgt', hgt_less HX.out.2.2 hgt'⟩)
        have HBW := Lib.hid hbw
        have HZ := Lib.hid hbz
        have HXX := Lib.hid hbx
        have HG := Lib.hid hgk
        have S0 := Lib.hid (And.intro s1 (And.intro s2 (And.intro s3 s4)))
        clear hu hU hvar hf hrg hy hwk hgk hbw hbx hbz hgt' hn0 hn1 hyk hyn hq hqk hqn hqs hqv htm s0 s1 s2 s3 s4
        go_wp2_with fail
        go_fit (C)
        rintro e w6 ⟨rfl, b6⟩
        obtain ⟨d0, d1, d2, d3, df⟩ := (HXX.out.ext b6).four
        have HB6 := Lib.hid (HBW.out.trans (b6.mono HBW.out.size))
        have g0 := cell_later HB6.out HC.out.1
        have g1 := cell_later HB6.out S0.out.1
        have g2 := cell_later HB6.out S0.out.2.1
        have g3 := cell_later HB6.out S0.out.2.2.1
        have g4 := cell_later HB6.out S0.out.2.2.2
        have HX6 := Lib.hid (And.intro (HXX.out.ext b6) (HZ.out.ext b6))
        clear b6 x0 x1 x2 x3 xf
        go_wp2_with fail
        go_region
        go_wp2
        go_roundg (hgt r t)
        case measure => rw [HG.out]; exact HY.out.2.2.2
        case rel =>
          have hb4 : Below w.heap.size w (set4 w6 w.heap.size (.int .i64 tk) (.int .i64 tm) (.string tsn) (.slice ta tl tc)) := Below.set4 HB6.out (Nat.le_refl _) _ _ _ _
          have hx4 : Box (set4 w6 w.heap.size (.int .i64 tk) (.int .i64 tm) (.string tsn) (.slice ta tl tc)) w.heap.size [.int .i64 tk, .int .i64 tm, .string tsn, .slice ta tl tc] :=
            (((HX6.out.1.set (k := 0) (by simp)).set (k := 1) (by simp)).set (k := 2) (by simp)).set (k := 3) (by simp)
          have hz4 : Box (set4 w6 w.heap.size (.int .i64 tk) (.int .i64 tm) (.string tsn) (.slice ta tl tc)) (w.heap.size + 1) _ := (((HX6.out.2.far (c := w.heap.size) (by omega)).far (by omega)).far (by omega)).far (by omega)
          exact ⟨t, tk, tm, tsn, ta, tl, tc, HY.out.1, HY.out.2.1, HY.out.2.2.1, rfl, hb4.drew, hx4.ext (Below.refl _ _).drew, hz4.ext (Below.refl _ _).drew⟩
    · have C := stands_not (n := n) (s := s) (u := .slice a m c) hk (.pointer (some ⟨bt, 0, none⟩)) wr
      have HY := Lib.hid (show TmV V y (.agg #[.int .i64 k, .int .i64 n, .string s, .slice a m c]) ∧ Wk N R x y ∧ topB R y from ⟨hy, hwk, fun h => absurd (hyk.symm.trans h) hk⟩)
      obtain ⟨x0, x1, x2, x3, xf⟩ := hbx.four
      have HBW := Lib.hid hbw
      have HZ := Lib.hid hbz
      have HXX := Lib.hid hbx
      clear hy hwk hgk hbw hbx hbz hyk hyn hk
      go_wp2_with fail
      go_fit (C)
      rintro e w6 ⟨rfl, b6⟩
      obtain ⟨d0, d1, d2, d3, df⟩ := (HXX.out.ext b6).four
      obtain ⟨z0, z1, z2, z3, zf⟩ := (HZ.out.ext b6).four
      have HB6 := Lib.hid (HBW.out.trans (b6.mono HBW.out.size))
      clear b6 x0 x1 x2 x3 xf
      go_wp2
      refine bodyPost_ret (v := .agg #[.int .i64 k, .int .i64 n, .string s, .slice a m c]) (by rw [results_cell1 rfl]; go_simp) rfl ⟨y, _, rfl, HY.out.1, HY.out.2.1, HY.out.2.2, ?_⟩
      exact Below.set4 HB6.out (by omega) _ _ _ _
end
end Go.Proofs.Ytchbbaehdcmcfaa
/- Package term: Vars. -/
namespace Go.Proofs.Ytchbbaehdcmcfaa
open Go.RowKit
set_option linter.unusedVariables false
theorem cell_one_new' {w : World} (o : Obj) (v : Value) (ty : TypeId) (j : Nat) (u : Value) (h : [v][j]? = some u) : ((w.alloc o).alloc (.cells #[v] ty)).cell? ((⟨w.heap.size + 1, 0, none⟩ : Addr).add j) = some u := by
 have h1 := cell_new (w.alloc o) #[v] ty j u h
 rwa [show (w.alloc o).heap.size = w.heap.size + 1 by simp] at h1
end Go.Proofs.Ytchbbaehdcmcfaa
/- Package bind: addVars, fits. -/
namespace Go.Proofs.Ytchbbaehdcmcfaa
open Go.RowKit
set_option linter.unusedVariables false
def Moved (w w' : World) (z z' : Value) : Prop := Kept w w' z.ownBlock ∧ (z'.ownBlock = z.ownBlock ∨ ∀ k, z'.ownBlock = some k → w.heap.size ≤ k)
theorem Moved.of {w w' : World} (z : Value) (h : Below w.heap.size w w') : Moved w w' z z := ⟨Kept.of h _, Or.inl rfl⟩
theorem Moved.trans {a b c : World} {x y z : Value} (h : Moved a b x y) (g : Moved b c y z) : Moved a c x z := by
 refine ⟨h.1.trans g.1 h.2, ?_⟩
 rcases g.2 with e | e
 ·rw [e]; exact h.2
 ·exact Or.inr fun k hk => Nat.le_trans h.1.1 (e k hk)
theorem Moved.grown {w w2 w4 : World} {z z' : Value} (hb : Below w.heap.size w w2) (hg : w2.grownBy w4 z.ownBlock) (hat : z'.ownBlock = z.ownBlock ∨ z'.ownBlock = some w2.heap.size) : Moved w w4 z z' := by
 refine ⟨⟨Nat.le_trans hb.size hg.size, fun k hk hn => (hg.block k (Nat.lt_of_lt_of_le hk hb.size) (fun e => hn e.symm)).trans (hb.block k hk)⟩, hat.imp id fun e k hk => ?_⟩
 rw [e] at hk
 injection hk with hk
 rw [← hk]; exact hb.size
theorem occs_step {ts : List Tm} {i : Nat} {y : Tm} (h : ts[i]? = some y) : occL (ts.take (i + 1)) = occL (ts.take i) ++ occT y := by
 have key : ∀ (a b : List Tm), occL (a ++ b) = occL a ++ occL b := by
  intro a b
  induction a with
  | nil => rfl
  | cons x r ih => rw [List.cons_append, occL, occL, ih, List.append_assoc]
 rw [List.take_add_one, h, key]
 show occL (ts.take i) ++ (occT y ++ []) = _
 rw [List.append_nil]
set_option maxHeartbeats 4000000 in
set_option maxRecDepth 100000 in
theorem badd_var {W w : World} {n : Int} {s : ByteArray} {au lw : Value} {l : List Int} (hb : Below W.heap.size W w) (hr : RowN w W.heap.size lw l) (hl : l.length ≤ 1000000000) :
  Calls Try.prog 97 #[lw, .agg #[.int .i64 0, .int .i64 n, .string s, au]] w fun e w' => ∃ r, e = .returned r ∧ RowN w' W.heap.size r (l ++ [n]) ∧ Below W.heap.size W w' ∧ Moved w w' lw r := by
 have hbb := bel1' w (box4 0 n s au 31)
 obtain ⟨i0, hi0, hz0, hs0, hb0⟩ := info_parts infoI64
 have hlt := hr.lt
 obtain ⟨m, hm⟩ : ∃ m, l.length = m := ⟨_, rfl⟩
 have HBW := Lib.hid hb
 have hWs : W.heap.size ≤ w.heap.size := hb.size
 have HBB := Lib.hid hbb
 have HR2 : Hid (w.ownsRow W.heap.size 2 1 lw m (l.flatMap numCells)) := Lib.hid (by have := hr; unfold RowN at this; rw [hm] at this; exact this)
 have HM := Lib.hid hm
 have HLT := Lib.hid hlt
 rw [hm] at hl
 obtain ⟨al, cl, rfl, h1⟩ := row_formk HR2.out
 clear hr hb hm hlt hbb
 go_enter Try.func97, Try.ntmps97
 go_wp2_with (at_builtin; refine wpList_append_k rfl _ _ 57 rfl W.heap.size 2 i0 (.int .i64 0) 1 8 Try.underlying57 hi0 hz0 hs0 (by decide) hb0 rfl (.slice al m cl) m (l.flatMap numCells) rfl ((HR2.out.alloc _).alloc _) _ 1 1 [.int .i64 n] rfl rfl (Or.inr ⟨⟨w.heap.size + 1, 0, none⟩, rfl, fun j u hu => by have := cell_one_new' (w := w) (box4 0 n s au 31) (.int .i64 n) 2 j u hu; exact this⟩) (fun u hu => by simp at hu; subst hu; rfl) (by unfold maxLen; omega) (by omega) (by simp; omega) (m + 1) ((l ++ [n]).flatMap numCells) rfl (by rw [List.flatMap_append]; rfl) ?_; intro a4 c4 w4 hown4 hgrow4 hat4)
 have HFIN : Hid (RowN w4 W.heap.size (.slice a4 (m + 1) c4) (l ++ [n]) ∧ Below W.heap.size W w4 ∧ Moved w w4 (.slice al m cl) (.slice a4 (m + 1) c4)) := Lib.hid ⟨by
  unfold RowN
  rw [List.length_append, HM.out]
  exact hown4, ((Ext.trans' HBW.out HBB.out).alloc (by simp; omega) _).grown hgrow4 (by simp; omega) (fun q hq => (HLT.out q hq).1), Moved.grown (Ext.trans' HBB.out (bel1' _ _)) hgrow4 hat4⟩
 clear hown4 hgrow4 hat4
 go_ret
 exact ⟨_, rfl, HFIN.out⟩
set_option maxHeartbeats 4000000 in
set_option maxRecDepth 100000 in
theorem badd_at : ∀ (N : Nat) (x : Tm), sizeN x ≤ N → ∀ (W w : World) (v lv : Value) (l : List Int), TmV W x v → Below W.heap.size W w → RowN w W.heap.size lv l → l.length + sizeN x ≤ 1000000000 →
    Calls Try.prog 97 #[lv, v] w fun e w' => ∃ r, e = .returned r ∧ RowN w' W.heap.size r (l ++ occT x) ∧ Below W.heap.size W w' ∧ Moved w w' lv r
  | 0, x, h, W, w, v, lv, l, hv, hb, hr, hl => by have := size_pos x; omega
  | N + 1, .mk k n s ts, h, W, w, v, lv, l, hv, hb, hr, hl => by
    obtain ⟨u, rfl, hs, hki, hni, hu⟩ := tmV_iff.1 hv
    obtain ⟨a, c, rfl, h1, h2, h3⟩ := hu.len
    by_cases hk : k = 0
    · subst hk
      rw [occ_var]
      have := size_pos (.mk 0 n s ts)
      exact badd_var hb hr (by omega)
    rw [occ_not hk]
    have hk' : (k == 0) = false := beq_false_of_ne hk
    unfold BIG at h3
    obtain ⟨m, hm⟩ : ∃ m, ts.length = m := ⟨_, rfl⟩
    have IH := Lib.hid (fun (y : Tm) (hy : y ∈ ts) => badd_at N y (mem_size h hy) W)
    have HL := Lib.hid (show l.length + sizesN ts ≤ 1000000000 by rw [sizeN] at hl; omega)
    have HU := Lib.hid hu
    have HM := Lib.hid hm
    rw [hm] at h1 h3 hu HU ⊢
    have HBW := Lib.hid hb
    have HROW := Lib.hid hr
    obtain ⟨R, hR⟩ : ∃ R, l ++ occL ts = R := ⟨_, rfl⟩
    rw [hR]
    have HR := Lib.hid hR
    clear hk hv hb hr hl hu hm hR h
    go_enter Try.func97, Try.ntmps97
    go_wp2_with fail
    go_loopw [0, 18] (fun z v wr => ∃ i : Nat, i ≤ m ∧ v = .int .i64 i ∧ Hid (RowN wr W.heap.size z (l ++ occL (ts.take i)) ∧ Moved w wr lv z) ∧ Hid (Below W.heap.size W wr)) (fun _ v _ => m - (RowKit.intOf v).toNat)
    case atStart => exact ⟨0, Nat.zero_le _, rfl, Lib.hid ⟨by rw [List.take_zero, occL, List.append_nil]; exact row_ext HROW.out (bel1' _ _), Moved.of _ (bel1' _ _)⟩, Lib.hid (Ext.trans' HBW.out (bel1' _ _))⟩
    case round =>
      obtain ⟨i, hi, rfl, HZ, HB⟩ := hrel
      by_cases hil : i < m
      · obtain ⟨y, hy⟩ : ∃ y, ts[i]? = some y := ⟨_, List.getElem?_eq_getElem (by rw [HM.out]; exact hil)⟩
        obtain ⟨b, off, k1, n1, s1, u1, rfl, hbb, _, _, _, c0, c1, c2, c3, htu, ht⟩ := HU.out.get hy
        obtain ⟨au, cu, rfl, _⟩ := htu.len
        clear htu
        have d0 := cell_later HB.out c0
        have d1 := cell_later HB.out c1
        have d2 := cell_later HB.out c2
        have d3 := cell_later HB.out c3
        have hbx := bel1' wr (box4 k1 n1 s1 (.slice au y.args.length cu) 31)
        have hlen : (l ++ occL (ts.take i)).length + sizeN y ≤ 1000000000 := by
          have h1 := sizes_drop' hy
          have h2 := sizes_take' ts (i + 1)
          have h3 := occs_len (ts.take i)
          have h4 := HL.out
          rw [List.length_append]
          omega
        have ih := IH.out y (List.mem_of_getElem? hy) _ _ _ _ ht (HB.out.trans (hbx.mono HB.out.size)) (row_ext HZ.out.1 hbx) hlen
        rw [List.append_assoc, ← occs_step hy] at ih
        have hmv := HZ.out.2.trans (Moved.of _ hbx)
        have HMV := Lib.hid hmv
        clear hmv
        clear c0 c1 c2 c3 hlen ht hy hbx
        (go_wp2_with fail; go_fit (ih); rintro e w2 ⟨r2, rfl, hr2, b2, m2⟩)
        have HZ2 := Lib.hid (And.intro hr2 (HMV.out.trans m2))
        have HB2 := Lib.hid b2
        clear hr2 b2 m2 HZ HB d0 d1 d2 d3
        go_wp2
        go_roundw
        case rel => exact ⟨i + 1, by omega, by go_num, HZ2, HB2⟩
        case measure => simp [RowKit.intOf]; omega
      · have hR2 : l ++ occL (ts.take i) = R := by rw [← HR.out, List.take_of_length_le (by rw [HM.out]; omega)]
        have HZ2 := HZ.out.1
        have HMV := Lib.hid HZ.out.2
        rw [hR2] at HZ2
        clear hR2 HZ HR
        go_wp2
        go_ret
        exact ⟨_, rfl, HZ2, HB.out, HMV.out⟩
section
variable {V w : World} {F : List Nat} {p : Value} {N : Nat} {R : List (Int × Tm)}
def fitsB (N : Nat) (x : Tm) : Bool := goodT x && (occT x).all fun m => decide (0 ≤ m) && decide (m < (N : Int))
theorem fitsB_true {N : Nat} {x : Tm} : fitsB N x = true ↔ goodT x = true ∧ ∀ m ∈ occT x, 0 ≤ m ∧ m < (N : Int) := by
 unfold fitsB
 simp only [Bool.and_eq_true, List.all_eq_true, decide_eq_true_eq]
mutual
theorem occ_i64 {w : World} : ∀ (x : Tm) (v : Value), TmV w x v → ∀ m ∈ occT x, I64 m
  | .mk k n s ts, v, h, m, hm => by
    rw [TmV] at h
    obtain ⟨a, c, h1, h2, h3, h4, h5, h6, h7, h8⟩ := h
    by_cases hk : k = 0
    · subst hk
      rw [occ_var] at hm
      simp at hm
      subst hm
      exact h7
    · rw [occ_not hk] at hm
      rcases h8 with h8 | ⟨b, off, e1, e2, e3⟩
      · subst h8; simp [occL] at hm
      · exact occs_i64 ts b off e3 m hm
theorem occs_i64 {w : World} : ∀ (l : List Tm) (b off : Nat), TmRow w l b off → ∀ m ∈ occL l, I64 m
  | [], b, off, _, m, hm => by simp [occL] at hm
  | x :: r, b, off, h, m, hm => by
    rw [TmRow] at h
    obtain ⟨⟨c0, c1, c2, c3, h0, h1, h2, h3, h4⟩, h5⟩ := h
    rw [occL] at hm
    rcases List.mem_append.1 hm with hm | hm
    · exact occ_i64 x _ h4 m hm
    · exact occs_i64 r b (off + 4) h5 m hm
end
set_option maxHeartbeats 4000000 in
theorem fits_at' (h : IsB V F w p N R) {x : Tm} {v : Value} (hv : TmV w x v) : Calls Try.prog 62 #[p, v] w fun e w' => e = .returned (.bool (fitsB N x)) ∧ Below w.heap.size w w' := by
 have G := fun w (h : TmV w x v) => Good_at x w v h
 have V' := fun w1 (hb : Below w.heap.size w w1) (hs : goodT x = true) => badd_at _ x (Nat.le_refl _) w w1 v (.slice none 0 0) [] hv hb (RowN.nil _ _) (by have := (good_parts hs).1; simp; omega)
 have GV := fun w1 (hb : Below w.heap.size w w1) => given_at (h.ext hb)
 have HI := Lib.hid (occ_i64 x v hv)
 obtain ⟨k, n, s, a, m, c, rfl⟩ := hv.full
 have hv0 := TmV.ext (bel1' w (box4 k n s (.slice a m c) 31)) _ _ hv
 obtain ⟨bt, av, cv, bs, rfl, hlt, c0, c1, h1, h2, hs⟩ := h.open
 clear hs c0 c1 h1 h2
 cases hg : goodT x
 ·have hr : fitsB N x = false := by unfold fitsB; rw [hg]; rfl
  rw [hg] at G
  rw [hr]
  clear V' hg hv hr GV
  go_enter Try.func62, Try.ntmps62
  (go_wp2_with fail; go_fit (G _ hv0); rintro e w1 ⟨rfl, b1⟩)
  have B1 := Lib.hid (Ext.trans' (bel1' w _) b1)
  clear b1
  go_wp2
  go_ret
  exact ⟨rfl, B1.out⟩
 ·obtain ⟨b, hbb⟩ : ∃ b, fitsB N x = b := ⟨_, rfl⟩
  have HF := Lib.hid (show (occT x).all (fun m => decide (0 ≤ m) && decide (m < (N : Int))) = b by rw [← hbb]; unfold fitsB; rw [hg]; rfl)
  have HLN := Lib.hid (show (occT x).length ≤ 2000 by have := (good_parts hg).1; have := occ_len x; omega)
  rw [hg] at G
  rw [hbb]
  have V2 := fun w h => V' w h hg
  have HGV := Lib.hid GV
  clear V' hg hv hbb GV h
  go_enter Try.func62, Try.ntmps62
  (go_wp2_with fail; go_fit (G _ hv0); rintro e w1 ⟨rfl, b1⟩)
  obtain ⟨e0, e1, e2, e3⟩ := box_cells w 31 _ _ _ _ b1
  have B1 := Lib.hid (Ext.trans' (bel1' w _) b1)
  clear b1 hv0
  (go_wp2_with fail; go_fit (V2 _ B1.out); rintro e w2 ⟨r, rfl, hr, b2, _⟩)
  have hn := hr.nums
  rw [List.nil_append] at hn
  obtain ⟨ra, rc, rfl, l1, l2⟩ := hn.len
  have HN := Lib.hid hn
  have B2 := Lib.hid b2
  obtain ⟨q, hq⟩ : ∃ q, (occT x).length = q := ⟨_, rfl⟩
  have HQ := Lib.hid hq
  have hq2 := HLN.out
  rw [hq] at hq2 l1 HN ⊢
  clear hr b2 V2 hn e0 e1 e2 e3 hq
  go_wp2_with fail
  go_loopw [13] (fun v wr => ∃ i : Nat, i ≤ q ∧ v = .int .i64 i ∧ Hid (((occT x).drop i).all (fun m => decide (0 ≤ m) && decide (m < (N : Int))) = b) ∧ Hid (wr = w2)) (fun v _ => q - (RowKit.intOf v).toNat)
  case atStart => exact ⟨0, Nat.zero_le _, rfl, Lib.hid (by rw [List.drop_zero]; exact HF.out), Lib.hid rfl⟩
  case round =>
   obtain ⟨i, hi, rfl, HD, HWR⟩ := hrel
   obtain rfl := HWR.out
   clear HWR
   by_cases hil : i < q
   ·obtain ⟨y, hy⟩ : ∃ y, (occT x)[i]? = some y := ⟨_, List.getElem?_eq_getElem (by rw [HQ.out]; exact hil)⟩
    obtain ⟨gb, go, rfl, _, c0⟩ := HN.out.get hy
    have hd := HD.out
    rw [List.drop_eq_getElem_cons (by rw [HQ.out]; exact hil), List.all_cons, show (occT x)[i]'(by rw [HQ.out]; exact hil) = y by rw [List.getElem?_eq_getElem (by rw [HQ.out]; exact hil)] at hy; exact Option.some.inj hy] at hd
    have C := HGV.out _ B2.out y (HI.out y (List.mem_of_getElem? hy))
    cases hy2 : (decide (0 ≤ y) && decide (y < (N : Int)))
    ·rw [hy2] at C hd
     rw [Bool.false_and] at hd
     subst hd
     clear HF HD hy hy2
     (go_wp2_with fail; go_fit (C); rintro e w3 ⟨rfl, rfl⟩)
     go_wp2
     go_ret
     exact ⟨rfl, B2.out⟩
    ·rw [hy2] at C hd
     rw [Bool.true_and] at hd
     have HD2 := Lib.hid hd
     clear HD hd hy hy2
     (go_wp2_with fail; go_fit (C); rintro e w3 ⟨rfl, rfl⟩)
     go_wp2
     go_roundw
     case rel => exact ⟨i + 1, by omega, by go_num, HD2, (by first | exact Lib.hid rfl | exact Lib.hid trivial)⟩
     case measure => simp [RowKit.intOf]; omega
   ·have hd := HD.out
    rw [List.drop_eq_nil_of_le (by rw [HQ.out]; omega)] at hd
    have hd2 : b = true := by rw [← hd]; rfl
    subst hd2
    clear HF HD hd
    go_wp2
    go_ret
    exact ⟨rfl, B2.out⟩
end
end Go.Proofs.Ytchbbaehdcmcfaa
/- Package bind: whole. -/
namespace Go.Proofs.Ytchbbaehdcmcfaa
open Go.RowKit
set_option linter.unusedVariables false
theorem touch_one (w : World) (b o : Nat) (u : Value) : Touch [b] w (w.setCell ⟨b, o, none⟩ u) :=
 ⟨rfl, rfl, rfl, by simp [World.setCell], fun k _ hn => Below.heap_setCell w _ u k (fun e => hn (by simp [e]))⟩
theorem IsB.touch {V w w' : World} {F : List Nat} {p : Value} {N : Nat} {R : List (Int × Tm)} (h : IsB V F w p N R) {T : List Nat} (ht : Touch T w w') (hn : ∀ k ∈ T, ¬ k ∈ F) (hb : Blind V T) : IsB V F w' p N R :=
 h.keep (fun k hk => ht.block k (h.lt k hk) (fun hm => hn k hm hk)) (h.see.1.touch hb ht)
theorem topped {R : List (Int × Tm)} {y : Tm} (hg : goodT y = true) (ht : topB R y) : subT (fullB R) y = .mk y.k y.n y.s (subL (fullB R) y.args) := by
  cases y with
  | mk k n s ts =>
    by_cases hk : k = 0
    · subst hk
      have hv := (formed_var (good_parts hg).2.2).1
      have h0 : getB R n = none := ht rfl
      rw [sub_var, full_free (get_none.1 h0)]
      unfold varV at hv ⊢
      injection hv with _ _ hs hts
      subst hs hts
      rfl
    · rw [sub_not _ hk]
      rfl
section
variable {V : World} {F : List Nat} {p : Value} {N : Nat} {R : List (Int × Tm)}
end
end Go.Proofs.Ytchbbaehdcmcfaa
/- Package bind: whole, where there is room. -/
namespace Go.Proofs.Ytchbbaehdcmcfaa
open Go.RowKit
set_option linter.unusedVariables false
theorem Touch.then {F : List Nat} {w w' w'' : World} (h : Touch F w w') (hb : Below w'.heap.size w' w'') : Touch F w w'' := h.trans (Touch.of_below hb F) (fun k hk => Or.inl hk)
theorem Touch.setNew {F : List Nat} {w w' : World} (h : Touch F w w') (a : Addr) (u : Value) (ha : w.heap.size ≤ a.block) : Touch F w (w'.setCell a u) :=
 ⟨h.os, h.tape, h.output, Nat.le_trans h.size (by simp [World.setCell]), fun k hk hn => (Below.heap_setCell w' a u k (by omega)).trans (h.block k hk hn)⟩
theorem Touch.four {F : List Nat} {w w' : World} (h : Touch F w w') {b : Nat} (hb : w.heap.size ≤ b) (u0 u1 u2 u3 : Value) : Touch F w (set4 w' b u0 u1 u2 u3) :=
 (((h.setNew ⟨b, 0, none⟩ u0 hb).setNew ⟨b, 1, none⟩ u1 hb).setNew ⟨b, 2, none⟩ u2 hb).setNew ⟨b, 3, none⟩ u3 hb
theorem set4_other (w : World) (b : Nat) (u0 u1 u2 u3 : Value) (k : Nat) (h : k ≠ b) : (set4 w b u0 u1 u2 u3).heap[k]? = w.heap[k]? :=
 (Below.heap_setCell _ _ _ k h).trans ((Below.heap_setCell _ _ _ k h).trans ((Below.heap_setCell _ _ _ k h).trans (Below.heap_setCell _ _ _ k h)))
theorem set4_size (w : World) (b : Nat) (u0 u1 u2 u3 : Value) : (set4 w b u0 u1 u2 u3).heap.size = w.heap.size := by simp [World.setCell]
section
variable {D : Nat → Bool} {ps : List TmP} {n0 : Nat} {wr : World} {z : Value} {ts : List Tm}
end
end Go.Proofs.Ytchbbaehdcmcfaa
/- Package bind: whole, walked. -/
namespace Go.Proofs.Ytchbbaehdcmcfaa
open Go.RowKit
set_option linter.unusedVariables false
theorem sizes_map_drop {S : Int → Tm} {ts : List Tm} {i : Nat} {y : Tm} (h : ts[i]? = some y) : (subL S ts)[i]? = some (subT S y) := by rw [subL_map, List.getElem?_map, h]; rfl
section
variable {V : World} {F : List Nat} {p : Value} {N : Nat} {R : List (Int × Tm)}
end
end Go.Proofs.Ytchbbaehdcmcfaa
/- Package bind: New, Fresh. -/
namespace Go.Proofs.Ytchbbaehdcmcfaa
open Go.RowKit
set_option linter.unusedVariables false
theorem getB_nil (m : Int) : getB [] m = none := rfl
section
variable {V w : World} {F : List Nat} {p : Value} {N : Nat} {R : List (Int × Tm)}
set_option maxHeartbeats 1000000 in
theorem New_at (hs : Stays V w) : Calls Try.prog 20 #[] w fun e w' => ∃ p F, e = .returned p ∧ IsB V F w' p 0 [] ∧ Below w.heap.size w w' ∧ ∀ k ∈ F, w.heap.size ≤ k := by
 have C := newL 65536 65536 (by omega) w
 have HS := Lib.hid hs
 clear hs
 go_enter Try.func20, Try.ntmps20
 (go_wp2_with fail; go_fit (C); rintro e w1 ⟨q, rfl, G, h1, h2, h3⟩)
 obtain ⟨bs, rfl⟩ : ∃ bs, q = .pointer (some ⟨bs, 0, none⟩) := by obtain ⟨bs, _, rfl, _⟩ := h1; exact ⟨bs, rfl⟩
 have hs1 : ∀ k ∈ G, k < w1.heap.size := h1.lt
 have HF : ∀ o, o = Obj.cells #[.slice none 0 0, .pointer (some ⟨bs, 0, none⟩)] 110 → IsB V (w1.heap.size :: G) (w1.alloc o) (.pointer (some ⟨w1.heap.size, 0, none⟩)) 0 [] ∧ Below w.heap.size w (w1.alloc o) ∧ ∀ k ∈ (w1.heap.size :: G), w.heap.size ≤ k := by
  intro o ho
  subst ho
  have hnew : ∀ k ∈ (w1.heap.size :: G), w.heap.size ≤ k := by
   intro k hk
   rcases List.mem_cons.1 hk with rfl | hk
   ·exact h2.size
   ·exact h3 k hk
  have hb := h2.trans ((bel1' w1 (Obj.cells #[.slice none 0 0, .pointer (some ⟨bs, 0, none⟩)] 110)).mono h2.size)
  refine ⟨⟨w1.heap.size, .slice none 0 0, _, G, [], rfl, by simp [Value.ownBlock], by simp [Value.ownBlock], fun hm => by have := hs1 _ hm; omega, fun k hk => (by cases hk), heap_alloc_new w1 _, rfl, World.ownsRow_nil _ _ _ _, h1.ext (bel1' w1 _), ⟨fun i hi _ => by simp at hi, fun i t hi => by rw [getB_nil] at hi; cases hi⟩, trivial, by omega, HS.out.later hb, Blind.new HS.out hnew⟩, hb, hnew⟩
 have HH := Lib.hid HF
 clear h1 h2 h3 hs1 HF C
 go_wp2
 go_ret
 obtain ⟨a1, a2, a3⟩ := HH.out _ rfl
 exact ⟨_, _, rfl, a1, a2, a3⟩
theorem IsB.grow (h : IsB V F w p N R) (hN : N < 65536) {bt : Nat} (hp : p = .pointer (some ⟨bt, 0, none⟩)) {a : Option Addr} {c : Nat} (hc : w.cell? ⟨bt, 0, none⟩ = some (.slice a N c)) :
    ∃ xs, w.ownsRow 0 112 5 (.slice a N c) N xs ∧ (∀ k, (Value.slice a N c).ownBlock = some k → k < w.heap.size ∧ k ≠ bt ∧ k ∈ F) ∧
      ∀ (w2 w3 : World) (v' : Value), Below w.heap.size w w2 → w2.grownBy w3 (Value.slice a N c).ownBlock → (v'.ownBlock = (Value.slice a N c).ownBlock ∨ v'.ownBlock = some w2.heap.size) → w3.ownsRow 0 112 5 v' (N + 1) (xs ++ slCells none) →
        w3.cell? ⟨bt, 0, none⟩ = some (.slice a N c) ∧ w3.frozen? ⟨bt, 0, none⟩ = false ∧ ∃ F', IsB V F' (w3.setCell ⟨bt, 0, none⟩ v') p (N + 1) R ∧ Touch F w (w3.setCell ⟨bt, 0, none⟩ v') ∧ ∀ k ∈ F', k ∈ F ∨ w2.heap.size ≤ k := by
  have hF := h.lt
  obtain ⟨bt', v, q, G, sl, rfl, rfl, h1, h2, h3, h4, h5, h6, h7, h8, h9, h10, h11, h12⟩ := h
  cases hp
  have hv : v = .slice a N c := by
    have : w.cell? ⟨bt, 0, none⟩ = some v := by simp [blk_cell h4]
    rw [hc] at this
    exact (Option.some.inj this).symm
  subst hv
  refine ⟨_, h6, fun k hk => ⟨(h6.lt k hk).2, fun e => h1 (by rw [hk, e]), by simp [hk]⟩, fun w2 w3 v' hb hg hat hr => ?_⟩
  have hs := hb.size
  have hbl := hF bt (by simp)
  have b3 : w3.heap[bt]? = some (.cells #[.slice a N c, q] 110 (0, 0)) := (hg.block bt (by omega) (fun e => h1 e.symm)).trans ((hb.block bt hbl).trans h4)
  have hne : v'.ownBlock ≠ some bt := by
    rcases hat with e | e <;> rw [e]
    · exact h1
    · intro e'; simp at e'; omega
  have hin : ∀ k ∈ bt :: (v'.ownBlock.toList ++ G), k ∈ bt :: ((Value.slice a N c).ownBlock.toList ++ G) ∨ w2.heap.size ≤ k := by
    intro k hk
    simp only [List.mem_cons, List.mem_append, Option.mem_toList] at hk ⊢
    rcases hk with rfl | hk | hk
    · exact Or.inl (Or.inl rfl)
    · rcases hat with e | e
      · rw [e] at hk; exact Or.inl (Or.inr (Or.inl hk))
      · rw [e] at hk; simp at hk; exact Or.inr (by omega)
    · exact Or.inl (Or.inr (Or.inr hk))
  have tw : Touch (bt :: ((Value.slice a N c).ownBlock.toList ++ G)) w (w3.setCell ⟨bt, 0, none⟩ v') := by
    refine ⟨hg.os.trans hb.os, hg.tape.trans hb.tape, hg.output.trans hb.output, by have := hg.size; simp [World.setCell]; omega, fun j hj hn => ?_⟩
    simp only [List.mem_cons, List.mem_append, Option.mem_toList, not_or] at hn
    exact (Below.heap_setCell w3 ⟨bt, 0, none⟩ v' j hn.1).trans ((hg.block j (by omega) (fun e => hn.2.1 e.symm)).trans (hb.block j hj))
  have hG : ∀ k ∈ G, (w3.setCell ⟨bt, 0, none⟩ v').heap[k]? = w.heap[k]? := fun k hk =>
    (Below.heap_setCell w3 ⟨bt, 0, none⟩ v' k (fun e => h2 (by have e' : k = bt := e; rw [← e']; exact hk))).trans ((hg.block k (by have := hF k (by simp [hk]); omega) (fun e => h3 k e.symm hk)).trans (hb.block k (hF k (by simp [hk]))))
  refine ⟨by simp [blk_cell b3], blk_froz b3 0, _, ⟨bt, v', q, G, sl ++ [none], rfl, rfl, hne, h2, fun k hk hm => ?_, ?_, by simp [h5], ?_, h7.keep hG, ?_, h9.more, by omega, h11.touch h12 tw, h12.some h11 (fun k hk => (hin k hk).imp id (fun e => by omega))⟩, tw, hin⟩
  · rcases hat with e | e
    · rw [e] at hk; exact h3 k hk hm
    · rw [e] at hk; simp at hk; have := hF k (by simp [hm]); omega
  · have := hb
    simp [World.setCell, Array.getElem?_modify, b3]
  · rw [List.flatMap_append]
    have hr2 : w3.ownsRow 0 112 5 v' (N + 1) (sl.flatMap slCells ++ [none].flatMap slCells) := by simpa using hr
    exact row_at hr2 (fun g hg' => Below.heap_setCell w3 ⟨bt, 0, none⟩ v' g (fun e => hne (by rw [hg']; exact congrArg some e)))
  · refine ⟨fun i hi hget => ?_, fun i t hi => ?_⟩
    · by_cases hlt : i < sl.length
      · rw [List.getElem?_append_left hlt]; exact h8.free i hlt hget
      · have : i = sl.length := by simp at hi; omega
        subst this
        simp
    · obtain ⟨u, e1, e2⟩ := h8.held i t hi
      exact ⟨u, by rw [List.getElem?_append_left (List.getElem?_eq_some_iff.1 e1).1]; exact e1, e2⟩
set_option maxHeartbeats 4000000 in
set_option maxRecDepth 100000 in
theorem Fresh_at (h : IsB V F w p N R) (hN : N < 65536) :
  Calls Try.prog 21 #[p] w fun e w' => ∃ F', e = .returned (.tuple #[.agg #[.int .i64 0, .int .i64 N, .string ⟨#[]⟩, .slice none 0 0], .bool true]) ∧ IsB V F' w' p (N + 1) R ∧ Touch F w w' ∧ ∀ k ∈ F', k ∈ F ∨ w.heap.size ≤ k := by
 have HS := Lib.hid h.see
 have HLT := Lib.hid h.lt
 obtain ⟨bt, a, c, bs, rfl, hlt, c0, c1, h1, h2, _⟩ := h.open
 obtain ⟨xs, hrow, hown, hgrow⟩ := h.grow hN rfl c0
 obtain ⟨i0, hi0, hz0, hs0, hb0⟩ := info_parts infoSlot
 have hne : (N : Int) ≠ 65536 := by omega
 have hne' : ((N : Int) == 65536) = false := by simpa using hne
 have hwr : IntKind.i64.wrap (((N + 1 : Nat) : Int) - 1) = (N : Int) := by rw [IntKind.wrap_i64]; omega
 have HR := Lib.hid hrow
 have HO := Lib.hid hown
 have HG := Lib.hid hgrow
 have HH := Lib.hid h
 unfold maxLen at h2
 obtain ⟨w1, e1, B1, z1, X1⟩ := box_new w #[.int .i64 0, .int .i64 0, .string ⟨#[]⟩, .slice none 0 0] 31
 have d0 := cell_later B1 c0
 have d1 := cell_later B1 c1
 obtain ⟨y0, y1, y2, y3, yf⟩ := X1.four
 have HB1 := Lib.hid (And.intro B1 X1)
 have HR1 := Lib.hid (row_ext hrow B1)
 have hs1 : w.heap.size < w1.heap.size := by omega
 clear h hrow hown hgrow B1 X1 c0 c1 z1
 go_enter Try.func21, Try.ntmps21
 go_wp2_with (at_builtin; refine wpList_append_k rfl _ _ 108 rfl 0 112 i0 (.agg #[.bool false, .int .i64 0, .int .i64 0, .string ⟨#[]⟩, .slice none 0 0]) 5 64 Try.underlying108 hi0 hz0 hs0 (by decide) hb0 rfl (.slice a N c) N xs rfl (HR1.out.alloc _) _ 1 1 (slCells none) rfl rfl (Or.inr ⟨⟨w1.heap.size, 0, none⟩, rfl, fun j u hu => cell_new w1 #[.bool false, .int .i64 0, .int .i64 0, .string ⟨#[]⟩, .slice none 0 0] 112 j u hu⟩) (fun u hu => by simp [slCells] at hu; rcases hu with rfl | rfl | rfl | rfl | rfl <;> rfl) (by unfold maxLen; omega) (by omega) (Nat.zero_le _) (N + 1) (xs ++ slCells none) rfl rfl ?_; intro a4 c4 w3 hown4 hgrow4 hat4; obtain ⟨hc3, hf3, F', hI, hT, hin⟩ := HG.out _ w3 (.slice a4 (N + 1) c4) (Ext.trans' HB1.out.1 (bel1' w1 _)) hgrow4 hat4 hown4; have HFIN := Lib.hid (And.intro hI (And.intro hT hin)); have HGR := Lib.hid hgrow4; clear hI hT hin hown4 hgrow4 hat4)
 obtain ⟨wS, eS⟩ : ∃ wS, w3.setCell ⟨bt, 0, none⟩ (.slice a4 (N + 1) c4) = wS := ⟨_, rfl⟩
 have g0 : wS.cell? ⟨bt, 0, none⟩ = some (.slice a4 (N + 1) c4) := by rw [← eS]; exact css hc3
 have hbox : Box wS w.heap.size [.int .i64 0, .int .i64 0, .string ⟨#[]⟩, .slice none 0 0] := by
  have hb2 : Box (w1.alloc (.cells #[.bool false, .int .i64 0, .int .i64 0, .string ⟨#[]⟩, .slice none 0 0] 112)) w.heap.size _ := HB1.out.2.ext (bel1' w1 _)
  have hne : (Value.slice a N c).ownBlock ≠ some w.heap.size := fun e => by have := (HO.out _ e).1; omega
  have hb3 : Box w3 w.heap.size _ := hb2.block (HGR.out.block _ hb2.lt (fun e => hne e.symm)) (Nat.lt_of_lt_of_le hb2.lt HGR.out.size)
  rw [← eS]
  exact hb3.far (by omega)
 have HBX := Lib.hid hbox
 clear hbox
 (try rw [eS])
 rw [eS] at HFIN
 clear eS hc3 hf3
 go_fit (var_at wS N)
 rintro e w5 ⟨rfl, b5⟩
 obtain ⟨x0, x1, x2, x3, xf⟩ := (HBX.out.ext b5).four
 have hI := (HFIN.out.1.ext b5)
 have hFr : ∀ k ∈ [w.heap.size], ¬ k ∈ F' := fun k hk hm => by
  simp at hk
  subst hk
  rcases HFIN.out.2.2 _ hm with h | h
  ·have := HLT.out _ h; omega
  ·simp at h; omega
 have hBl : Blind V [w.heap.size] := Blind.new HS.out.1 (fun k hk => by simp at hk; omega)
 have HEND := Lib.hid (show ∀ u0 u1 u2 u3, IsB V F' (set4 w5 w.heap.size u0 u1 u2 u3) (.pointer (some ⟨bt, 0, none⟩)) (N + 1) R ∧ Touch F w (set4 w5 w.heap.size u0 u1 u2 u3) ∧ ∀ k ∈ F', k ∈ F ∨ w.heap.size ≤ k from fun u0 u1 u2 u3 => by
  have ht : Touch [w.heap.size] w5 (set4 w5 w.heap.size u0 u1 u2 u3) := ⟨rfl, rfl, rfl, Nat.le_of_eq (set4_size _ _ _ _ _ _).symm, fun j hj hn => set4_other _ _ _ _ _ _ j (by simpa using hn)⟩
  refine ⟨hI.touch ht hFr hBl, (HFIN.out.2.1.then b5).four (Nat.le_refl _) _ _ _ _, fun k hk => (HFIN.out.2.2 k hk).imp id (fun h => ?_)⟩
  have := (bel1' w1 (.cells #[.bool false, .int .i64 0, .int .i64 0, .string ⟨#[]⟩, .slice none 0 0] 112)).size
  omega)
 clear b5 hI hFr hBl
 go_wp2
 refine bodyPost_ret (v := .tuple #[.agg #[.int .i64 0, .int .i64 N, .string ⟨#[]⟩, .slice none 0 0], .bool true]) (by rw [results_cell_tmp rfl]; go_simp) rfl ?_
 obtain ⟨q1, q2, q3⟩ := HEND.out (.int .i64 0) (.int .i64 N) (.string ⟨#[]⟩) (.slice none 0 0)
 exact ⟨F', rfl, q1, q2, q3⟩
end
end Go.Proofs.Ytchbbaehdcmcfaa
