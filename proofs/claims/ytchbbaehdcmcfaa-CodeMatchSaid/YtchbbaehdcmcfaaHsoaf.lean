import Derived.Test.YtchbbaehdcmcfaaHsozz
import Derived.Test.YtchbbaehdcmcfaaHsoae
import Derived.Test.YtchbbaehdcmcfaaHsoaa
import Derived.Test.YtchbbaehdcmcfaaHsoad
import Derived.Deep.RegionHeld3
import Derived.Deep.Quiet
import Derived.Deep.LoopGhost
import Derived.Test.YtchbbaehdcmcfaaHsoac
import Derived.Test.YtchbbaehdcmcfaaRows
import Derived.Deep.QuietTactic
set_option linter.unusedVariables false
set_option linter.unusedSimpArgs false
/- Package bind in memory: its block, its slots, its trail; given, Len, Mark. -/
namespace Go.Proofs.Ytchbbaehdcmcfaa
open Go.RowKit
set_option linter.unusedVariables false
abbrev SlP := Option TmP
def slCells : SlP → List Value
 | none => [.bool false, .int .i64 0, .int .i64 0, .string ⟨#[]⟩, .slice none 0 0]
 | some p => .bool true :: pCells p
theorem slCells_len (s : SlP) : (slCells s).length = 5 := by cases s <;> rfl
theorem infoSlot : (Try.prog.info? 112).map (fun i => (i.zero, i.size, i.bytes)) = some (some (.agg #[.bool false, .int .i64 0, .int .i64 0, .string ⟨#[]⟩, .slice none 0 0]), 5, 64) := by kernel_rfl
def Blind (V : World) (F : List Nat) : Prop := ∀ a : Addr, a.block ∈ F → V.cell? a = none
theorem Stays.later {V w w' : World} (h : Stays V w) (hb : Below w.heap.size w w') : Stays V w' :=
 ⟨Nat.le_trans h.1 hb.size, fun a v hv => by
  have hc := h.2 a v hv
  rw [World.cell?_of_block (hb.block _ (World.block_lt_of_cell? _ _ hc))]
  exact hc⟩
theorem Stays.touch {V w w' : World} {F : List Nat} (h : Stays V w) (hb : Blind V F) (ht : Touch F w w') : Stays V w' :=
 ⟨Nat.le_trans h.1 ht.size, fun a v hv => by
  have hc := h.2 a v hv
  rw [World.cell?_of_block (ht.block _ (World.block_lt_of_cell? _ _ hc) (fun hm => by rw [hb a hm] at hv; cases hv))]
  exact hc⟩
theorem Blind.new {V w : World} {F : List Nat} (h : Stays V w) (hF : ∀ k ∈ F, w.heap.size ≤ k) : Blind V F := fun a ha => by
 cases hc : V.cell? a with
 | none => rfl
 | some v =>
  have h1 := World.block_lt_of_cell? _ _ hc
  have h2 := hF _ ha
  have h3 := h.1
  omega
theorem Blind.some {V w : World} {F F' : List Nat} (h : Blind V F) (hs : Stays V w) (hF : ∀ k ∈ F', k ∈ F ∨ w.heap.size ≤ k) : Blind V F' := fun a ha => by
 rcases hF _ ha with h1 | h1
 ·exact h a h1
 ·exact Blind.new (F := [a.block]) hs (fun k hk => by simp at hk; subst hk; exact h1) a (by simp)
structure SlOK (V : World) (R : List (Int × Tm)) (sl : List SlP) : Prop where
 free : ∀ i : Nat, i < sl.length → getB R i = none → sl[i]? = some none
 held : ∀ (i : Nat) (t : Tm), getB R i = some t → ∃ u, sl[i]? = some (some (t, u)) ∧ TmV V t (pVal (t, u))
def trailV (R : List (Int × Tm)) : List Value := R.reverse.map (fun p => Value.int .i64 p.1)
def IsB (V : World) (F : List Nat) (w : World) (p : Value) (N : Nat) (R : List (Int × Tm)) : Prop :=
 ∃ bt v q G sl, p = .pointer (some ⟨bt, 0, none⟩) ∧ F = bt :: (v.ownBlock.toList ++ G) ∧ v.ownBlock ≠ some bt ∧ ¬ bt ∈ G ∧ (∀ k, v.ownBlock = some k → ¬ k ∈ G) ∧
  w.heap[bt]? = some (.cells #[v, q] 110 (0, 0)) ∧ sl.length = N ∧ w.ownsRow 0 112 5 v N (sl.flatMap slCells) ∧ StkL G w q 65536 (trailV R) ∧ SlOK V R sl ∧ Tri N R ∧ N ≤ 65536 ∧ Stays V w ∧ Blind V F
section
variable {V w : World} {F : List Nat} {p : Value} {N : Nat} {R : List (Int × Tm)}
theorem IsB.tri (h : IsB V F w p N R) : Tri N R ∧ N ≤ 65536 := by
 obtain ⟨bt, v, q, G, sl, rfl, rfl, h1, h2, h3, h4, h5, h6, h7, h8, h9, h10, h11, h12⟩ := h
 exact ⟨h9, h10⟩
theorem IsB.see (h : IsB V F w p N R) : Stays V w ∧ Blind V F := by
 obtain ⟨bt, v, q, G, sl, rfl, rfl, h1, h2, h3, h4, h5, h6, h7, h8, h9, h10, h11, h12⟩ := h
 exact ⟨h11, h12⟩
theorem IsB.lt (h : IsB V F w p N R) : ∀ k ∈ F, k < w.heap.size := by
 obtain ⟨bt, v, q, G, sl, rfl, rfl, h1, h2, h3, h4, h5, h6, h7, h8, h9, h10, h11, h12⟩ := h
 intro k hk
 simp only [List.mem_cons, List.mem_append, Option.mem_toList] at hk
 rcases hk with rfl | hk | hk
 ·exact (Array.getElem?_eq_some_iff.1 h4).1
 ·exact (h6.lt k hk).2
 ·exact h7.lt k hk
theorem IsB.keep {w' : World} (h : IsB V F w p N R) (hb : ∀ k ∈ F, w'.heap[k]? = w.heap[k]?) (hs : Stays V w') : IsB V F w' p N R := by
 obtain ⟨bt, v, q, G, sl, rfl, rfl, h1, h2, h3, h4, h5, h6, h7, h8, h9, h10, h11, h12⟩ := h
 exact ⟨bt, v, q, G, sl, rfl, rfl, h1, h2, h3, (hb bt (by simp)).trans h4, h5, owns_row_block h6 (fun k hk => hb k (by simp [hk])), h7.keep (fun k hk => hb k (by simp [hk])), h8, h9, h10, hs, h12⟩
theorem IsB.ext {w' : World} (h : IsB V F w p N R) (hb : Below w.heap.size w w') : IsB V F w' p N R := h.keep (fun k hk => hb.block k (h.lt k hk)) (h.see.1.later hb)
theorem IsB.from {V' : World} (h : IsB V F w p N R) (hv : Stays V V') (hs : Stays V' w) (hb : Blind V' F) : IsB V' F w p N R := by
 obtain ⟨bt, v, q, G, sl, rfl, rfl, h1, h2, h3, h4, h5, h6, h7, h8, h9, h10, h11, h12⟩ := h
 exact ⟨bt, v, q, G, sl, rfl, rfl, h1, h2, h3, h4, h5, h6, h7, ⟨h8.free, fun i t hi => by
  obtain ⟨u, e1, e2⟩ := h8.held i t hi
  exact ⟨u, e1, TmV.stay hv _ _ e2⟩⟩, h9, h10, hs, hb⟩
theorem IsB.open (h : IsB V F w p N R) : ∃ bt a c bs, p = .pointer (some ⟨bt, 0, none⟩) ∧ bt < w.heap.size ∧ w.cell? ⟨bt, 0, none⟩ = some (.slice a N c) ∧ w.cell? ⟨bt, 1, none⟩ = some (.pointer (some ⟨bs, 0, none⟩)) ∧ N ≤ c ∧ c ≤ maxLen ∧
  ∀ n : Nat, n < N → ∃ g, a = some ⟨g, 0, none⟩ ∧ ((getB R n = none ∧ w.cell? ⟨g, n * 5, none⟩ = some (.bool false)) ∨
   ∃ t k m s au l cu, getB R n = some t ∧ w.cell? ⟨g, n * 5, none⟩ = some (.bool true) ∧ w.cell? ⟨g, n * 5 + 1, none⟩ = some (.int .i64 k) ∧ w.cell? ⟨g, n * 5 + 2, none⟩ = some (.int .i64 m) ∧ w.cell? ⟨g, n * 5 + 3, none⟩ = some (.string s) ∧ w.cell? ⟨g, n * 5 + 4, none⟩ = some (.slice au l cu) ∧ TmV V t (.agg #[.int .i64 k, .int .i64 m, .string s, .slice au l cu])) := by
 obtain ⟨bt, v, q, G, sl, rfl, rfl, h1, h2, h3, h4, h5, h6, h7, h8, h9, h10, h11, h12⟩ := h
 obtain ⟨bs, hq⟩ : ∃ bs, q = .pointer (some ⟨bs, 0, none⟩) := by obtain ⟨bs, _, rfl, _⟩ := h7; exact ⟨bs, rfl⟩
 subst hq
 have hr := h6
 rw [← h5] at hr
 have hel := Elems.owned slCells_len hr
 obtain ⟨a, c, rfl, e1, e2, e3⟩ := hel
 rw [h5] at e1 h4
 refine ⟨bt, a, c, bs, rfl, (Array.getElem?_eq_some_iff.1 h4).1, by simp [blk_cell h4], by simp [blk_cell h4], e1, e2, fun n hn => ?_⟩
 rcases e3 with rfl | ⟨b, off, rfl, hb, hc⟩
 ·simp at h5; omega
 ·have ho : off = 0 := by
   rcases h6.2 with ⟨e, _⟩ | ⟨g, cap, cur, e, _⟩
   ·cases e
   ·cases e; rfl
  subst ho
  refine ⟨b, rfl, ?_⟩
  cases hg : getB R n with
  | none =>
   left
   have := hc n none (h8.free n (by omega) hg) 0 (.bool false) rfl
   rw [Nat.zero_add] at this
   exact ⟨rfl, this⟩
  | some t =>
   right
   obtain ⟨u, s1, s2⟩ := h8.held n t hg
   obtain ⟨k, m, s, au, l, cu, hv⟩ := s2.full
   have hv' := hv
   simp only [pVal, Value.agg.injEq] at hv'
   have h2' := congrArg Array.toList hv'
   simp only [List.cons.injEq, and_true] at h2'
   obtain ⟨q0, q1, q2, rfl⟩ := h2'
   rw [hv] at s2
   have g0 := hc n _ s1 0 (.bool true) rfl
   have g1 := hc n _ s1 1 _ rfl
   have g2 := hc n _ s1 2 _ rfl
   have g3 := hc n _ s1 3 _ rfl
   have g4 := hc n _ s1 4 _ rfl
   rw [q0] at g1
   rw [q1] at g2
   rw [q2] at g3
   simp only [Nat.zero_add, Nat.add_zero] at g0 g1 g2 g3 g4
   exact ⟨t, k, m, s, au, l, cu, rfl, g0, g1, g2, g3, g4, s2⟩
theorem given_at (h : IsB V F w p N R) (n : Int) (hn : I64 n) : Calls Try.prog 98 #[p, .int .i64 n] w fun e w' => e = .returned (.bool (decide (0 ≤ n) && decide (n < N))) ∧ w = w' := by
 have hN := h.tri.2
 obtain ⟨bt, a, c, bs, rfl, hlt, c0, c1, h1, h2, hs⟩ := h.open
 clear hs h
 unfold I64 at hn
 by_cases g : 0 ≤ n
 ·by_cases g2 : n < N
  ·have hr : (decide (0 ≤ n) && decide (n < N)) = true := by simp [g, g2]
   rw [hr]
   go_enter Try.func98, Try.ntmps98
   go_wp2
   go_ret
   exact ⟨rfl, rfl⟩
  ·have hr : (decide (0 ≤ n) && decide (n < N)) = false := by simp [g2]
   rw [hr]
   have g3 : decide (n < N) = false := by simpa using g2
   go_enter Try.func98, Try.ntmps98
   go_wp2
   go_ret
   exact ⟨rfl, rfl⟩
 ·have hr : (decide (0 ≤ n) && decide (n < N)) = false := by simp [g]
  rw [hr]
  go_enter Try.func98, Try.ntmps98
  go_wp2
  go_ret
  exact ⟨rfl, rfl⟩
theorem Len_at (h : IsB V F w p N R) : Calls Try.prog 139 #[p] w fun e w' => e = .returned (.int .i64 N) ∧ w = w' := by
 obtain ⟨bt, a, c, bs, rfl, hlt, c0, c1, h1, h2, hs⟩ := h.open
 clear hs h
 go_enter Try.func139, Try.ntmps139
 go_wp2
 go_ret
 exact ⟨rfl, rfl⟩
theorem Mark_at (h : IsB V F w p N R) : Calls Try.prog 25 #[p] w fun e w' => e = .returned (.int .i64 R.length) ∧ w = w' := by
 have hM : ∀ bt a c bs, p = .pointer (some ⟨bt, 0, none⟩) → w.cell? ⟨bt, 0, none⟩ = some (.slice a N c) → w.cell? ⟨bt, 1, none⟩ = some (.pointer (some ⟨bs, 0, none⟩)) → ∃ G, StkL G w (.pointer (some ⟨bs, 0, none⟩)) 65536 (trailV R) := by
  intro bt a c bs e e0 e1
  obtain ⟨bt, v, q, G, sl, rfl, rfl, h1, h2, h3, h4, h5, h6, h7, _⟩ := h
  cases e
  have : w.cell? ⟨bt, 1, none⟩ = some q := by simp [blk_cell h4]
  rw [e1] at this
  cases this
  exact ⟨G, h7⟩
 obtain ⟨bt, a, c, bs, rfl, hlt, c0, c1, h1, h2, hs⟩ := h.open
 obtain ⟨G, hG⟩ := hM _ _ _ _ rfl c0 c1
 have hl : (trailV R).length = R.length := by simp [trailV]
 have M := markL hG
 rw [hl] at M
 clear hs h hM hG hl
 go_enter Try.func25, Try.ntmps25
 (go_wp2_with fail; go_fit (M); rintro e w' ⟨rfl, rfl⟩)
 go_wp2
 go_ret
 exact ⟨rfl, rfl⟩
end
end Go.Proofs.Ytchbbaehdcmcfaa
/- Package bind: stands, Walk. -/
namespace Go.Proofs.Ytchbbaehdcmcfaa
open Go.RowKit
set_option linter.unusedVariables false
section
variable {V w : World} {F : List Nat} {p : Value} {N : Nat} {R : List (Int × Tm)}
set_option maxHeartbeats 2000000 in
theorem stands_not {k n : Int} {s : ByteArray} {u : Value} (hk : ¬ k = 0) (p : Value) (w : World) : Calls Try.prog 122 #[p, .agg #[.int .i64 k, .int .i64 n, .string s, u]] w fun e w' => e = .returned (.bool false) ∧ Below w.heap.size w w' := by
 have hk' : (k == 0) = false := beq_false_of_ne hk
 go_enter Try.func122, Try.ntmps122
 go_wp2_with fail
 go_quiet (fail)
 go_wp2
 go_ret
 exact ⟨rfl, belN (bel1' w _) _⟩
set_option maxHeartbeats 2000000 in
theorem stands_var (h : IsB V F w p N R) (n : Nat) (hn : n < N) (a : Option Addr) (c : Nat) : Calls Try.prog 122 #[p, .agg #[.int .i64 0, .int .i64 n, .string ⟨#[]⟩, .slice a 0 c]] w fun e w' => e = .returned (.bool (getB R n).isSome) ∧ Below w.heap.size w w' := by
 have hN := h.tri.2
 have HG := Lib.hid (fun wq (hb : Below w.heap.size w wq) => given_at (h.ext hb) (n : Int) (by unfold I64; omega))
 have hr : (decide ((0 : Int) ≤ n) && decide ((n : Int) < N)) = true := by simp [hn]
 obtain ⟨bt, av, cv, bs, rfl, hlt, c0, c1, h1, h2, hs⟩ := h.open
 obtain ⟨g, rfl, hsl⟩ := hs n hn
 clear hs
 have d0 := fun o => Lib.cell?_alloc_some o c0
 rw [hr] at HG
 have he : ((⟨#[]⟩ : ByteArray).toList == []) = true := by rw [Lib.toList_data]; rfl
 rcases hsl with ⟨hg, e0⟩ | ⟨t, k, m, s, au, l, cu, hg, e0, _⟩
 ·rw [hg]
  have e1 := fun o => Lib.cell?_alloc_some o e0
  clear h hr hg c0 c1 e0
  go_enter Try.func122, Try.ntmps122
  go_wp2_with fail
  (refine wp_region_class (fun w' => (w'.cell? ⟨bt, 0, none⟩ = some (.slice (some ⟨g, 0, none⟩) N cv) ∧ w'.cell? ⟨g, n * 5, none⟩ = some (.bool false) ∧ w'.cell? ⟨w.heap.size, 0, none⟩ = some (.int .i64 0) ∧ w'.cell? ⟨w.heap.size, 1, none⟩ = some (.int .i64 n) ∧ w'.cell? ⟨w.heap.size, 2, none⟩ = some (.string ⟨#[]⟩) ∧ w'.cell? ⟨w.heap.size, 3, none⟩ = some (.slice a 0 c)) ∧ Below w.heap.size w w') (by kernel_rfl) (by kernel_rfl) (⟨⟨d0 _, e1 _, by simp, by simp, by simp, by simp⟩, (bel1' w _).drew⟩) ?_; (repeat (first | go_big_quiet_skip | (go_big_quiet_want; refine quiet_of ?_; apply Exists.intro; refine ⟨fun wq hq => ?_, ?_⟩; (focus ((try dsimp only at hq); go_simp; (first | done | with_reducible rfl | ((go_at_call 98; refine (HG.out wq hq.2).mono ?_; rintro e w6 ⟨rfl, rfl⟩; exact ⟨rfl, hq⟩)) | fail))); try simp only [Act.put, lay4]; go_big_quiet_on) | fail)); refine wpQuiet_nil ?_; intro wz hz)
  go_wp2
  go_ret
  exact ⟨rfl, hz.2⟩
 ·rw [hg]
  have e1 := fun o => Lib.cell?_alloc_some o e0
  clear h hr hg c0 c1 e0
  go_enter Try.func122, Try.ntmps122
  go_wp2_with fail
  (refine wp_region_class (fun w' => (w'.cell? ⟨bt, 0, none⟩ = some (.slice (some ⟨g, 0, none⟩) N cv) ∧ w'.cell? ⟨g, n * 5, none⟩ = some (.bool true) ∧ w'.cell? ⟨w.heap.size, 0, none⟩ = some (.int .i64 0) ∧ w'.cell? ⟨w.heap.size, 1, none⟩ = some (.int .i64 n) ∧ w'.cell? ⟨w.heap.size, 2, none⟩ = some (.string ⟨#[]⟩) ∧ w'.cell? ⟨w.heap.size, 3, none⟩ = some (.slice a 0 c)) ∧ Below w.heap.size w w') (by kernel_rfl) (by kernel_rfl) (⟨⟨d0 _, e1 _, by simp, by simp, by simp, by simp⟩, (bel1' w _).drew⟩) ?_; (repeat (first | go_big_quiet_skip | (go_big_quiet_want; refine quiet_of ?_; apply Exists.intro; refine ⟨fun wq hq => ?_, ?_⟩; (focus ((try dsimp only at hq); go_simp; (first | done | with_reducible rfl | ((go_at_call 98; refine (HG.out wq hq.2).mono ?_; rintro e w6 ⟨rfl, rfl⟩; exact ⟨rfl, hq⟩)) | fail))); try simp only [Act.put, lay4]; go_big_quiet_on) | fail)); refine wpQuiet_nil ?_; intro wz hz)
  go_wp2
  go_ret
  exact ⟨rfl, hz.2⟩
end
end Go.Proofs.Ytchbbaehdcmcfaa
/- Package bind: Walk. -/
namespace Go.Proofs.Ytchbbaehdcmcfaa
open Go.RowKit
set_option linter.unusedVariables false
structure Wk (N : Nat) (R : List (Int × Tm)) (x y : Tm) : Prop where
 same : subT (fullB R) y = subT (fullB R) x
 good : goodT y = true
 rng : ∀ m ∈ occT y, 0 ≤ m ∧ m < N
def topB (R : List (Int × Tm)) (y : Tm) : Prop := y.k = 0 → getB R y.n = none
def hgt (r : Int → Nat) (y : Tm) : Nat := if y.k = 0 then r y.n + 1 else 0
theorem hgt_less {R : List (Int × Tm)} {r : Int → Nat} (hr : ∀ p ∈ R, ∀ j ∈ occT p.2, r j < r p.1) {n : Int} {t : Tm} (h : getB R n = some t) : hgt r t < r n + 1 := by
 cases t with
 | mk k m s ts =>
  unfold hgt
  by_cases hk : k = 0
  ·subst hk
   have := hr _ (get_mem h) m (by rw [occ_var]; simp)
   show (if (0 : Int) = 0 then r m + 1 else 0) < r n + 1
   rw [if_pos rfl]
   show r m + 1 < r n + 1
   have h2 : r m < r n := this
   omega
  ·have : (Tm.mk k m s ts).k ≠ 0 := hk
   rw [if_neg this]
   omega
theorem Wk.step {N : Nat} (hN : N ≤ 65536) {R : List (Int × Tm)} (hT : Tri N R) {x : Tm} {n : Int} {t : Tm} (h : Wk N R x (varV n)) (hg : getB R n = some t) : Wk N R x t := by
 have hm := get_mem hg
 have h1 := hT.mem hm
 refine ⟨?_, h1.2.2.1, h1.2.2.2⟩
 rw [← h.same, sub_varV]
 exact (full_mem hN hT hm).symm
theorem dom_iff {R : List (Int × Tm)} {m : Int} : (getB R m).isSome = true ↔ m ∈ domB R := by
 cases h : getB R m with
 | none =>
  have := get_none.1 h
  simp [this]
 | some t =>
  have : m ∈ domB R := List.mem_map.2 ⟨_, get_mem h, rfl⟩
  simp [this]
section
variable {V w : World} {F : List Nat} {p : Value} {N : Nat} {R : List (Int × Tm)}
set_option maxHeartbeats 4000000 in
theorem Walk_at (h : IsB V F w p N R) {x : Tm} {v : Value} (hv : TmV V x v) (hg : goodT x = true) (ho : ∀ m ∈ occT x, 0 ≤ m ∧ m < N) :
  Calls Try.prog 99 #[p, v] w fun e w' => ∃ y v', e = .returned v' ∧ TmV V y v' ∧ Wk N R x y ∧ topB R y ∧ Below w.heap.size w w' := by
 obtain ⟨hT, hN⟩ := h.tri
 obtain ⟨r, hr⟩ := high hN hT
 obtain ⟨bt, av, cv, bs, rfl, hlt, c0, c1, h1, h2, hs⟩ := h.open
 obtain ⟨kx, nx, sx, ax, mx, cx, rfl, fk, fn, fs, fv⟩ := four_of hv
 clear fs fv
 obtain ⟨w1, e1, B1, z1, X1⟩ := box_new w #[.int .i64 kx, .int .i64 nx, .string sx, .slice ax mx cx] 31
 obtain ⟨w2, e2, B2, z2, X2⟩ := box_new w1 #[.int .i64 0, .int .i64 0, .string ⟨#[]⟩, .slice none 0 0] 31
 have X1 := X1.ext B2
 rw [z1] at X2
 have HB := Lib.hid (h)
 have HX := Lib.hid (show (TmV V x (.agg #[.int .i64 kx, .int .i64 nx, .string sx, .slice ax mx cx])) ∧ Wk N R x x ∧ (∀ p ∈ R, ∀ j ∈ occT p.2, r j < r p.1) from ⟨hv, ⟨rfl, hg, ho⟩, hr⟩)
 have HW := Lib.hid (show Below w.heap.size w w2 from Ext.trans' B1 B2)
 have HS := Lib.hid hs
 have HB2 := Lib.hid (And.intro X1 X2)
 have HT := Lib.hid (And.intro hT hN)
 have HC := Lib.hid (And.intro c0 hlt)
 have HK := Lib.hid (And.intro fk fn)
 clear hs h hv hg ho hr B1 B2 X1 X2 hT hN z2 c0 c1 h1 h2 fk fn
 go_enter Try.func99, Try.ntmps99
 go_wp2_with fail
 (try rw [e1])
 (try rw [e2])
 clear e1 e2 z1
 go_loopg [] (hgt r x) (fun g wr => ∃ (y : Tm) (k n : Int) (s : ByteArray) (a : Option Addr) (m c : Nat), TmV V y (.agg #[.int .i64 k, .int .i64 n, .string s, .slice a m c]) ∧ (y.k = k ∧ y.n = n) ∧ Wk N R x y ∧ g = hgt r y ∧ Below w.heap.size w wr ∧ Box wr w.heap.size [.int .i64 k, .int .i64 n, .string s, .slice a m c] ∧ Box wr (w.heap.size + 1) [.int .i64 0, .int .i64 0, .string ⟨#[]⟩, .slice none 0 0])
 case atStart => exact ⟨x, kx, nx, sx, ax, mx, cx, HX.out.1, HK.out, HX.out.2.1, rfl, HW.out, HB2.out.1, HB2.out.2⟩
 case round =>
  obtain ⟨y, k, n, s, a, m, c, hy, ⟨hyk, hyn⟩, hwk, hgk, hbw, hbx, hbz⟩ := hrel
  by_cases hk : k = 0
  ·subst hk
   obtain ⟨yk, yn, ys, yt⟩ := y
   cases (show yk = 0 from hyk)
   cases (show yn = n from hyn)
   have hf := (good_parts hwk.good).2.2
   obtain ⟨hvar, hn0, hn1⟩ := formed_var hf
   have hrg := hwk.rng n (by rw [occ_var]; simp)
   obtain ⟨i, rfl⟩ : ∃ i : Nat, n = i := ⟨n.toNat, by omega⟩
   rw [hvar] at hy hwk hgk
   have hiN : i < N := by omega
   obtain ⟨u, hu, _, _, _, hU⟩ := tmV_iff.1 (show TmV V (.mk 0 i ⟨#[]⟩ []) _ from hy)
   obtain ⟨a', c', rfl, _⟩ := hU.len
   simp only [Value.agg.injEq] at hu
   have hu' := congrArg Array.toList hu
   simp only [List.cons.injEq, and_true, true_and, Value.string.injEq, Value.slice.injEq, List.length_nil] at hu'
   obtain ⟨rfl, rfl, rfl, rfl⟩ := hu'
   have C := stands_var (HB.out.ext hbw) i hiN a c
   obtain ⟨x0, x1, x2, x3, xf⟩ := hbx.four
   cases hgt' : getB R i with
   | none =>
    rw [hgt'] at C
    have HY := Lib.hid (show TmV V (varV i) (.agg #[.int .i64 0, .int .i64 i, .string ⟨#[]⟩, .slice a 0 c]) ∧ Wk N R x (varV i) ∧ topB R (varV i) from ⟨hy, hwk, fun _ => hgt'⟩)
    have HBW := Lib.hid hbw
    have HZ := Lib.hid hbz
    have HXX := Lib.hid hbx
    clear hu hU hvar hf hrg hy hwk hgk hbw hbx hbz hgt' hn0 hn1 hyk hyn
    go_wp2_with fail
    go_fit (C)
    rintro e w6 ⟨rfl, b6⟩
    obtain ⟨d0, d1, d2, d3, df⟩ := (HXX.out.ext b6).four
    obtain ⟨z0, z1, z2, z3, zf⟩ := (HZ.out.ext b6).four
    have HB6 := Lib.hid (HBW.out.trans (b6.mono HBW.out.size))
    clear b6 x0 x1 x2 x3 xf
    go_wp2
    refine bodyPost_ret (v := .agg #[.int .i64 0, .int .i64 i, .string ⟨#[]⟩, .slice a 0 c]) (by rw [results_cell1 rfl]; go_simp) rfl ⟨varV i, _, rfl, HY.out.1, HY.out.2.1, HY.out.2.2, ?_⟩
    exact Below.set4 HB6.out (by omega) _ _ _ _
   | some t =>
    rw [hgt'] at C
    obtain ⟨g, rfl, hsl⟩ := HS.out i hiN
    rcases hsl with ⟨hno, _⟩ | ⟨t', tk, tm, tsn, ta, tl, tc, ht', s0, s1, s2, s3, s4, htm⟩
    ·rw [hno] at hgt'; cases hgt'
    rw [hgt'] at ht'
    cases ht'
    obtain ⟨q1, q2, q3, q4, q5, q6, hq, hqk, hqn, hqs, hqv⟩ := four_of htm
    simp only [Value.agg.injEq] at hq
    have hq' := congrArg Array.toList hq
    simp only [List.cons.injEq, and_true, true_and, Value.int.injEq, Value.string.injEq, Value.slice.injEq] at hq'
    obtain ⟨rfl, rfl, rfl, rfl, rfl, rfl⟩ := hq'
    have HY := Lib.hid (show TmV V t (.agg #[.int .i64 tk, .int .i64 tm, .string tsn, .slice ta tl tc]) ∧ (t.k = tk ∧ t.n = tm) ∧ Wk N R x t ∧ hgt r t < hgt r (varV i) from ⟨htm, ⟨hqk, hqn⟩, Wk.step HT.out.2 HT.out.1 hwk hgt', hgt_less HX.out.2.2 hgt'⟩)
    have HBW := Lib.hid hbw
    have HZ := Lib.hid hbz
    have HXX := Lib.hid hbx
    have HG := Lib.hid hgk
    have S0 := Lib.hid (And.intro s1 (And.intro s2 (And.intro s3 s4)))
    clear hu hU hvar hf hrg hy hwk hgk hbw hbx hbz hgt' hn0 hn1 hyk hyn hq hqk hqn hqs hqv htm s0 s1 s2 s3 s4
    go_wp2_with fail
    go_fit (C)
    rintro e w6 ⟨rfl, b6⟩
    obtain ⟨d0, d1, d2, d3, df⟩ := (HXX.out.ext b6).four
    have HB6 := Lib.hid (HBW.out.trans (b6.mono HBW.out.size))
    have g0 := cell_later HB6.out HC.out.1
    have g1 := cell_later HB6.out S0.out.1
    have g2 := cell_later HB6.out S0.out.2.1
    have g3 := cell_later HB6.out S0.out.2.2.1
    have g4 := cell_later HB6.out S0.out.2.2.2
    have HX6 := Lib.hid (And.intro (HXX.out.ext b6) (HZ.out.ext b6))
    clear b6 x0 x1 x2 x3 xf
    go_wp2_with fail
    go_region
    go_wp2
    go_roundg (hgt r t)
    case measure => rw [HG.out]; exact HY.out.2.2.2
    case rel =>
     have hb4 : Below w.heap.size w (set4 w6 w.heap.size (.int .i64 tk) (.int .i64 tm) (.string tsn) (.slice ta tl tc)) := Below.set4 HB6.out (Nat.le_refl _) _ _ _ _
     have hx4 : Box (set4 w6 w.heap.size (.int .i64 tk) (.int .i64 tm) (.string tsn) (.slice ta tl tc)) w.heap.size [.int .i64 tk, .int .i64 tm, .string tsn, .slice ta tl tc] :=
      (((HX6.out.1.set (k := 0) (by simp)).set (k := 1) (by simp)).set (k := 2) (by simp)).set (k := 3) (by simp)
     have hz4 : Box (set4 w6 w.heap.size (.int .i64 tk) (.int .i64 tm) (.string tsn) (.slice ta tl tc)) (w.heap.size + 1) _ := (((HX6.out.2.far (c := w.heap.size) (by omega)).far (by omega)).far (by omega)).far (by omega)
     exact ⟨t, tk, tm, tsn, ta, tl, tc, HY.out.1, HY.out.2.1, HY.out.2.2.1, rfl, hb4.drew, hx4.ext (Below.refl _ _).drew, hz4.ext (Below.refl _ _).drew⟩
  ·have C := stands_not (n := n) (s := s) (u := .slice a m c) hk (.pointer (some ⟨bt, 0, none⟩)) wr
   have HY := Lib.hid (show TmV V y (.agg #[.int .i64 k, .int .i64 n, .string s, .slice a m c]) ∧ Wk N R x y ∧ topB R y from ⟨hy, hwk, fun h => absurd (hyk.symm.trans h) hk⟩)
   obtain ⟨x0, x1, x2, x3, xf⟩ := hbx.four
   have HBW := Lib.hid hbw
   have HZ := Lib.hid hbz
   have HXX := Lib.hid hbx
   clear hy hwk hgk hbw hbx hbz hyk hyn hk
   go_wp2_with fail
   go_fit (C)
   rintro e w6 ⟨rfl, b6⟩
   obtain ⟨d0, d1, d2, d3, df⟩ := (HXX.out.ext b6).four
   obtain ⟨z0, z1, z2, z3, zf⟩ := (HZ.out.ext b6).four
   have HB6 := Lib.hid (HBW.out.trans (b6.mono HBW.out.size))
   clear b6 x0 x1 x2 x3 xf
   go_wp2
   refine bodyPost_ret (v := .agg #[.int .i64 k, .int .i64 n, .string s, .slice a m c]) (by rw [results_cell1 rfl]; go_simp) rfl ⟨y, _, rfl, HY.out.1, HY.out.2.1, HY.out.2.2, ?_⟩
   exact Below.set4 HB6.out (by omega) _ _ _ _
end
end Go.Proofs.Ytchbbaehdcmcfaa
/- The document's side of chapter 11: its Binds in memory; Walk. -/
namespace Go.Proofs.Ytchbbaehdcmcfaa
open Go.RowKit
set_option linter.unusedVariables false
structure RefOK (V : World) (N : Nat) (R : List (Int × Tm)) (ts : List TmP) (bs : List Bool) : Prop where
 is : ∀ i : Nat, i < N → bs[i]? = some (getB R i).isSome
 held : ∀ (i : Nat) (t : Tm), getB R i = some t → ∃ u, ts[i]? = some (t, u) ∧ TmV V t (pVal (t, u))
def IsR (V : World) (F : List Nat) (w : World) (p : Value) (N : Nat) (R : List (Int × Tm)) : Prop :=
 ∃ bt v1 v2 v3 ts bs, p = .pointer (some ⟨bt, 0, none⟩) ∧ F = bt :: (v1.ownBlock.toList ++ (v2.ownBlock.toList ++ v3.ownBlock.toList)) ∧ F.Nodup ∧ w.heap[bt]? = some (.cells #[v1, v2, v3] 62 (0, 0)) ∧
  ts.length = N ∧ bs.length = N ∧ w.ownsRow 0 54 4 v1 N (ts.flatMap pCells) ∧ w.ownsRow 0 4 1 v2 N (bs.map Value.bool) ∧ w.ownsRow 0 2 1 v3 R.length (trailV R) ∧
  RefOK V N R ts bs ∧ Tri N R ∧ N ≤ 65536 ∧ Stays V w ∧ Blind V F
section
variable {V w : World} {F : List Nat} {p : Value} {N : Nat} {R : List (Int × Tm)}
theorem IsR.tri (h : IsR V F w p N R) : Tri N R ∧ N ≤ 65536 := by
 obtain ⟨bt, v1, v2, v3, ts, bs, rfl, rfl, hn, h1, h2, h3, h4, h5, h6, h7, h8, h9, h10, h11⟩ := h
 exact ⟨h8, h9⟩
theorem IsR.see (h : IsR V F w p N R) : Stays V w ∧ Blind V F := by
 obtain ⟨bt, v1, v2, v3, ts, bs, rfl, rfl, hn, h1, h2, h3, h4, h5, h6, h7, h8, h9, h10, h11⟩ := h
 exact ⟨h10, h11⟩
theorem IsR.lt (h : IsR V F w p N R) : ∀ k ∈ F, k < w.heap.size := by
 obtain ⟨bt, v1, v2, v3, ts, bs, rfl, rfl, hn, h1, h2, h3, h4, h5, h6, h7, h8, h9, h10, h11⟩ := h
 intro k hk
 simp only [List.mem_cons, List.mem_append, Option.mem_toList] at hk
 rcases hk with rfl | hk | hk | hk
 ·exact (Array.getElem?_eq_some_iff.1 h1).1
 ·exact (h4.lt k hk).2
 ·exact (h5.lt k hk).2
 ·exact (h6.lt k hk).2
theorem IsR.keep {w' : World} (h : IsR V F w p N R) (hb : ∀ k ∈ F, w'.heap[k]? = w.heap[k]?) (hs : Stays V w') : IsR V F w' p N R := by
 obtain ⟨bt, v1, v2, v3, ts, bs, rfl, rfl, hn, h1, h2, h3, h4, h5, h6, h7, h8, h9, h10, h11⟩ := h
 exact ⟨bt, v1, v2, v3, ts, bs, rfl, rfl, hn, (hb bt (by simp)).trans h1, h2, h3, owns_row_block h4 (fun k hk => hb k (by simp [hk])), owns_row_block h5 (fun k hk => hb k (by simp [hk])), owns_row_block h6 (fun k hk => hb k (by simp [hk])), h7, h8, h9, hs, h11⟩
theorem IsR.ext {w' : World} (h : IsR V F w p N R) (hb : Below w.heap.size w w') : IsR V F w' p N R := h.keep (fun k hk => hb.block k (h.lt k hk)) (h.see.1.later hb)
theorem IsR.from {V' : World} (h : IsR V F w p N R) (hv : Stays V V') (hs : Stays V' w) (hb : Blind V' F) : IsR V' F w p N R := by
 obtain ⟨bt, v1, v2, v3, ts, bs, rfl, rfl, hn, h1, h2, h3, h4, h5, h6, h7, h8, h9, h10, h11⟩ := h
 exact ⟨bt, v1, v2, v3, ts, bs, rfl, rfl, hn, h1, h2, h3, h4, h5, h6, ⟨h7.is, fun i t hi => by
  obtain ⟨u, e1, e2⟩ := h7.held i t hi
  exact ⟨u, e1, TmV.stay hv _ _ e2⟩⟩, h8, h9, hs, hb⟩
theorem IsR.touch {w' : World} {T : List Nat} (h : IsR V F w p N R) (ht : Touch T w w') (hF : ∀ k ∈ T, ¬ k ∈ F) (hb : Blind V T) : IsR V F w' p N R :=
 h.keep (fun k hk => ht.block k (h.lt k hk) (fun hm => hF k hm hk)) (h.see.1.touch hb ht)
theorem bools_flat (bs : List Bool) : bs.map Value.bool = bs.flatMap (fun b => [Value.bool b]) := by
 induction bs with
 | nil => rfl
 | cons b r ih => rw [List.map_cons, List.flatMap_cons, ih]; rfl
theorem IsR.open (h : IsR V F w p N R) : ∃ bt a1 c1 a2 c2 a3 c3, p = .pointer (some ⟨bt, 0, none⟩) ∧ bt < w.heap.size ∧ w.cell? ⟨bt, 0, none⟩ = some (.slice a1 N c1) ∧ w.cell? ⟨bt, 1, none⟩ = some (.slice a2 N c2) ∧ w.cell? ⟨bt, 2, none⟩ = some (.slice a3 R.length c3) ∧
  ∀ n : Nat, n < N → ∃ g1 g2, a1 = some ⟨g1, 0, none⟩ ∧ a2 = some ⟨g2, 0, none⟩ ∧ w.cell? ⟨g2, n, none⟩ = some (.bool (getB R n).isSome) ∧
   ∀ t, getB R n = some t → ∃ k m s au l cu, w.cell? ⟨g1, n * 4, none⟩ = some (.int .i64 k) ∧ w.cell? ⟨g1, n * 4 + 1, none⟩ = some (.int .i64 m) ∧ w.cell? ⟨g1, n * 4 + 2, none⟩ = some (.string s) ∧ w.cell? ⟨g1, n * 4 + 3, none⟩ = some (.slice au l cu) ∧ TmV V t (.agg #[.int .i64 k, .int .i64 m, .string s, .slice au l cu]) ∧ (t.k = k ∧ t.n = m) := by
 obtain ⟨bt, v1, v2, v3, ts, bs, rfl, rfl, hn, h1, h2, h3, h4, h5, h6, h7, h8, h9, h10, h11⟩ := h
 have r1 := h4
 rw [← h2] at r1
 obtain ⟨a1, c1, rfl, e1, e2, e3⟩ := Elems.owned (cells := pCells) (fun _ => rfl) r1
 have r2 := h5
 rw [bools_flat, ← h3] at r2
 obtain ⟨a2, c2, rfl, f1, f2, f3⟩ := Elems.owned (cells := fun b : Bool => [Value.bool b]) (fun _ => rfl) r2
 obtain ⟨a3, c3, hv3⟩ : ∃ a3 c3, v3 = .slice a3 R.length c3 := by
  rcases h6.2 with ⟨e, hz⟩ | ⟨g, cap, cur, e, _⟩
  ·exact ⟨none, 0, by rw [e, hz]⟩
  ·exact ⟨_, _, e⟩
 subst hv3
 rw [h2] at e1 h1
 rw [h3] at h1
 refine ⟨bt, a1, c1, a2, c2, a3, c3, rfl, (Array.getElem?_eq_some_iff.1 h1).1, by simp [blk_cell h1], by simp [blk_cell h1], by simp [blk_cell h1], fun n hnN => ?_⟩
 rcases e3 with rfl | ⟨g1, off, rfl, _, q1⟩
 ·simp at h2; omega
 rcases f3 with rfl | ⟨g2, off2, rfl, _, q2⟩
 ·simp at h3; omega
 have ho : off = 0 := by
  rcases h4.2 with ⟨e, _⟩ | ⟨g, cap, cur, e, _⟩
  ·cases e
  ·cases e; rfl
 have ho2 : off2 = 0 := by
  rcases h5.2 with ⟨e, _⟩ | ⟨g, cap, cur, e, _⟩
  ·cases e
  ·cases e; rfl
 subst ho ho2
 have b0 := q2 n _ (h7.is n hnN) 0 _ rfl
 rw [Nat.zero_add, Nat.mul_one, Nat.add_zero] at b0
 refine ⟨g1, g2, rfl, rfl, b0, fun t ht => ?_⟩
 obtain ⟨u, s1, s2⟩ := h7.held n t ht
 obtain ⟨k, m, s, au, l, cu, hv, y1, y2, y3, y4⟩ := four_of s2
 have hv' := hv
 simp only [pVal, Value.agg.injEq] at hv'
 have h2' := congrArg Array.toList hv'
 simp only [List.cons.injEq, and_true] at h2'
 obtain ⟨z0, z1, z2, rfl⟩ := h2'
 rw [hv] at s2
 have g0 := q1 n _ s1 0 _ rfl
 have g1 := q1 n _ s1 1 _ rfl
 have g2 := q1 n _ s1 2 _ rfl
 have g3 := q1 n _ s1 3 _ rfl
 rw [z0] at g0
 rw [z1] at g1
 rw [z2] at g2
 simp only [Nat.zero_add, Nat.add_zero] at g0 g1 g2 g3
 exact ⟨k, m, s, au, l, cu, g0, g1, g2, g3, s2, y1, y2⟩
set_option maxHeartbeats 8000000 in
set_option maxRecDepth 100000 in
theorem RWalk_at (h : IsR V F w p N R) {x : Tm} {v : Value} (hv : TmV V x v) (hg : goodT x = true) (ho : ∀ m ∈ occT x, 0 ≤ m ∧ m < N) :
  Calls Try.prog 104 #[p, v] w fun e w' => ∃ y v', e = .returned v' ∧ TmV V y v' ∧ Wk N R x y ∧ topB R y ∧ Below w.heap.size w w' := by
 obtain ⟨hT, hN⟩ := h.tri
 obtain ⟨r, hr⟩ := high hN hT
 obtain ⟨bt, a1, c1, a2, c2, a3, c3, rfl, hlt, d0, d1, d2, hs⟩ := h.open
 obtain ⟨kx, nx, sx, ax, mx, cx, rfl, fk, fn, fs, fv⟩ := four_of hv
 clear fs fv
 obtain ⟨w1, e1, B1, z1, X1⟩ := box_new w #[.int .i64 kx, .int .i64 nx, .string sx, .slice ax mx cx] 54
 obtain ⟨w2, e2, B2, z2, X2⟩ := box_new w1 #[.int .i64 0, .int .i64 0, .string ⟨#[]⟩, .slice none 0 0] 54
 have X1 := X1.ext B2
 rw [z1] at X2
 have HB := Lib.hid (h)
 have HX := Lib.hid (show (TmV V x (.agg #[.int .i64 kx, .int .i64 nx, .string sx, .slice ax mx cx])) ∧ Wk N R x x ∧ (∀ p ∈ R, ∀ j ∈ occT p.2, r j < r p.1) from ⟨hv, ⟨rfl, hg, ho⟩, hr⟩)
 have HW := Lib.hid (show Below w.heap.size w w2 from Ext.trans' B1 B2)
 have HS := Lib.hid hs
 have HB2 := Lib.hid (And.intro X1 X2)
 have HT := Lib.hid (And.intro hT hN)
 have HC := Lib.hid (And.intro d0 (And.intro d1 hlt))
 have HK := Lib.hid (And.intro fk fn)
 clear hs h hv hg ho hr B1 B2 X1 X2 hT hN z2 d0 d1 d2 fk fn
 go_enter Try.func104, Try.ntmps104
 go_wp2_with fail
 (try rw [e1])
 (try rw [e2])
 clear e1 e2 z1
 go_loopg [] (hgt r x) (fun g wr => ∃ (y : Tm) (k n : Int) (s : ByteArray) (a : Option Addr) (m c : Nat), TmV V y (.agg #[.int .i64 k, .int .i64 n, .string s, .slice a m c]) ∧ (y.k = k ∧ y.n = n) ∧ Wk N R x y ∧ g = hgt r y ∧ Below w.heap.size w wr ∧ Box wr w.heap.size [.int .i64 k, .int .i64 n, .string s, .slice a m c] ∧ Box wr (w.heap.size + 1) [.int .i64 0, .int .i64 0, .string ⟨#[]⟩, .slice none 0 0])
 case atStart => exact ⟨x, kx, nx, sx, ax, mx, cx, HX.out.1, HK.out, HX.out.2.1, rfl, HW.out, HB2.out.1, HB2.out.2⟩
 case round =>
  obtain ⟨y, k, n, s, a, m, c, hy, ⟨hyk, hyn⟩, hwk, hgk, hbw, hbx, hbz⟩ := hrel
  have HBW := Lib.hid hbw
  have HZ := Lib.hid hbz
  have HXX := Lib.hid hbx
  obtain ⟨x0, x1, x2, x3, xf⟩ := hbx.four
  have g0 := cell_later hbw HC.out.1
  have g1 := cell_later hbw HC.out.2.1
  by_cases hk : k = 0
  ·subst hk
   have hr0 := hwk.rng n (by
    obtain ⟨yk, yn, ys, yt⟩ := y
    cases (show yk = 0 from hyk)
    cases (show yn = n from hyn)
    rw [(formed_var (good_parts hwk.good).2.2).1]
    show n ∈ occT (.mk 0 n ⟨#[]⟩ [])
    rw [occ_var]
    simp)
   obtain ⟨i, rfl⟩ : ∃ i : Nat, n = i := ⟨n.toNat, by omega⟩
   have hiN : i < N := by omega
   have hi0 : (0 : Int) ≤ i := by omega
   have hiN2 : (i : Int) < N := by omega
   obtain ⟨q1, q2, rfl, rfl, s0, hsl⟩ := HS.out i hiN
   have s0' := cell_later hbw s0
   cases hgt' : getB R i with
   | none =>
    rw [hgt'] at s0'
    have s0' : wr.cell? ⟨q2, i, none⟩ = some (.bool false) := s0'
    have HY := Lib.hid (show TmV V y (.agg #[.int .i64 0, .int .i64 i, .string s, .slice a m c]) ∧ Wk N R x y ∧ topB R y from ⟨hy, hwk, fun _ => by rw [hyn]; exact hgt'⟩)
    clear hy hwk hgk hbw hbx hbz hyk hyn hr0 s0 hsl hgt' hi0 hiN
    go_wp2_with fail
    go_quiet (fail)
    obtain ⟨d0, d1, d2, d3, df⟩ := (HXX.out.ext (belN (Below.refl _ _) nq)).four
    obtain ⟨z0, z1, z2, z3, zf⟩ := (HZ.out.ext (belN (Below.refl _ _) nq)).four
    have HB6 := Lib.hid (belN HBW.out nq)
    clear x0 x1 x2 x3 xf g0 g1 s0'
    generalize wr.drewN nq = w6 at *
    go_wp2
    refine bodyPost_ret (v := .agg #[.int .i64 0, .int .i64 i, .string s, .slice a m c]) (by rw [results_cell1 rfl]; go_simp) rfl ⟨y, _, rfl, HY.out.1, HY.out.2.1, HY.out.2.2, ?_⟩
    exact Below.set4 HB6.out (by omega) _ _ _ _
   | some t =>
    rw [hgt'] at s0'
    have s0' : wr.cell? ⟨q2, i, none⟩ = some (.bool true) := s0'
    obtain ⟨tk, tm, tsn, ta, tl, tc, s1, s2, s3, s4, htm, hqk, hqn⟩ := hsl t hgt'
    have hyvar : y = varV i := by
     obtain ⟨yk, yn, ys, yt⟩ := y
     cases (show yk = 0 from hyk)
     cases (show yn = (i : Int) from hyn)
     exact (formed_var (good_parts hwk.good).2.2).1
    subst hyvar
    have HY := Lib.hid (show TmV V t (.agg #[.int .i64 tk, .int .i64 tm, .string tsn, .slice ta tl tc]) ∧ (t.k = tk ∧ t.n = tm) ∧ Wk N R x t ∧ hgt r t < hgt r (varV i) from ⟨htm, ⟨hqk, hqn⟩, Wk.step HT.out.2 HT.out.1 hwk hgt', hgt_less HX.out.2.2 hgt'⟩)
    have HG := Lib.hid hgk
    have S0 := Lib.hid (And.intro s1 (And.intro s2 (And.intro s3 s4)))
    clear hy hwk hgk hbw hbx hbz hyk hyn hr0 s0 hsl hgt' hqk hqn htm s1 s2 s3 s4
    go_wp2_with fail
    go_quiet (fail)
    obtain ⟨d0, d1, d2, d3, df⟩ := (HXX.out.ext (belN (Below.refl _ _) nq)).four
    have HB6 := Lib.hid (belN HBW.out nq)
    have HX6 := Lib.hid (And.intro (HXX.out.ext (belN (Below.refl _ _) nq)) (HZ.out.ext (belN (Below.refl _ _) nq)))
    clear x0 x1 x2 x3 xf g0 g1 s0'
    generalize wr.drewN nq = w6 at *
    have g0 := cell_later HB6.out HC.out.1
    have g1 := cell_later HB6.out S0.out.1
    have g2 := cell_later HB6.out S0.out.2.1
    have g3 := cell_later HB6.out S0.out.2.2.1
    have g4 := cell_later HB6.out S0.out.2.2.2
    go_wp2_with fail
    go_region
    go_wp2
    go_roundg (hgt r t)
    case measure => rw [HG.out]; exact HY.out.2.2.2
    case rel =>
     have hb4 : Below w.heap.size w (set4 w6 w.heap.size (.int .i64 tk) (.int .i64 tm) (.string tsn) (.slice ta tl tc)) := Below.set4 HB6.out (Nat.le_refl _) _ _ _ _
     have hx4 : Box (set4 w6 w.heap.size (.int .i64 tk) (.int .i64 tm) (.string tsn) (.slice ta tl tc)) w.heap.size [.int .i64 tk, .int .i64 tm, .string tsn, .slice ta tl tc] :=
      (((HX6.out.1.set (k := 0) (by simp)).set (k := 1) (by simp)).set (k := 2) (by simp)).set (k := 3) (by simp)
     have hz4 : Box (set4 w6 w.heap.size (.int .i64 tk) (.int .i64 tm) (.string tsn) (.slice ta tl tc)) (w.heap.size + 1) _ := (((HX6.out.2.far (c := w.heap.size) (by omega)).far (by omega)).far (by omega)).far (by omega)
     exact ⟨t, tk, tm, tsn, ta, tl, tc, HY.out.1, HY.out.2.1, HY.out.2.2.1, rfl, hb4.drew, hx4.ext (Below.refl _ _).drew, hz4.ext (Below.refl _ _).drew⟩
  ·have hk' : (k == 0) = false := beq_false_of_ne hk
   have HY := Lib.hid (show TmV V y (.agg #[.int .i64 k, .int .i64 n, .string s, .slice a m c]) ∧ Wk N R x y ∧ topB R y from ⟨hy, hwk, fun h => absurd (hyk.symm.trans h) hk⟩)
   clear hy hwk hgk hbw hbx hbz hyk hyn hk
   go_wp2_with fail
   go_quiet (fail)
   obtain ⟨d0, d1, d2, d3, df⟩ := (HXX.out.ext (belN (Below.refl _ _) nq)).four
   obtain ⟨z0, z1, z2, z3, zf⟩ := (HZ.out.ext (belN (Below.refl _ _) nq)).four
   have HB6 := Lib.hid (belN HBW.out nq)
   clear x0 x1 x2 x3 xf g0 g1
   generalize wr.drewN nq = w6 at *
   go_wp2
   refine bodyPost_ret (v := .agg #[.int .i64 k, .int .i64 n, .string s, .slice a m c]) (by rw [results_cell1 rfl]; go_simp) rfl ⟨y, _, rfl, HY.out.1, HY.out.2.1, HY.out.2.2, ?_⟩
   exact Below.set4 HB6.out (by omega) _ _ _ _
end
end Go.Proofs.Ytchbbaehdcmcfaa
/- Rows of numbers; a term's variables' numbers, one behind the other. -/
namespace Go.Proofs.Ytchbbaehdcmcfaa
open Go.RowKit
set_option linter.unusedVariables false
def Nums (w : World) (v : Value) (l : List Int) : Prop := Elems 1 (fun n => [Value.int .i64 n]) w v l
theorem Nums.ext {w w' : World} {v : Value} {l : List Int} (h : Nums w v l) (hb : Below w.heap.size w w') : Nums w' v l := Elems.ext h hb
theorem Nums.nil (w : World) : Nums w (.slice none 0 0) [] := ⟨none, 0, rfl, Nat.le_refl _, Nat.zero_le _, Or.inl rfl⟩
theorem Nums.get {w : World} {a : Option Addr} {m c : Nat} {l : List Int} (h : Nums w (.slice a m c) l) {i : Nat} {x : Int} (hx : l[i]? = some x) : ∃ b off, a = some ⟨b, off, none⟩ ∧ b < w.heap.size ∧ w.cell? ⟨b, off + i, none⟩ = some (.int .i64 x) := by
 obtain ⟨a', c', e, h1, h2, h3⟩ := h
 cases e
 rcases h3 with rfl | ⟨b, off, rfl, hb, hc⟩
 ·simp at hx
 ·exact ⟨b, off, rfl, hb, by have := hc i x hx 0 _ rfl; simpa using this⟩
theorem Nums.len {w : World} {v : Value} {l : List Int} (h : Nums w v l) : ∃ a c, v = .slice a l.length c ∧ l.length ≤ c ∧ c ≤ maxLen := by
 obtain ⟨a, c, h1, h2, h3, _⟩ := h
 exact ⟨a, c, h1, h2, h3⟩
abbrev numCells (n : Int) : List Value := [Value.int .i64 n]
def RowN (w : World) (base : Nat) (v : Value) (l : List Int) : Prop := w.ownsRow base 2 1 v l.length (l.flatMap numCells)
theorem RowN.nums {w : World} {base : Nat} {v : Value} {l : List Int} (h : RowN w base v l) : Nums w v l := Elems.owned (cells := numCells) (fun _ => rfl) h
theorem RowN.nil (w : World) (base : Nat) : RowN w base (.slice none 0 0) [] := World.ownsRow_nil _ _ _ _
mutual
theorem vars_len : ∀ (t : Tm) (l : List Int), (varsT t l).length ≤ l.length + sizeN t ∧ l.length ≤ (varsT t l).length
 | .mk k n s ts, l => by
  rw [varsT, sizeN]
  by_cases hk : k = 0
  ·rw [if_pos hk]
   split
   ·omega
   ·rw [List.length_append, List.length_singleton]; omega
  ·rw [if_neg hk]
   have := varss_len ts l
   omega
theorem varss_len : ∀ (ts : List Tm) (l : List Int), (varsL ts l).length ≤ l.length + sizesN ts ∧ l.length ≤ (varsL ts l).length
 | [], l => by rw [varsL, sizesN]; omega
 | x :: r, l => by
  rw [varsL, sizesN]
  have h1 := vars_len x l
  have h2 := varss_len r (varsT x l)
  omega
end
theorem varss_step {ts : List Tm} {i : Nat} {y : Tm} (h : ts[i]? = some y) (l : List Int) : varsL (ts.take (i + 1)) l = varsT y (varsL (ts.take i) l) := by
 induction ts generalizing i l with
 | nil => simp at h
 | cons x r ih =>
  cases i with
  | zero => simp at h; subst h; simp [varsL]
  | succ i =>
   simp only [List.take_succ_cons, varsL]
   exact ih (by simpa using h) _
def Kept (w w' : World) (row : Option Nat) : Prop := w.heap.size ≤ w'.heap.size ∧ ∀ k, k < w.heap.size → row ≠ some k → w'.heap[k]? = w.heap[k]?
theorem Kept.of {w w' : World} (h : Below w.heap.size w w') (row : Option Nat) : Kept w w' row := ⟨h.size, fun k hk _ => h.block k hk⟩
theorem Kept.cell {w w' : World} {row : Option Nat} (h : Kept w w' row) {b j : Nat} {u : Value} (hne : row ≠ some b) (hc : w.cell? ⟨b, j, none⟩ = some u) : w'.cell? ⟨b, j, none⟩ = some u := by
 have hb : b < w.heap.size := World.block_lt_of_cell? _ _ hc
 rw [World.cell?_of_block (w := w) (h.2 b hb hne)]
 exact hc
theorem Kept.trans {w w1 w2 : World} {r1 r2 : Option Nat} (h1 : Kept w w1 r1) (h2 : Kept w1 w2 r2) (hr : r2 = r1 ∨ ∀ k, r2 = some k → w.heap.size ≤ k) : Kept w w2 r1 :=
 ⟨Nat.le_trans h1.1 h2.1, fun k hk hne => by
  rw [h2.2 k (Nat.lt_of_lt_of_le hk h1.1) (fun e => by
   rcases hr with hr | hr
   ·exact hne (by rw [← hr]; exact e)
   ·have := hr k e; omega), h1.2 k hk hne]⟩
theorem infoI64 : (Try.prog.info? 2).map (fun i => (i.zero, i.size, i.bytes)) = some (some (.int .i64 0), 1, 8) := by kernel_rfl
end Go.Proofs.Ytchbbaehdcmcfaa
/- Package term: Vars. -/
namespace Go.Proofs.Ytchbbaehdcmcfaa
open Go.RowKit
set_option linter.unusedVariables false
theorem cell_one_new' {w : World} (o : Obj) (v : Value) (ty : TypeId) (j : Nat) (u : Value) (h : [v][j]? = some u) : ((w.alloc o).alloc (.cells #[v] ty)).cell? ((⟨w.heap.size + 1, 0, none⟩ : Addr).add j) = some u := by
 have h1 := cell_new (w.alloc o) #[v] ty j u h
 rwa [show (w.alloc o).heap.size = w.heap.size + 1 by simp] at h1
set_option maxHeartbeats 2000000 in
theorem index_at {w : World} {v : Value} {l : List Int} (h : Nums w v l) (n : Int) : Calls Try.prog 124 #[v, .int .i64 n] w fun e w' => (∃ z : Int, e = .returned (.int .i64 z) ∧ (0 ≤ z ↔ n ∈ l)) ∧ w = w' := by
 obtain ⟨a, c, rfl, h1, h2⟩ := h.len
 unfold maxLen at h2
 obtain ⟨m, hm⟩ : ∃ m, l.length = m := ⟨_, rfl⟩
 have HU := Lib.hid h
 have HM := Lib.hid hm
 rw [hm] at h1 h HU ⊢
 clear h hm
 go_enter Try.func124, Try.ntmps124
 go_wp2_with fail
 go_loop [8] (fun v => ∃ i : Nat, i ≤ m ∧ v = .int .i64 i ∧ Hid (¬ n ∈ l.take i)) (fun v => m - (RowKit.intOf v).toNat)
 case atStart => exact ⟨0, Nat.zero_le _, rfl, Lib.hid (by simp)⟩
 case round =>
  obtain ⟨i, hi, rfl, HT⟩ := hrel
  by_cases hil : i < m
  ·obtain ⟨x, hx⟩ : ∃ x, l[i]? = some x := ⟨_, List.getElem?_eq_getElem (by rw [HM.out]; exact hil)⟩
   obtain ⟨b, off, rfl, _, c0⟩ := HU.out.get hx
   by_cases hxn : n = x
   ·subst hxn
    have HMEM := Lib.hid (List.mem_of_getElem? hx)
    clear hx HT
    go_wp2
    go_ret
    exact ⟨⟨i, rfl, fun _ => HMEM.out, fun _ => by omega⟩, rfl⟩
   ·have HT2 : Hid (¬ n ∈ l.take (i + 1)) := Lib.hid (by
     rw [List.take_add_one, hx]
     intro hmem
     rcases List.mem_append.1 hmem with hh | hh
     ·exact HT.out hh
     ·simp at hh
      exact hxn hh)
    have hxn' : (n == x) = false := beq_false_of_ne hxn
    clear hx HT
    go_wp2
    go_round
    case rel => exact ⟨i + 1, by omega, by go_num, HT2⟩
    case measure => simp [RowKit.intOf]; omega
  ·have HNO : Hid (¬ n ∈ l) := Lib.hid (by
    have := HT.out
    rwa [List.take_of_length_le (by rw [HM.out]; omega)] at this)
   clear HT
   go_wp2
   go_ret
   exact ⟨⟨-1, rfl, fun h => by omega, fun h => absurd h HNO.out⟩, rfl⟩
theorem contains_at {w : World} {v : Value} {l : List Int} (h : Nums w v l) (n : Int) : Calls Try.prog 102 #[v, .int .i64 n] w fun e w' => e = .returned (.bool (l.contains n)) ∧ w = w' := by
 have I := index_at h n
 by_cases hm : n ∈ l
 ·have hr : l.contains n = true := by simpa using hm
  rw [hr]
  have HM := Lib.hid hm
  clear hm hr h
  go_enter Try.func102, Try.ntmps102
  go_wp2_with fail
  go_fit (I)
  rintro e w' ⟨⟨z, rfl, hz⟩, rfl⟩
  have hz0 : 0 ≤ z := hz.2 HM.out
  clear hz
  go_wp2
  go_ret
  exact ⟨rfl, rfl⟩
 ·have hr : l.contains n = false := by simpa using hm
  rw [hr]
  have HM := Lib.hid hm
  clear hm hr h
  go_enter Try.func102, Try.ntmps102
  go_wp2_with fail
  go_fit (I)
  rintro e w' ⟨⟨z, rfl, hz⟩, rfl⟩
  have hz0 : z < 0 := by
   have : ¬ 0 ≤ z := fun hh => HM.out (hz.1 hh)
   omega
  clear hz
  go_wp2
  go_ret
  exact ⟨ret_bool (decide_eq_false (by omega)), rfl⟩
theorem box_grown {w w4 : World} {B : Nat} {lv : Value} {k n : Int} {s : ByteArray} {u : Value} {o : Obj} (h : ∀ q, lv.ownBlock = some q → q < w.heap.size) (hg : ((w.alloc (box4 k n s u 31)).alloc o).grownBy w4 lv.ownBlock) :
  w4.cell? ⟨w.heap.size, 3, none⟩ = some u := by
 have h0 := hg.block w.heap.size (by simp; omega) (fun e => by have := h _ e.symm; omega)
 rw [World.cell?_of_block (w := (w.alloc (box4 k n s u 31)).alloc o) h0]
 simp
set_option maxHeartbeats 4000000 in
set_option maxRecDepth 100000 in
theorem addVars_var {W w : World} {n : Int} {s : ByteArray} {a lv : Option Addr} {lw : Value} {c : Nat} {l : List Int} (hb : Below W.heap.size W w) (hr : RowN w W.heap.size lw l) (hl : l.length ≤ 1000000) (hc : c ≤ maxLen) :
  Calls Try.prog 69 #[lw, .agg #[.int .i64 0, .int .i64 n, .string s, .slice a 0 c]] w fun e w' => ∃ r, e = .returned r ∧ RowN w' W.heap.size r (if l.contains n then l else l ++ [n]) ∧ Below W.heap.size W w' := by
 have hbb := bel1' w (box4 0 n s (.slice a 0 c) 31)
 have hnums := (show RowN (w.alloc (box4 0 n s (.slice a 0 c) 31)) W.heap.size lw l from row_ext hr hbb).nums
 have C := contains_at hnums n
 obtain ⟨i0, hi0, hz0, hs0, hb0⟩ := info_parts infoI64
 have hlt := hr.lt
 obtain ⟨m, hm⟩ : ∃ m, l.length = m := ⟨_, rfl⟩
 have HBW := Lib.hid hb
 have hWs : W.heap.size ≤ w.heap.size := hb.size
 have HROW := Lib.hid hr
 have HBB := Lib.hid hbb
 cases hcn : l.contains n
 ·rw [hcn] at C
  have HR2 : Hid (w.ownsRow W.heap.size 2 1 lw m (l.flatMap numCells)) := Lib.hid (by have := hr; unfold RowN at this; rw [hm] at this; exact this)
  have HM := Lib.hid hm
  have HLT := Lib.hid hlt
  rw [hm] at hl
  obtain ⟨al, cl, rfl, h1⟩ := row_formk HR2.out
  clear hr hb hnums hm hlt hbb hcn
  go_enter Try.func69, Try.ntmps69
  (go_wp2_with fail; go_fit (C); rintro e w1 ⟨rfl, rfl⟩)
  go_wp2_with (at_builtin; refine wpList_append_k rfl _ _ 57 rfl W.heap.size 2 i0 (.int .i64 0) 1 8 Try.underlying57 hi0 hz0 hs0 (by decide) hb0 rfl (.slice al m cl) m (l.flatMap numCells) rfl ((HR2.out.alloc _).alloc _) _ 1 1 [.int .i64 n] rfl rfl (Or.inr ⟨⟨w.heap.size + 1, 0, none⟩, rfl, fun j u hu => by have := cell_one_new' (w := w) (box4 0 n s (.slice a 0 c) 31) (.int .i64 n) 2 j u hu; exact this⟩) (fun u hu => by simp at hu; subst hu; rfl) (by unfold maxLen; omega) (by omega) (by simp; omega) (m + 1) ((l ++ [n]).flatMap numCells) rfl (by rw [List.flatMap_append]; rfl) ?_; intro a4 c4 w4 hown4 hgrow4 hat4; have e3 := box_grown (B := 0) (fun q hq => (HLT.out q hq).2) hgrow4)
  have HFIN : Hid (RowN w4 W.heap.size (.slice a4 (m + 1) c4) (l ++ [n]) ∧ Below W.heap.size W w4) := Lib.hid ⟨by
   unfold RowN
   rw [List.length_append, HM.out]
   exact hown4, ((Ext.trans' HBW.out HBB.out).alloc (by simp; omega) _).grown hgrow4 (by simp; omega) (fun q hq => (HLT.out q hq).1)⟩
  clear hown4 hgrow4 hat4
  go_loop [0, 25] (fun z v => z = .slice a4 (m + 1) c4 ∧ v = .int .i64 0) (fun _ _ => 0)
  case atStart => exact ⟨rfl, rfl⟩
  case round =>
   obtain ⟨rfl, rfl⟩ := hrel
   go_wp2
   go_ret
   exact ⟨_, rfl, HFIN.out⟩
 ·rw [hcn] at C
  clear hr hb hnums hm hlt hbb hcn
  go_enter Try.func69, Try.ntmps69
  (go_wp2_with fail; go_fit (C); rintro e w1 ⟨rfl, rfl⟩)
  go_wp2_with fail
  go_loop [0, 25] (fun z v => z = lw ∧ v = .int .i64 0) (fun _ _ => 0)
  case atStart => exact ⟨rfl, rfl⟩
  case round =>
   obtain ⟨rfl, rfl⟩ := hrel
   go_wp2
   go_ret
   exact ⟨_, rfl, row_ext HROW.out HBB.out, Ext.trans' HBW.out HBB.out⟩
set_option maxHeartbeats 4000000 in
set_option maxRecDepth 100000 in
theorem addVars_at : ∀ (N : Nat) (x : Tm), sizeN x ≤ N → formedT x = true → ∀ (W w : World) (v lv : Value) (l : List Int), TmV W x v → Below W.heap.size W w → RowN w W.heap.size lv l → l.length + sizeN x ≤ 1000000 →
  Calls Try.prog 69 #[lv, v] w fun e w' => ∃ r, e = .returned r ∧ RowN w' W.heap.size r (varsT x l) ∧ Below W.heap.size W w'
 | 0, x, h, hf, W, w, v, lv, l, hv, hb, hr, hl => by have := size_pos x; omega
 | N + 1, .mk k n s ts, h, hf, W, w, v, lv, l, hv, hb, hr, hl => by
  obtain ⟨u, rfl, hs, hki, hni, hu⟩ := tmV_iff.1 hv
  obtain ⟨a, c, rfl, h1, h2, h3⟩ := hu.len
  rw [formedT, Bool.and_eq_true] at hf
  by_cases hk : k = 0
  ·have e : varsT (.mk k n s ts) l = if l.contains n then l else l ++ [n] := by rw [varsT, if_pos hk]
   rw [e]
   subst hk
   have hts : ts.length = 0 := by
    have := hf.1
    unfold plainT at this
    rw [if_pos rfl] at this
    simp at this
    simp [this.2]
   rw [hts]
   have := size_pos (.mk 0 n s ts)
   exact addVars_var (lv := none) hb hr (by omega) h2
  have e : varsT (.mk k n s ts) l = varsL ts l := by rw [varsT, if_neg hk]
  rw [e]
  have hk' : (k == 0) = false := beq_false_of_ne hk
  unfold BIG at h3
  obtain ⟨m, hm⟩ : ∃ m, ts.length = m := ⟨_, rfl⟩
  have IH := Lib.hid (fun (y : Tm) (hy : y ∈ ts) => addVars_at N y (mem_size h hy) (formed_mem hf.2 hy) W)
  have HL := Lib.hid (show l.length + sizesN ts ≤ 1000000 by rw [sizeN] at hl; omega)
  have HU := Lib.hid hu
  have HM := Lib.hid hm
  rw [hm] at h1 h3 hu HU ⊢
  have HBW := Lib.hid hb
  have HROW := Lib.hid hr
  obtain ⟨R, hR⟩ : ∃ R, varsL ts l = R := ⟨_, rfl⟩
  rw [hR]
  have HR := Lib.hid hR
  clear e hk hv hb hr hl hu hm hR h hf
  go_enter Try.func69, Try.ntmps69
  go_wp2_with fail
  go_loopw [0, 25] (fun z v wr => ∃ i : Nat, i ≤ m ∧ v = .int .i64 i ∧ Hid (RowN wr W.heap.size z (varsL (ts.take i) l)) ∧ Hid (Below W.heap.size W wr)) (fun _ v _ => m - (RowKit.intOf v).toNat)
  case atStart => exact ⟨0, Nat.zero_le _, rfl, Lib.hid (by rw [List.take_zero, varsL]; exact row_ext HROW.out (bel1' _ _)), Lib.hid (Ext.trans' HBW.out (bel1' _ _))⟩
  case round =>
   obtain ⟨i, hi, rfl, HZ, HB⟩ := hrel
   by_cases hil : i < m
   ·obtain ⟨y, hy⟩ : ∃ y, ts[i]? = some y := ⟨_, List.getElem?_eq_getElem (by rw [HM.out]; exact hil)⟩
    obtain ⟨b, off, k1, n1, s1, u1, rfl, hbb, _, _, _, c0, c1, c2, c3, htu, ht⟩ := HU.out.get hy
    obtain ⟨au, cu, rfl, _⟩ := htu.len
    clear htu
    have d0 := cell_later HB.out c0
    have d1 := cell_later HB.out c1
    have d2 := cell_later HB.out c2
    have d3 := cell_later HB.out c3
    have hz := sizes_drop' hy
    have hz2 := sizes_take' ts (i + 1)
    have hvl := (varss_len (ts.take i) l).1
    have hbx := bel1' wr (box4 k1 n1 s1 (.slice au y.args.length cu) 31)
    have ih := IH.out y (List.mem_of_getElem? hy) _ _ _ _ ht (HB.out.trans (hbx.mono HB.out.size)) (row_ext HZ.out hbx) (by have := HL.out; omega)
    have hst := varss_step hy l
    rw [← hst] at ih
    clear c0 c1 c2 c3 hz hz2 hvl hst ht hy hbx
    (go_wp2_with fail; go_fit (ih); rintro e w2 ⟨r2, rfl, hr2, b2⟩)
    have HZ2 := Lib.hid hr2
    have HB2 := Lib.hid b2
    clear hr2 b2 HZ HB d0 d1 d2 d3
    go_wp2
    go_roundw
    case rel => exact ⟨i + 1, by omega, by go_num, HZ2, HB2⟩
    case measure => simp [RowKit.intOf]; omega
   ·have hR2 : varsL (ts.take i) l = R := by rw [← HR.out, List.take_of_length_le (by rw [HM.out]; omega)]
    have HZ2 := HZ.out
    rw [hR2] at HZ2
    clear hR2 HZ HR
    go_wp2
    go_ret
    exact ⟨_, rfl, HZ2, HB.out⟩
set_option maxHeartbeats 2000000 in
theorem Vars_at (x : Tm) (w : World) (v : Value) (hv : TmV w x v) : Calls Try.prog 31 #[v] w fun e w' => ∃ r, e = .returned r ∧ Nums w' r (if goodT x then varsT x [] else []) ∧ Below w.heap.size w w' := by
 have G := fun w (h : TmV w x v) => Good_at x w v h
 have V := fun w1 (hb : Below w.heap.size w w1) (hs : goodT x = true) => addVars_at _ x (Nat.le_refl _) (good_parts hs).2.2 w w1 v (.slice none 0 0) [] hv hb (RowN.nil _ _) (by have := (good_parts hs).1; simp; omega)
 obtain ⟨k, n, s, u, rfl⟩ := hv.four
 have hv0 := TmV.ext (bel1' w (box4 k n s u 31)) _ _ hv
 clear hv
 cases hg : goodT x
 ·rw [hg] at G
  clear V hg
  go_enter Try.func31, Try.ntmps31
  (go_wp2_with fail; go_fit (G _ hv0); rintro e w1 ⟨rfl, b1⟩)
  have B1 := Lib.hid (Ext.trans' (bel1' w _) b1)
  clear b1
  go_wp2
  go_ret
  exact ⟨_, rfl, Nums.nil _, B1.out⟩
 ·rw [hg] at G
  have V' := fun w h => V w h hg
  rw [if_pos rfl]
  clear V hg
  go_enter Try.func31, Try.ntmps31
  (go_wp2_with fail; go_fit (G _ hv0); rintro e w1 ⟨rfl, b1⟩)
  obtain ⟨e0, e1, e2, e3⟩ := box_cells w 31 _ _ _ _ b1
  have B1 := Lib.hid (Ext.trans' (bel1' w _) b1)
  clear b1
  (go_wp2_with fail; go_fit (V' _ B1.out); rintro e w2 ⟨r, rfl, hr, b2⟩)
  have HN := Lib.hid hr.nums
  have B2 := Lib.hid b2
  clear hr b2
  go_wp2
  go_ret
  exact ⟨_, rfl, HN.out, B2.out⟩
end Go.Proofs.Ytchbbaehdcmcfaa
