/- TablePairs: keys of another kind, pairs of numbers, are numbered alike: each once, in the order in which they come. No condition. -/
import Derived.Test.YtjpdigdocdppbaaPairP
import Derived.Test.YtjpdigdocdppbaaOpenE
import Derived.Test.YtjpdigdocdppbaaRows
import Derived.LoopTactic
namespace Go.Proofs.Ytjpdigdocdppbaa
open Go.RowKit Go.Maps Go.WideMaps

section
open Go.ChangeShapes Go.WideShapes Go.ChangeAt Go.Deep
def Pairs (w : World) (v : Value) (l : List PairV) : Prop := Elems 2 pcells w v l ∧ ∀ x ∈ l, pok x
theorem pairs_of_trod {H : Type} {enc : TypeId × Value → H} {W : World} {v : Value} {d : DataW H} {ps : List MemPlace} (h : DataW.Trod enc Try.prog W 0 (fun _ => true) true 42 v d ps)
    (hv : Value.okWide Try.prog W .any 0 42 v) (hw : ∀ n ∈ d.weights Try.prog 42, n ≤ 140737488351232) : ∃ l, Pairs W v l := by
  obtain ⟨l, h1, h2, _⟩ := elems_of_trod (α := PairV) Try.underlying42 (S := 2) (B := 16) (by kernel_rfl) (by omega) (by kernel_rfl) pcells pok
    (by obtain ⟨x, y, z, e⟩ := okWide_slice Try.underlying42 hv; exact ⟨x, y, z, e⟩) h hw (fun n cs D pl hd _ => by
      obtain ⟨xs, n', rfl, _, hl, hxl, hf⟩ := DataW.trod_array Try.underlying25 hd
      have e1 : Try.prog.cellsOf 25 = 2 := by kernel_rfl
      have e2 : Try.prog.cellsOf 3 = 1 := by kernel_rfl
      rw [e1] at hl
      obtain ⟨c0, c1, rfl⟩ : ∃ c0 c1, cs = [c0, c1] := by
        match cs, hl with
        | [a, b], _ => exact ⟨a, b, rfl⟩
      obtain ⟨y0, y1, rfl⟩ : ∃ y0 y1, xs = [y0, y1] := by
        match xs, hxl with
        | [a, b], _ => exact ⟨a, b, rfl⟩
      have f0 := hf 0 (by omega)
      have f1 := hf 1 (by omega)
      rw [e2] at f0 f1
      simp only [Nat.zero_mul, Nat.one_mul, List.drop_zero, List.drop_succ_cons, List.take_succ_cons, List.take_zero, List.getElem?_cons_zero, List.getElem?_cons_succ] at f0 f1
      obtain ⟨a, q0, _, s0⟩ := DataW.trod_int Try.underlying3 f0
      obtain ⟨b, q1, _, s1⟩ := DataW.trod_int Try.underlying3 f1
      obtain rfl := (List.cons.inj q0).1
      obtain rfl := (List.cons.inj q1).1
      exact ⟨⟨a, b⟩, rfl, s0, s1⟩)
  exact ⟨l, h1, h2⟩
end

def PTabIn (W w : World) (p : Value) (R : Nat) (ks : List PairV) : Prop := ∃ F, PTab F w p R ks ∧ (∀ k ∈ F, W.heap.size ≤ k) ∧ Below W.heap.size W w
section
variable {W w : World} {p : Value} {R : Nat} {ks : List PairV}
theorem PTabIn.below (h : PTabIn W w p R ks) : Below W.heap.size W w := by obtain ⟨F, h⟩ := h; exact h.2.2
theorem PTabIn.ext {w' : World} (h : PTabIn W w p R ks) (hb : Below w.heap.size w w') : PTabIn W w' p R ks := by
  obtain ⟨F, h1, h2, h3⟩ := h
  exact ⟨F, h1.ext hb, h2, h3.trans (hb.mono h3.size)⟩
theorem pput_in (h : PTabIn W w p R ks) (k : PairV) (hk : pok k) {n : Int} {b : Bool} {ks' : List PairV} (hp : Puts R ks k n b ks') :
    Calls Try.prog 11 #[p, pval k] w fun e w' => e = .returned (.tuple #[.int .i64 n, .bool b]) ∧ PTabIn W w' p R ks' := by
  obtain ⟨F, h1, h2, h3⟩ := h
  refine (pput_any h1 k hk hp).mono ?_
  rintro e w' ⟨rfl, F', t1, t2, t3⟩
  refine ⟨rfl, F', t1, fun k hk => ?_, h3.trans (t2.below h3.size h2)⟩
  rcases t3 k hk with hf | hf
  · exact h2 k hf
  · exact Nat.le_trans h3.size hf
theorem plen_in (h : PTabIn W w p R ks) : Calls Try.prog 18 #[p] w fun e w' => e = .returned (.int .i64 ks.length) ∧ w = w' := by
  obtain ⟨F, h1, _⟩ := h; exact plen_any h1
end
theorem pnew_in {W w : World} (hb : Below W.heap.size W w) (m : Int) (R : Nat) (hR : (R : Int) = max 1 (min m 65536)) :
    Calls Try.prog 9 #[.int .i64 m] w fun e w' => ∃ bt : Nat, e = .returned (.pointer (some ⟨bt, 0, none⟩)) ∧ PTabIn W w' (.pointer (some ⟨bt, 0, none⟩)) R [] := by
  refine (pnew_any m R hR w).mono ?_
  rintro e w' ⟨p, rfl, F, h1, h2, h3⟩
  obtain ⟨bt, rfl⟩ : ∃ bt, p = .pointer (some ⟨bt, 0, none⟩) := by obtain ⟨bt, _, _, _, rfl, _⟩ := h1; exact ⟨bt, rfl⟩
  exact ⟨bt, rfl, F, h1, fun k hk => Nat.le_trans hb.size (h3 k hk), hb.trans (h2.mono hb.size)⟩

/-- The keys are those of the first k elements. -/
def Held (l : List PairV) (k : Nat) (ks : List PairV) : Prop := ∀ x, x ∈ ks ↔ ∃ j : Nat, j < k ∧ l[j]? = some x
/-- The law's own question: whether x is new. -/
def Fresh (l : List PairV) (x : PairV) (m : Nat) (b : Bool) : Prop := (b = true ∧ ∀ (j : Nat) y, j < m → l[j]? = some y → y ≠ x) ∨ (b = false ∧ ∃ j : Nat, j < m ∧ l[j]? = some x)
theorem fresh_same {l : List PairV} {x y : PairV} {m : Nat} {b : Bool} (h : Fresh l x m b) (hy : l[m]? = some y) (e : y = x) : Fresh l x (m + 1) false := Or.inr ⟨rfl, m, by omega, e ▸ hy⟩
theorem fresh_other {l : List PairV} {x y : PairV} {m : Nat} (h : Fresh l x m true) (hy : l[m]? = some y) (e : y ≠ x) : Fresh l x (m + 1) true := by
  rcases h with ⟨_, h⟩ | ⟨h0, _⟩
  · refine Or.inl ⟨rfl, fun j z hj hz => ?_⟩
    by_cases hjm : j = m
    · subst hjm; rw [hy] at hz; cases hz; exact e
    · exact h j z (by omega) hz
  · cases h0
theorem fresh_no {l : List PairV} {x : PairV} {m : Nat} (h : Fresh l x m false) : Fresh l x (m + 1) false := by
  rcases h with ⟨h0, _⟩ | ⟨_, j, hj, h⟩
  · cases h0
  · exact Or.inr ⟨rfl, j, by omega, h⟩
theorem held_step {l ks ks' : List PairV} {k : Nat} {x : PairV} {b : Bool} (h : Held l k ks) (hf : Fresh l x k b) (hx : l[k]? = some x) (he : ks' = if b then ks ++ [x] else ks) : Held l (k + 1) ks' := by
  intro y
  subst he
  rcases hf with ⟨rfl, hf⟩ | ⟨rfl, j, hj, hjx⟩
  · simp only [if_true, List.mem_append, List.mem_singleton]
    constructor
    · rintro (hy | rfl)
      · obtain ⟨j, hj, hjy⟩ := (h y).1 hy; exact ⟨j, by omega, hjy⟩
      · exact ⟨k, by omega, hx⟩
    · rintro ⟨j, hj, hjy⟩
      by_cases e : j = k
      · subst e; rw [hx] at hjy; cases hjy; exact Or.inr rfl
      · exact Or.inl ((h y).2 ⟨j, by omega, hjy⟩)
  · simp only [Bool.false_eq_true, if_false]
    constructor
    · intro hy; obtain ⟨j, hj, hjy⟩ := (h y).1 hy; exact ⟨j, by omega, hjy⟩
    · rintro ⟨j', hj', hjy⟩
      by_cases e : j' = k
      · subst e; rw [hx] at hjy; cases hjy; exact (h _).2 ⟨j, hj, hjx⟩
      · exact (h y).2 ⟨j', by omega, hjy⟩
theorem fresh_end {l ks : List PairV} {k : Nat} {x : PairV} {b : Bool} (h : Held l k ks) (hf : Fresh l x k b) (hl : ks.length < 200) : ∃ n ks', Puts 200 ks x n true ks' ∧ (ks' = if b then ks ++ [x] else ks) ∧ (b = true → n = ks.length) := by
  rcases hf with ⟨rfl, hf⟩ | ⟨rfl, j, hj, hjx⟩
  · have hn : x ∉ ks := fun hx => by obtain ⟨j, hj, hjx⟩ := (h x).1 hx; exact hf j x hj hjx rfl
    exact ⟨ks.length, ks ++ [x], Or.inr (Or.inr ⟨rfl, rfl, hn, rfl, hl⟩), by simp, fun _ => rfl⟩
  · obtain ⟨i, hi⟩ := List.getElem?_of_mem ((h x).2 ⟨j, hj, hjx⟩)
    exact ⟨i, ks, Or.inl ⟨rfl, rfl, i, rfl, hi⟩, by simp, fun h => by cases h⟩

set_option maxHeartbeats 2000000 in
theorem pairs_any {v : Value} {l : List PairV} {W : World} (hl : Pairs W v l) : Calls Try.prog 6 #[v] W fun e w' => IsBool W true e w' := by
  obtain ⟨⟨a, cap, rfl, hl1, hl2, hl3⟩, hl4⟩ := hl
  by_cases h100 : 100 < l.length
  · go_enter Try.func6, Try.ntmps6
    (go_wp2_with fail; go_fit (awake_any W); rintro e w1 ⟨rfl, hb⟩)
    go_wp2
    go_ret
    exact ⟨rfl, hb⟩
  have h100' : l.length ≤ 100 := by omega
  clear h100
  have HL := Lib.hid (show ∀ (w : World), Below W.heap.size W w → ∀ (i : Nat) (x : PairV), l[i]? = some x → ∃ b off, a = some ⟨b, off, none⟩ ∧ w.cell? ⟨b, off + i * 2, none⟩ = some (.int .i64 x.a) ∧ w.cell? ⟨b, off + i * 2 + 1, none⟩ = some (.int .i64 x.b) from fun w hb i x hx => by
    rcases hl3 with rfl | ⟨b, off, e, _, hc⟩
    · simp at hx
    · exact ⟨b, off, e, cell_later hb (hc i x hx 0 _ rfl), cell_later hb (by rw [Nat.add_assoc]; exact hc i x hx 1 _ rfl)⟩)
  have HS := Lib.hid hl4
  clear hl3 hl4
  go_enter Try.func6, Try.ntmps6
  (go_wp2_with fail; go_fit (awake_any W); rintro e w1 ⟨rfl, hb⟩)
  have HB1 := Lib.hid hb; clear hb
  (go_wp2_with fail; go_fit (pnew_in HB1.out 200 200 (by decide)); rintro e w2 ⟨bt, rfl, h2⟩)
  have HT2 := Lib.hid h2; clear h2
  go_wp2_with fail
  go_loopw [4, 5] (fun s i wr => ∃ (k : Nat) (ks : List PairV), k ≤ l.length ∧ i = .int .i64 k ∧ s = .int .i64 ks.length ∧ ks.length ≤ k ∧ Hid (Held l k ks) ∧ Hid (PTabIn W wr (.pointer (some ⟨bt, 0, none⟩)) 200 ks)) (fun _ i _ => l.length - (intOf i).toNat)
  case atStart => exact ⟨0, [], by omega, rfl, rfl, by simp, Lib.hid (fun x => by simp), HT2⟩
  case round =>
    obtain ⟨k, ks, hk, rfl, rfl, hks, HH, HT⟩ := hrel
    by_cases hlt : k < l.length
    · obtain ⟨x, hx⟩ : ∃ x, l[k]? = some x := ⟨_, List.getElem?_eq_getElem hlt⟩
      have hxs := HS.out x (List.mem_of_getElem? hx)
      have hkk : (k : Int) < l.length := by omega
      have HX := Lib.hid hx
      have HXS := Lib.hid hxs
      clear hx hxs
      have HTW := Lib.hid (fun (wq : World) (hb : Below wr.heap.size wr wq) => HT.out.ext hb)
      obtain ⟨xa, xb⟩ := x
      go_wp2_with fail
      go_loopw [6, 7] (fun s i wq => ∃ (m : Nat) (b : Bool), m ≤ k ∧ i = .int .i64 m ∧ s = .bool b ∧ Hid (Fresh l ⟨xa, xb⟩ m b) ∧ Hid (PTabIn W wq (.pointer (some ⟨bt, 0, none⟩)) 200 ks)) (fun _ i _ => k - (intOf i).toNat)
      case atStart => exact ⟨0, true, by omega, rfl, rfl, Lib.hid (Or.inl ⟨rfl, fun j y h => by omega⟩), HT⟩
      case round =>
        obtain ⟨m, b, hm, rfl, rfl, HF, HTq⟩ := hrel
        by_cases hml : m < k
        · cases b
          · go_wp2_with fail
            go_quiet (fail)
            go_wp2
            go_roundw
            case rel => exact ⟨m + 1, false, by omega, by go_num, rfl, Lib.hid (fresh_no HF.out), Lib.hid (HTq.out.ext (belN (Below.refl _ _) _))⟩
            case measure => simp [intOf]; omega
          · obtain ⟨y, hy⟩ : ∃ y, l[m]? = some y := ⟨_, List.getElem?_eq_getElem (by omega)⟩
            have hys := HS.out y (List.mem_of_getElem? hy)
            have HY := Lib.hid hy
            obtain ⟨bl, off, rfl, cx0, cx1⟩ := HL.out wr HTq.out.below k ⟨xa, xb⟩ HX.out
            obtain ⟨_, _, e, cy0, cy1⟩ := HL.out wr HTq.out.below m y hy
            cases e
            have heq := pEq y ⟨xa, xb⟩ hys HXS.out
            obtain ⟨ya, yb⟩ := y
            simp only at cx0 cx1 cy0 cy1 heq
            clear hy hys
            have hmm : (m : Int) < l.length := by omega
            by_cases hq : ya = xa ∧ yb = xb
            · obtain ⟨rfl, rfl⟩ := hq
              have heq' : ∀ w, (Op.equalIn 10000 25 (.agg #[.int .i64 ya, .int .i64 yb]) (.agg #[.int .i64 ya, .int .i64 yb])).run Try.prog w = .ok true w := fun w => by simpa using heq w
              clear heq
              go_wp2_with fail
              go_quiet (fail)
              go_wp2
              go_roundw
              case rel => exact ⟨m + 1, false, by omega, by go_num, rfl, Lib.hid (fresh_same HF.out HY.out rfl), Lib.hid (HTq.out.ext (belN (Below.refl _ _) _))⟩
              case measure => simp [intOf]; omega
            · have heq' : ∀ w, (Op.equalIn 10000 25 (.agg #[.int .i64 ya, .int .i64 yb]) (.agg #[.int .i64 xa, .int .i64 xb])).run Try.prog w = .ok false w := fun w => by rw [heq w, decide_eq_false hq]
              have HQ := Lib.hid (show (⟨ya, yb⟩ : PairV) ≠ ⟨xa, xb⟩ from fun e => hq (by cases e; exact ⟨rfl, rfl⟩))
              clear heq hq
              go_wp2_with fail
              go_quiet (fail)
              go_wp2
              go_roundw
              case rel => exact ⟨m + 1, true, by omega, by go_num, rfl, Lib.hid (fresh_other HF.out HY.out HQ.out), Lib.hid (HTq.out.ext (belN (Below.refl _ _) _))⟩
              case measure => simp [intOf]; omega
        · obtain rfl : m = k := by omega
          obtain ⟨n, ks', hp, hks', hn⟩ := fresh_end HH.out HF.out (by omega)
          have HP := Lib.hid hp
          have HH' := Lib.hid (held_step HH.out HF.out HX.out hks')
          clear hp
          obtain ⟨bl, off, rfl, cx0, cx1⟩ := HL.out wr HTq.out.below m ⟨xa, xb⟩ HX.out
          simp only at cx0 cx1
          cases b
          · have hkl : ks' = ks := by simpa using hks'
            subst hkl
            clear hn hks'
            (go_wp2_with fail; go_fit (pput_in HTq.out ⟨xa, xb⟩ HXS.out HP.out); rintro e w5 ⟨rfl, h5⟩)
            have HT5 := Lib.hid h5; clear h5
            go_wp2
            go_roundw
            case rel => exact ⟨m + 1, ks', by omega, by go_num, rfl, by omega, HH', HT5⟩
            case measure => simp [intOf]; omega
          · have hkl : ks' = ks ++ [⟨xa, xb⟩] := by simpa using hks'
            obtain rfl := hn rfl
            have hlen : ks'.length = ks.length + 1 := by rw [hkl]; simp
            clear hks' hkl hn
            (go_wp2_with fail; go_fit (pput_in HTq.out ⟨xa, xb⟩ HXS.out HP.out); rintro e w5 ⟨rfl, h5⟩)
            have HT5 := Lib.hid h5; clear h5
            have hlen' := Lib.hid hlen
            clear hlen
            go_wp2
            go_roundw
            case rel => exact ⟨m + 1, ks', by omega, by go_num, by rw [hlen'.out]; go_num, by have := hlen'.out; omega, HH', HT5⟩
            case measure => simp [intOf]; omega
    · (go_wp2_with fail; go_fit (plen_in HT.out); rintro e w' ⟨rfl, rfl⟩)
      go_wp2
      go_ret
      exact ⟨rfl, HT.out.below⟩
namespace tablePairs
open Go.ChangeShapes Go.WideShapes Go.ChangeAt Go.RowKit
theorem own : ownKnob Try.prog.godebug = none := by kernel_rfl
theorem laidOut : laidOutB Try.prog = true := by kernel_rfl
set_option linter.unusedVariables false
set_option maxRecDepth 100000 in
theorem lifted (os : Os) (started : os.Started) (H : Type) (enc : TypeId × Value → H) :
    ReturnsInHanded {} Try.checked os 6 .any (Rows.tablePairsSpec.pre6 enc Try.prog Try.f6 Rows.tablePairsRow.domain false) (Rows.tablePairsSpec.post enc Try.prog Try.f6 false true false false) := by
  refine returnsInHanded_of_change_sized (C := Try.checked) own started (by kernel_rfl) Try.func6
    (ChangeSpec.witness6 (enc := enc) (C := Try.checked) false ⟨#[], #[.slice none 0 0], []⟩ 8 (by kernel_rfl) (by kernel_rfl) (by kernel_rfl) (by kernel_rfl)) ?_
  intro W base args ds gs before hval0 hW hcnd hsz0 _
  have hval : ∀ (j : Nat) t v, Try.f6.params[j]? = some t → args[j]? = some v → Value.okWide Try.prog W .any base t v := hval0
  have hW' := hW
  obtain ⟨p, q, hA0, hV, rfl, hfz, hnd⟩ := hW
  have hA : DataW.TrodAll enc Try.prog W 0 (fun _ => true) true Try.f6.params.toList args.toList ds p := hA0
  have hsz : (DataW.weightsEach Try.prog (Try.f6.params.toList ++ []) (ds ++ gs)).all (· ≤ reachBytes) = true := hsz0
  rw [Try.params6] at hA hval hsz
  obtain ⟨v0, vs0, d0, ds0, p0, q0, hargs, rfl, rfl, h0, r0⟩ := trodAll_cons hA
  obtain ⟨rfl, rfl, rfl⟩ := trodAll_nil r0
  obtain rfl : args = #[v0] := by cases args; simp_all
  obtain ⟨rfl, rfl⟩ := trodVars_none hV
  clear hA0 hval0 hsz0
  have k0 := h0
  have lt0 := lt_of_trod h0
  obtain ⟨a0, w0⟩ := pairs_of_trod h0 (hval 0 42 v0 rfl rfl) (weights_ok hsz (j := 0) (t := 42) (d := d0) rfl rfl)
  refine (pairs_any w0).mono fun e W' ⟨he, bel⟩ => ?_
  subst he
  exact ⟨_, rfl, _, _, _, [], _, [], hW', trodAll_mk1 (shut_bool Try.underlying4 _), (trodAll_cons_mk (Below.trod laidOut (by kernel_rfl) (of_decide_eq_true (by kernel_rfl)) k0 bel lt0) trodAll_mk0), rfl, bel.frame _, fun h => by cases h⟩
theorem proved : Rows.TablePairsSaid :=
  OpenClaim.holds_of_wide 6 Try.f6 rfl rfl rfl rfl rfl rfl rfl ⟨rfl, rfl, rfl, rfl, rfl⟩ rfl rfl rfl rfl rfl (by kernel_rfl) Try.func6 (by kernel_rfl)
    (of_decide_eq_true (by kernel_rfl)) (by unfold Func.isWrapper; first | (rw [if_pos (by decide +kernel)]; kernel_rfl) | (rw [if_neg (by decide +kernel)]; exact ⟨rfl, rfl⟩))
    (fun os started H enc _ => lifted os started H enc)
#print axioms proved
end tablePairs

end Go.Proofs.Ytjpdigdocdppbaa
