/- LabelJoins: a join of many is the least above all of them. No condition. -/
import Derived.Test.YtolfbhanglkpkaaLabL
namespace Go.Proofs.Ytolfbhanglkpkaa
open Go.RowKit
theorem infoLab : (Try.prog.info? 27).map (fun i => (i.zero, i.size, i.bytes)) = some (some (.int .u64 0), 1, 8) := by kernel_rfl

theorem leq_joinL {l : List Nat} {top : Nat} : leq (joinL l) top = l.all fun x => leq x top := by
  have gen : ∀ (l : List Nat) (a : Nat), leq (l.foldl (· ||| ·) a) top = (leq a top && l.all fun x => leq x top) := by
    intro l
    induction l with
    | nil => intro a; simp
    | cons b r ih =>
      intro a
      rw [List.foldl_cons, ih, List.all_cons, ← Bool.and_assoc]
      congr 1
      rw [Bool.eq_iff_iff, Bool.and_eq_true, leq_iff, leq_iff, leq_iff]
      constructor
      · intro h; exact ⟨fun i hi => h i (by simp [hi]), fun i hi => h i (by simp [hi])⟩
      · intro h i hi; simp at hi; rcases hi with hi | hi
        · exact h.1 i hi
        · exact h.2 i hi
  have := gen l 0
  rw [joinL, this]
  simp [leq]
theorem leq_join_mem {l : List Nat} {x : Nat} (h : x ∈ l) : leq x (joinL l) = true := by
  have := @leq_joinL l (joinL l)
  rw [show leq (joinL l) (joinL l) = true by simp [leq]] at this
  exact List.all_eq_true.1 this.symm x h
theorem all_take (l : List Nat) (top k x : Nat) (h : l[k]? = some x) : ((l.take (k + 1)).all fun x => leq x top) = (((l.take k).all fun x => leq x top) && leq x top) := by
  have : l.take (k + 1) = l.take k ++ [x] := by rw [List.take_add_one]; simp [h]
  rw [this]; simp
theorem or_eq_leq (x top : Nat) : (((x ||| top : Nat) : Int) == (top : Int)) = leq x top := by
  rw [Bool.eq_iff_iff, leq_iff]
  simp only [beq_iff_eq]
  constructor
  · intro h i hi
    have h' : x ||| top = top := by exact_mod_cast h
    have := congrArg (fun n => Nat.testBit n i) h'
    simp [hi] at this
    exact this
  · intro h
    have : x ||| top = top := by
      apply Nat.eq_of_testBit_eq; intro i
      rw [Nat.testBit_or]
      cases hx : x.testBit i
      · simp
      · simp [h i hx]
    exact_mod_cast this
def u64v (l : List Nat) : List Value := l.map fun (x : Nat) => .int .u64 (x : Int)
theorem u64v_take (l : List Nat) (k x : Nat) (h : l[k]? = some x) : u64v (l.take (k + 1)) = u64v (l.take k) ++ [.int .u64 x] := by
  have : l.take (k + 1) = l.take k ++ [x] := by rw [List.take_add_one]; simp [h]
  rw [this]; simp [u64v]
theorem owned_nums {w : World} {base e n : Nat} {ao : Option Addr} {cv : Nat} {l : List Nat} (hn : l.length = n) (h : w.ownsRow base e 1 (.slice ao n cv) n (u64v l)) :
    l = [] ∨ ∃ g, ao = some ⟨g, 0, none⟩ ∧ base ≤ g ∧ g < w.heap.size ∧ n ≤ cv ∧ cv ≤ maxLen ∧ ∀ (i : Nat) (x : Nat), l[i]? = some x → w.cell? ⟨g, 0 + i, none⟩ = some (.int .u64 x) := by
  subst hn
  obtain ⟨_, ⟨_, h⟩ | ⟨g, cap, cur, hv, hg, hh, h1, h2, h3, h4⟩⟩ := h
  · exact Or.inl (List.length_eq_zero_iff.1 h)
  · right
    simp only [Value.slice.injEq, true_and] at hv
    obtain ⟨rfl, rfl⟩ := hv
    refine ⟨g, rfl, hg, ?_, h1, h2, fun i x hx => ?_⟩
    · exact (Array.getElem?_eq_some_iff.1 hh).1
    · simp only [World.cell?, hh, Option.isSome_none]
      have h5 : (cur.toList.take (l.length * 1))[i]? = some (.int .u64 x) := by rw [h4]; simp [u64v, hx]
      rw [List.getElem?_take] at h5
      split at h5
      · simpa using h5
      · cases h5

set_option maxHeartbeats 1000000 in
theorem joins_core {v : Value} {l : List Nat} (top : Nat) (w : World) (htop : top < 18446744073709551616) (h : U64s w v l) :
    Calls Try.prog 7 #[v, .int .u64 top] w (IsBool w true) := by
  obtain ⟨i0, hi, hz0, hz1, hz2⟩ := info_parts infoLab
  obtain ⟨a, cap, rfl, hlcap, hm, hz, hls, hcells⟩ := h
  obtain ⟨n, hn⟩ : ∃ n, l.length = n := ⟨_, rfl⟩
  rw [hn] at hz hlcap ⊢
  by_cases hbig : 100 < n
  · clear hcells hls
    have HN := Lib.hid hn; clear hn
    go_enter Try.func7, Try.ntmps7
    (go_wp2_with fail; go_fit (awake_any _); rintro e w1 ⟨rfl, b1⟩)
    go_wp2
    go_ret
    exact ⟨rfl, b1⟩
  have HLS := Lib.hid hls; clear hls
  have HC : Hid (∀ w1 : World, Below w.heap.size w w1 → ∀ (k x : Nat), l[k]? = some x → ∃ b off, a = some ⟨b, off, none⟩ ∧ w1.cell? ⟨b, off + k, none⟩ = some (.int .u64 x)) := Lib.hid fun w1 hb k x hx => by
    rcases hcells with rfl | ⟨b, off, rfl, hlt, hc⟩
    · simp at hx
    · exact ⟨b, off, rfl, cell_later hb (hc k x hx)⟩
  clear hcells
  have HN := Lib.hid hn; clear hn
  go_enter Try.func7, Try.ntmps7
  (go_wp2_with fail; go_fit (awake_any _); rintro e w1 ⟨rfl, b1⟩)
  go_wp2_with fail
  go_loopw [5, 6, 7] (fun t al i wr => ∃ (k : Nat) (ao : Option Addr) (cv : Nat), k ≤ n ∧ i = .int .i64 k ∧ t = .slice ao k cv ∧ wr.ownsRow w.heap.size 27 1 t k (u64v (l.take k)) ∧ Below w.heap.size w wr ∧ al = .bool ((l.take k).all fun x => leq x top)) (fun _ _ i _ => n - (intOf i).toNat)
  case atStart => exact ⟨0, none, 0, Nat.zero_le _, rfl, rfl, World.ownsRow_nil _ _ _ _, b1, rfl⟩
  case round =>
    obtain ⟨k, ao, cv, hk, rfl, rfl, hown, hnx, rfl⟩ := hrel
    have hsize := hnx.size
    by_cases hlt : k < n
    · obtain ⟨x, hx⟩ : ∃ x, l[k]? = some x := ⟨_, List.getElem?_eq_getElem (by rw [HN.out]; exact hlt)⟩
      obtain ⟨b, off, rfl, hcx⟩ := HC.out wr hnx k x hx
      have hxl := HLS.out x (List.mem_of_getElem? hx)
      have hor := u64_or_nat x top hxl htop
      have hol := or_eq_leq x top
      have hst := Lib.hid (And.intro (all_take l top k x hx) (u64v_take l k x hx))
      have HX := Lib.hid hx; clear hx
      generalize x ||| top = xt at hor hol
      have hbl : b < wr.heap.size := World.block_lt_of_cell? _ _ hcx
      cases hal : (l.take k).all fun x => leq x top
      · clear hor hol
        have hn := Lib.hid (show ((l.take (k + 1)).all fun x => leq x top) = false by rw [hst.out.1, hal]; rfl)
        clear hal
        go_wp2_with (at_builtin; refine wpList_append_own _ rfl _ _ 35 rfl w.heap.size 27 i0 (.int .u64 0) 1 8 Try.underlying35 hi hz0 hz1 hz2 rfl (by decide) _ _ _ rfl (hown.alloc _) ⟨wr.heap.size, 0, none⟩ 1 1 [.int .u64 x] rfl rfl (cell_one_new _ _ _) (fun x hx => by simp at hx; subst hx; rfl) (by unfold maxLen; omega) (by omega) (by simp; omega) ?_; intro v' w3 hown' hgrow3 hnil3)
        go_roundw
        case rel =>
          obtain ⟨g3, cap3, hv3⟩ : ∃ g3 cap3, v' = .slice (some ⟨g3, 0, none⟩) (k + 1) cap3 := by
            rcases hown'.2 with ⟨_, h⟩ | ⟨g3, cap3, _, h, _⟩
            · omega
            · exact ⟨g3, cap3, h⟩
          exact ⟨k + 1, some ⟨g3, 0, none⟩, cap3, by omega, by go_num, hv3, by rw [hst.out.2]; exact hown', (hnx.alloc hsize _).grown hgrow3 (by simp; omega) (fun q hq => (hown.lt q hq).1), by rw [hn.out]⟩
        case measure => simp [intOf]; omega
      · have HXX := Lib.hid (show ∀ w3 : World, Below w.heap.size w w3 → w3.cell? ⟨b, off + k, none⟩ = some (.int .u64 x) from fun w3 hb3 => by
          obtain ⟨b', off', he, h⟩ := HC.out w3 hb3 k x HX.out
          cases he; exact h)
        cases hlx : leq x top
        · rw [hlx] at hol
          have hn := Lib.hid (show ((l.take (k + 1)).all fun x => leq x top) = false by rw [hst.out.1, hal, hlx]; rfl)
          clear hal hlx
          go_wp2_with (at_builtin; refine wpList_append_own _ rfl _ _ 35 rfl w.heap.size 27 i0 (.int .u64 0) 1 8 Try.underlying35 hi hz0 hz1 hz2 rfl (by decide) _ _ _ rfl (hown.alloc _) ⟨wr.heap.size, 0, none⟩ 1 1 [.int .u64 x] rfl rfl (cell_one_new _ _ _) (fun x hx => by simp at hx; subst hx; rfl) (by unfold maxLen; omega) (by omega) (by simp; omega) ?_; intro v' w3 hown' hgrow3 hnil3; have hb3 := (hnx.alloc hsize _).grown hgrow3 (by simp; omega) (fun q hq => (hown.lt q hq).1); have hcx3 := HXX.out w3 hb3)
          go_roundw
          case rel =>
            obtain ⟨g3, cap3, hv3⟩ : ∃ g3 cap3, v' = .slice (some ⟨g3, 0, none⟩) (k + 1) cap3 := by
              rcases hown'.2 with ⟨_, h⟩ | ⟨g3, cap3, _, h, _⟩
              · omega
              · exact ⟨g3, cap3, h⟩
            exact ⟨k + 1, some ⟨g3, 0, none⟩, cap3, by omega, by go_num, hv3, by rw [hst.out.2]; exact hown', hb3, by rw [hn.out]⟩
          case measure => simp [intOf]; omega
        · rw [hlx] at hol
          have hn := Lib.hid (show ((l.take (k + 1)).all fun x => leq x top) = true by rw [hst.out.1, hal, hlx]; rfl)
          clear hal hlx
          go_wp2_with (at_builtin; refine wpList_append_own _ rfl _ _ 35 rfl w.heap.size 27 i0 (.int .u64 0) 1 8 Try.underlying35 hi hz0 hz1 hz2 rfl (by decide) _ _ _ rfl (hown.alloc _) ⟨wr.heap.size, 0, none⟩ 1 1 [.int .u64 x] rfl rfl (cell_one_new _ _ _) (fun x hx => by simp at hx; subst hx; rfl) (by unfold maxLen; omega) (by omega) (by simp; omega) ?_; intro v' w3 hown' hgrow3 hnil3; have hb3 := (hnx.alloc hsize _).grown hgrow3 (by simp; omega) (fun q hq => (hown.lt q hq).1); have hcx3 := HXX.out w3 hb3)
          go_roundw
          case rel =>
            obtain ⟨g3, cap3, hv3⟩ : ∃ g3 cap3, v' = .slice (some ⟨g3, 0, none⟩) (k + 1) cap3 := by
              rcases hown'.2 with ⟨_, h⟩ | ⟨g3, cap3, _, h, _⟩
              · omega
              · exact ⟨g3, cap3, h⟩
            exact ⟨k + 1, some ⟨g3, 0, none⟩, cap3, by omega, by go_num, hv3, by rw [hst.out.2]; exact hown', hb3, by rw [hn.out]⟩
          case measure => simp [intOf]; omega
    · have hkn : k = n := by omega
      subst hkn
      have hlk : l.take k = l := List.take_of_length_le (by rw [HN.out]; exact Nat.le_refl _)
      rw [hlk] at hown
      have HLK := Lib.hid hlk; clear hlk
      have hall := @leq_joinL l top
      have hjl := joinL_lt l HLS.out
      have HJ : Hid (Calls Try.prog 16 #[.slice ao k cv] wr fun e w' => e = .returned (.int .u64 (joinL l)) ∧ wr = w') := by
        rcases owned_nums HN.out hown with h0 | ⟨g, rfl, _, _, _, _, hg⟩
        · have : k = 0 := by rw [← HN.out, h0]; rfl
          subst this; rw [h0]; exact join_none ao cv wr
        · exact join_some g 0 k cv l wr HN.out hz HLS.out hg
      have HCC : Hid (∀ (j x : Nat), l[j]? = some x → ∃ g, ao = some ⟨g, 0, none⟩ ∧ wr.cell? ⟨g, 0 + j, none⟩ = some (.int .u64 x)) := Lib.hid fun j x hx => by
        rcases owned_nums HN.out hown with h0 | ⟨g, rfl, _, _, _, _, hg⟩
        · rw [h0] at hx; simp at hx
        · exact ⟨g, rfl, hg j x hx⟩
      obtain ⟨J, hJ⟩ : ∃ J, joinL l = J := ⟨_, rfl⟩
      have HMEM : Hid (∀ x ∈ l, leq x J = true) := Lib.hid fun x hx => by rw [← hJ]; exact leq_join_mem hx
      rw [hJ] at hall hjl HJ
      clear hJ
      rw [HLK.out, ← hall]
      have HALL := Lib.hid hall; clear hall hown
      go_wp2_with fail
      go_fit (HJ.out); rintro e w' ⟨rfl, rfl⟩
      go_wp2_with fail
      go_loop [9] (fun i => ∃ j : Nat, j ≤ k ∧ i = .int .i64 j) (fun i => k - (intOf i).toNat)
      case atStart => exact ⟨0, Nat.zero_le _, rfl⟩
      case round =>
        obtain ⟨j, hj, rfl⟩ := hrel
        by_cases hlt : j < k
        · obtain ⟨x, hx⟩ : ∃ x, l[j]? = some x := ⟨_, List.getElem?_eq_getElem (by rw [HN.out]; exact hlt)⟩
          obtain ⟨g, rfl, hcx⟩ := HCC.out j x hx
          have hxl := HLS.out x (List.mem_of_getElem? hx)
          have hle := HMEM.out x (List.mem_of_getElem? hx)
          rw [Nat.zero_add] at hcx
          clear hx
          (go_wp2_with fail; go_fit (leq_any x J _ hxl hjl); rintro e w' ⟨rfl, rfl⟩)
          go_wp2
          go_round
          case rel => exact ⟨j + 1, by omega, by go_num⟩
          case measure => simp [intOf]; omega
        · (go_wp2_with fail; go_fit (leq_any J top _ hjl htop); rintro e w' ⟨rfl, rfl⟩)
          go_wp2
          go_ret
          exact ⟨ret_bool (by simp), hnx⟩
theorem joins_walk {w : World} {v : Value} {l : List Nat} (h : U64s w v l) (top : Int) (wt : (Lit.int .u64 top).wf = true) : Calls Try.prog 7 #[v, .int .u64 top] w (IsBool w true) := by
  obtain ⟨ha, ha'⟩ := bounds_u64 wt
  obtain ⟨top, rfl⟩ := Int.eq_ofNat_of_zero_le ha
  exact joins_core top w (by omega) h
namespace labelJoins
open Go.ChangeShapes Go.WideShapes Go.ChangeAt Go.RowKit
theorem own : ownKnob Try.prog.godebug = none := by kernel_rfl
theorem laidOut : laidOutB Try.prog = true := by kernel_rfl
set_option linter.unusedVariables false
set_option maxRecDepth 100000 in
theorem lifted (os : Os) (started : os.Started) (H : Type) (enc : TypeId × Value → H) :
    ReturnsInHanded {} Try.checked os 7 .any (Rows.labelJoinsSpec.pre6 enc Try.prog Try.f7 Rows.labelJoinsRow.domain false) (Rows.labelJoinsSpec.post enc Try.prog Try.f7 false true false false) := by
  refine returnsInHanded_of_change_sized (C := Try.checked) own started (by kernel_rfl) Try.func7
    (ChangeSpec.witness6 (enc := enc) (C := Try.checked) false ⟨#[], #[.slice none 0 0, .int .u64 0], []⟩ 8 (by kernel_rfl) (by kernel_rfl) (by kernel_rfl) (by kernel_rfl)) ?_
  intro W base args ds gs before hval0 hW hcnd hsz0 _
  have hval : ∀ (j : Nat) t v, Try.f7.params[j]? = some t → args[j]? = some v → Value.okWide Try.prog W .any base t v := hval0
  have hW' := hW
  obtain ⟨p, q, hA0, hV, rfl, hfz, hnd⟩ := hW
  have hA : DataW.TrodAll enc Try.prog W 0 (fun _ => true) true Try.f7.params.toList args.toList ds p := hA0
  have hsz : (DataW.weightsEach Try.prog (Try.f7.params.toList ++ []) (ds ++ gs)).all (· ≤ reachBytes) = true := hsz0
  rw [Try.params7] at hA hval hsz
  obtain ⟨v0, vs0, d0, ds0, p0, q0, hargs, rfl, rfl, h0, r0⟩ := trodAll_cons hA
  obtain ⟨v1, vs1, d1, ds1, p1, q1, rfl, rfl, rfl, h1, r1⟩ := trodAll_cons r0
  obtain ⟨rfl, rfl, rfl⟩ := trodAll_nil r1
  obtain rfl : args = #[v0, v1] := by cases args; simp_all
  obtain ⟨rfl, rfl⟩ := trodVars_none hV
  clear hA0 hval0 hsz0
  have k0 := h0
  have lt0 := lt_of_trod h0
  have k1 := h1
  have lt1 := lt_of_trod h1
  obtain ⟨a0, w0⟩ := u64s_of_trod Try.underlying48 Try.underlying26 (by kernel_rfl) (by kernel_rfl) (by obtain ⟨x, y, z, e⟩ := okWide_slice Try.underlying48 (hval 0 48 v0 rfl rfl); exact ⟨x, y, z, e⟩) h0 (weights_ok hsz (j := 0) (t := 48) (d := d0) rfl rfl)
  obtain ⟨a1, rfl, rfl, rfl, w1⟩ := open_int Try.underlying26 (hval 1 26 v1 rfl rfl) h1
  refine (joins_walk w0 a1 w1).mono fun e W' ⟨he, bel⟩ => ?_
  subst he
  exact ⟨_, rfl, _, _, _, [], _, [], hW', trodAll_mk1 (shut_bool Try.underlying4 _), (trodAll_cons_mk (Below.trod laidOut (by kernel_rfl) (of_decide_eq_true (by kernel_rfl)) k0 bel lt0) (trodAll_cons_mk (Below.trod laidOut (by kernel_rfl) (of_decide_eq_true (by kernel_rfl)) k1 bel lt1) trodAll_mk0)), rfl, bel.frame _, fun h => by cases h⟩
theorem proved : Rows.LabelJoinsSaid :=
  OpenClaim.holds_of_wide 7 Try.f7 rfl rfl rfl rfl rfl rfl rfl ⟨rfl, rfl, rfl, rfl, rfl⟩ rfl rfl rfl rfl rfl (by kernel_rfl) Try.func7 (by kernel_rfl)
    (of_decide_eq_true (by kernel_rfl)) (by unfold Func.isWrapper; first | (rw [if_pos (by decide +kernel)]; kernel_rfl) | (rw [if_neg (by decide +kernel)]; exact ⟨rfl, rfl⟩))
    (fun os started H enc _ => lifted os started H enc)
#print axioms proved
end labelJoins

end Go.Proofs.Ytolfbhanglkpkaa
