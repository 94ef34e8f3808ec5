import Derived.Test.YtljgkfdnmikpfaaGreatDoorHgfab
import Derived.Test.YtljgkfdnmikpfaaGreatDoorHgfaa
import Derived.Lib.Hide
import Derived.WalkKit
import Derived.Test.YtljgkfdnmikpfaaGreatDoorRows
set_option linter.unusedVariables false
set_option linter.unusedSimpArgs false
/- The document's own: good tables, the sides, the table as its own. -/
namespace Go.Proofs.YtljgkfdnmikpfaaGreatDoor
open Go.Shelf Go.RowKit

theorem may_level' {n k : List UInt8} {l : Int} (h : mayB n k l = true) : (1 ≤ l ∧ l ≤ 1200) ∧ sideB k ≠ 0 := by
  unfold mayB at h
  split at h
  · simp at h
    obtain ⟨rfl, rfl⟩ := h
    exact ⟨by omega, by decide⟩
  · split at h
    · cases h
    · split at h
      · cases h
      · split at h
        · cases h
        · split at h
          · cases h
          · simp at h
            exact ⟨⟨h.1.2, h.2⟩, h.1.1.2⟩
theorem side_two' (k : List UInt8) (h : sideB k ≠ 0) : sideB k = 1 ∨ sideB k = 2 := by
  unfold sideB at h ⊢
  repeat' split
  all_goals first | exact Or.inl rfl | exact Or.inr rfl | skip
  all_goals simp_all
/-- No key yet is that one. -/
def NoKey (xs : List O) (m : Nat) (K : List UInt8 × Int) : Prop := ∀ (j : Nat) (y : O), j < m → xs[j]? = some y → key y ≠ K
theorem NoKey.next {xs : List O} {m : Nat} {K : List UInt8 × Int} (h : NoKey xs m K) {x : O} (hx : xs[m]? = some x) (hn : key x ≠ K) : NoKey xs (m + 1) K := fun j y hj hy => by
  rcases Nat.lt_succ_iff_lt_or_eq.1 hj with h' | rfl
  · exact h j y h' hy
  · rw [hx] at hy
    cases hy
    exact hn
def AllOk (xs : List O) (k : Nat) : Prop := ∀ (j : Nat) (x : O), j < k → xs[j]? = some x → okB (xs.take j) x = true
theorem AllOk.next {xs : List O} {k : Nat} (h : AllOk xs k) {x : O} (hx : xs[k]? = some x) (hn : okB (xs.take k) x = true) : AllOk xs (k + 1) := fun j y hj hy => by
  rcases Nat.lt_succ_iff_lt_or_eq.1 hj with h' | rfl
  · exact h j y h' hy
  · rw [hx] at hy
    cases hy
    exact hn
theorem ok_iff (pre : List O) (x : O) : okB pre x = true ↔ mayO x = true ∧ ∀ y ∈ pre, key y ≠ key x := by
  unfold okB
  rw [Bool.and_eq_true, decide_eq_true_eq, place_neg]
  rfl
theorem key_bet {x y : O} (hx : sideB (bl x.k) ≠ 0) (hy : sideB (bl y.k) ≠ 0) : key x = key y ↔ (bl x.n == bl y.n) = true ∧ (betB (bl x.k) == betB (bl y.k)) = true := by
  unfold key
  rw [Prod.mk.injEq, bet_side, bet_side, beq_iff_eq]
  refine and_congr_right fun _ => ?_
  rcases side_two' _ hx with h1 | h1 <;> rcases side_two' _ hy with h2 | h2 <;> rw [h1, h2] <;> simp

set_option maxRecDepth 100000
set_option maxHeartbeats 1000000 in
theorem goodOps_walk {w : World} {v : Value} {xs : List O} (h : Ops w v xs) :
    Calls Tryz.prog 59 #[v] w fun e w' => e = .returned (.bool (goodB xs)) ∧ Below w.heap.size w w' := by
  obtain ⟨a, c, rfl, hl1, hl2⟩ := h.form
  unfold maxLen at hl2
  have H := Lib.hid h
  clear h
  obtain ⟨r, hr⟩ : ∃ r, goodB xs = r := ⟨_, rfl⟩
  have HR := Lib.hid hr
  rw [hr]
  clear hr
  go_enter Tryz.func59, Tryz.ntmps59
  go_wp2_with fail
  go_loopw [3] (fun i wr => ∃ k : Nat, k ≤ xs.length ∧ i = .int .i64 k ∧ Hid (AllOk xs k ∧ Below w.heap.size w wr)) (fun i _ => xs.length - (intOf i).toNat)
  case atStart => exact ⟨0, by omega, rfl, Lib.hid ⟨fun j x hj => by omega, Below.refl _ _⟩⟩
  case round =>
    obtain ⟨k, hk, rfl, HB⟩ := hrel
    by_cases hlt : k < xs.length
    · obtain ⟨x, hx⟩ : ∃ x, xs[k]? = some x := ⟨_, List.getElem?_eq_getElem hlt⟩
      obtain ⟨b, off, rfl, hbs, _⟩ := H.out.cells hx
      have HDC := Lib.hid (fun (wq : World) (hb : Below w.heap.size w wq) (j : Nat) (y : O) (hy : xs[j]? = some y) => (show wq.cell? ⟨b, off + j * 3, none⟩ = some (.string y.n) ∧ wq.cell? ⟨b, off + j * 3 + 1, none⟩ = some (.string y.k) ∧ wq.cell? ⟨b, off + j * 3 + 2, none⟩ = some (.int .i64 y.l) from by
        obtain ⟨b', off', e, _, h⟩ := (H.out.ext hb).cells hy
        cases e
        exact h))
      obtain ⟨d0, d1, d2⟩ := HDC.out wr HB.out.2 k x hx
      have HX := Lib.hid hx
      clear hx
      have hmay := goodOp_walk x.n x.k x.l
      have HO : Hid (mayO x = mayB (bl x.n) (bl x.k) x.l) := Lib.hid rfl
      obtain ⟨q, hq⟩ : ∃ q, mayB (bl x.n) (bl x.k) x.l = q := ⟨_, rfl⟩
      rw [hq] at hmay HO
      have HM := Lib.hid hmay
      have HQ := Lib.hid hq
      clear hmay hq
      have hbx := between_walk x.k
      have HKB : Hid (∀ y : O, sideB (bl y.k) ≠ 0 → sideB (bl x.k) ≠ 0 → (key y = key x ↔ (bl y.n == bl x.n) = true ∧ (betB (bl y.k) == betB (bl x.k)) = true)) := Lib.hid (fun y h1 h2 => key_bet h1 h2)
      obtain ⟨p, hp⟩ : ∃ p, betB (bl x.k) = p := ⟨_, rfl⟩
      rw [hp] at hbx HKB
      have HBX := Lib.hid hbx
      clear hbx hp
      rcases x with ⟨xn, xk, xl⟩
      simp only at d0 d1 d2
      obtain ⟨K, hK⟩ : ∃ K, key ⟨xn, xk, xl⟩ = K := ⟨_, rfl⟩
      have HK := Lib.hid hK
      rw [hK] at HKB
      clear hK
      have hkk : (k : Int) < xs.length := by omega
      (go_wp2_with fail; go_fit (HM.out _); rintro e w3 ⟨rfl, hb3⟩)
      have HB3 := Lib.hid (Ext.trans' HB.out.2 hb3)
      clear hb3 d0 d1 d2
      cases q
      · have HNO : Hid (r = false) := Lib.hid (by
          rw [← HR.out]
          refine good_no HX.out ?_
          cases ho : okB (xs.take k) ⟨xn, xk, xl⟩
          · rfl
          · have := ((ok_iff _ _).1 ho).1; rw [HO.out] at this; cases this)
        go_wp2
        go_ret
        exact ⟨ret_bool HNO.out.symm, HB3.out⟩
      · have HSX : Hid (sideB (bl xk) ≠ 0) := Lib.hid (may_level' HQ.out).2
        go_wp2_with fail
        go_loopw [4] (fun i wr => ∃ m : Nat, m ≤ k ∧ i = .int .i64 m ∧ Hid (NoKey xs m K ∧ Below w.heap.size w wr)) (fun i _ => k - (intOf i).toNat)
        case atStart => exact ⟨0, by omega, rfl, Lib.hid ⟨fun j y hj => by omega, HB3.out⟩⟩
        case round =>
          obtain ⟨m, hm, rfl, HI⟩ := hrel
          by_cases hml : m < k
          · obtain ⟨y, hy⟩ : ∃ y, xs[m]? = some y := ⟨_, List.getElem?_eq_getElem (by omega)⟩
            obtain ⟨e0, e1, _⟩ := HDC.out wr HI.out.2 m y hy
            obtain ⟨d0, d1, _⟩ := HDC.out wr HI.out.2 k _ HX.out
            have HY := Lib.hid hy
            have HSY : Hid (sideB (bl y.k) ≠ 0) := Lib.hid (may_level' (n := bl y.n) (l := y.l) ((ok_iff _ _).1 (HB.out.1 m y hml hy)).1).2
            clear hy
            have hby := between_walk y.k
            have HKY : Hid (key y = K ↔ (y.n.toList == xn.toList) = true ∧ (betB (bl y.k) == p) = true) := Lib.hid (by
              rw [HKB.out y HSY.out HSX.out, Lib.toList_data, Lib.toList_data])
            obtain ⟨q2, hq2⟩ : ∃ q2, betB (bl y.k) = q2 := ⟨_, rfl⟩
            rw [hq2] at hby HKY
            have HBY := Lib.hid hby
            clear hby hq2
            rcases y with ⟨yn, yk, yl⟩
            simp only at e0 e1 d0 d1
            have hmm : (m : Int) < k := by omega
            have hm1 : (m : Int) < xs.length := by omega
            cases h1 : (yn.toList == xn.toList)
            · have HNO : Hid (key ⟨yn, yk, yl⟩ ≠ K) := Lib.hid (fun e => by have := (HKY.out.1 e).1; rw [h1] at this; cases this)
              go_wp2_with fail
              go_big_quiet (fail)
              go_wp2
              go_roundw
              case rel => exact ⟨m + 1, by omega, by go_num, Lib.hid ⟨HI.out.1.next HY.out HNO.out, bel_drewN HI.out.2 _⟩⟩
              case measure => simp [intOf]; omega
            · cases h2 : (q2 == p)
              · have HNO : Hid (key ⟨yn, yk, yl⟩ ≠ K) := Lib.hid (fun e => by have := (HKY.out.1 e).2; rw [h2] at this; cases this)
                go_wp2_with fail
                go_big_quiet (first | (go_at_call_of 95 yk; exact Calls.quiet_of_same ((HBY.out _).mono fun _ _ ⟨a, b⟩ => ⟨a, b.symm⟩)) | (go_at_call_of 95 xk; exact Calls.quiet_of_same ((HBX.out _).mono fun _ _ ⟨a, b⟩ => ⟨a, b.symm⟩)))
                go_wp2
                go_roundw
                case rel => exact ⟨m + 1, by omega, by go_num, Lib.hid ⟨HI.out.1.next HY.out HNO.out, bel_drewN HI.out.2 _⟩⟩
                case measure => simp [intOf]; omega
              · have HNO : Hid (r = false) := Lib.hid (by
                  rw [← HR.out]
                  refine good_no HX.out ?_
                  cases ho : okB (xs.take k) ⟨xn, xk, xl⟩
                  · rfl
                  · exact absurd ((HKY.out.2 ⟨h1, h2⟩).trans HK.out.symm) (((ok_iff _ _).1 ho).2 _ (List.mem_of_getElem? (show (xs.take k)[m]? = _ by rw [List.getElem?_take, if_pos hml]; exact HY.out))))
                go_wp2_with fail
                go_big_quiet (first | (go_at_call_of 95 yk; exact Calls.quiet_of_same ((HBY.out _).mono fun _ _ ⟨a, b⟩ => ⟨a, b.symm⟩)) | (go_at_call_of 95 xk; exact Calls.quiet_of_same ((HBX.out _).mono fun _ _ ⟨a, b⟩ => ⟨a, b.symm⟩)))
                go_wp2
                go_ret
                exact ⟨ret_bool HNO.out.symm, bel_drewN HI.out.2 _⟩
          · have hmm : ¬ (m : Int) < k := by omega
            have hmk : m = k := by omega
            have HNX : Hid (AllOk xs (k + 1)) := Lib.hid (HB.out.1.next HX.out ((ok_iff _ _).2 ⟨HQ.out, fun z hz => by
              obtain ⟨i, hi, rfl⟩ := List.mem_take_iff_getElem.1 hz
              have := HI.out.1 i _ (by omega) (List.getElem?_eq_getElem (by omega))
              rw [HK.out]
              exact this⟩))
            go_wp2
            go_roundw
            case rel => exact ⟨k + 1, by omega, by go_num, Lib.hid ⟨HNX.out, HI.out.2⟩⟩
            case measure => simp [intOf]; omega
    · have hkk : ¬ (k : Int) < xs.length := by omega
      have HF : Hid (r = decide ((xs.length : Int) ≤ 128)) := Lib.hid (by
        rw [← HR.out]
        by_cases h128 : xs.length ≤ 128
        · rw [good_yes h128 (fun j x hx => HB.out.1 j x (by have := (List.getElem?_eq_some_iff.1 hx).1; omega) hx)]
          symm
          simp
          omega
        · have : goodB xs = false := by
            cases hg : goodB xs
            · rfl
            · exact absurd (good_len hg) h128
          rw [this]
          symm
          simp
          omega)
      go_wp2
      go_ret
      exact ⟨ret_bool HF.out.symm, HB.out.2⟩
end Go.Proofs.YtljgkfdnmikpfaaGreatDoor
/- The document's own: the sides, the table as its own. -/
namespace Go.Proofs.YtljgkfdnmikpfaaGreatDoor
open Go.Shelf Go.RowKit

set_option maxRecDepth 100000
set_option maxHeartbeats 1000000 in
theorem rsides_walk (n k : ByteArray) (l : Int) (w : World) :
    Calls Tryz.prog 117 #[.agg #[.string n, .string k, .int .i64 l]] w fun e w' => e = .returned (.tuple #[.int .i64 (sidesB (bl k) l).1, .int .i64 (sidesB (bl k) l).2]) ∧ Below w.heap.size w w' := by
  cases h1 : (k.toList == [120, 102, 120])
  · cases h2 : (k.toList == [120, 102, 121])
    · cases h3 : (k.toList == [121, 102, 120])
      · cases h4 : (k.toList == [102, 121])
        · cases h5 : (k.toList == [102, 120])
          · have hE : sidesB (bl k) l = (0, 0) := by unfold sidesB; simp only [tests_bl h1, tests_bl h2, tests_bl h3, tests_bl h4, tests_bl h5, if_true]; try rfl
            rw [hE]; clear hE
            go_enter Tryz.func117, Tryz.ntmps117
            go_wp2
            go_ret2
            exact ⟨rfl, by first | exact bel1' _ _ | exact bel_drewN (bel1' _ _) _⟩
          · have hE : sidesB (bl k) l = (0, wrap64 (l - 1)) := by unfold sidesB; simp only [tests_bl h1, tests_bl h2, tests_bl h3, tests_bl h4, tests_bl h5, if_true]; try rfl
            rw [hE]; clear hE
            go_enter Tryz.func117, Tryz.ntmps117
            go_wp2_with fail
            go_quiet (fail)
            go_wp2
            go_ret2
            exact ⟨rfl, by first | exact bel1' _ _ | exact bel_drewN (bel1' _ _) _⟩
        · have hE : sidesB (bl k) l = (0, l) := by unfold sidesB; simp only [tests_bl h1, tests_bl h2, tests_bl h3, tests_bl h4, if_true]; try rfl
          rw [hE]; clear hE
          go_enter Tryz.func117, Tryz.ntmps117
          go_wp2_with fail
          go_quiet (fail)
          go_wp2
          go_ret2
          exact ⟨rfl, by first | exact bel1' _ _ | exact bel_drewN (bel1' _ _) _⟩
      · have hE : sidesB (bl k) l = (l, wrap64 (l - 1)) := by unfold sidesB; simp only [tests_bl h1, tests_bl h2, tests_bl h3, if_true]; try rfl
        rw [hE]; clear hE
        go_enter Tryz.func117, Tryz.ntmps117
        go_wp2_with fail
        go_quiet (fail)
        go_wp2
        go_ret2
        exact ⟨rfl, by first | exact bel1' _ _ | exact bel_drewN (bel1' _ _) _⟩
    · have hE : sidesB (bl k) l = (wrap64 (l - 1), l) := by unfold sidesB; simp only [tests_bl h1, tests_bl h2, if_true]; try rfl
      rw [hE]; clear hE
      go_enter Tryz.func117, Tryz.ntmps117
      go_wp2_with fail
      go_quiet (fail)
      go_wp2
      go_ret2
      exact ⟨rfl, by first | exact bel1' _ _ | exact bel_drewN (bel1' _ _) _⟩
  · have hE : sidesB (bl k) l = (wrap64 (l - 1), wrap64 (l - 1)) := by unfold sidesB; simp only [tests_bl h1, if_true]; try rfl
    rw [hE]; clear hE
    go_enter Tryz.func117, Tryz.ntmps117
    go_wp2_with fail
    go_quiet (fail)
    go_wp2
    go_ret2
    exact ⟨rfl, by first | exact bel1' _ _ | exact bel_drewN (bel1' _ _) _⟩

theorem infoR : (Tryz.prog.info? 114).map (fun i => (i.zero, i.size, i.bytes)) = some (some (.agg #[.string ⟨#[]⟩, .string ⟨#[]⟩, .int .i64 0]), 3, 40) := by kernel_rfl
theorem infoR_parts : ∃ i, Tryz.prog.info? 114 = some i ∧ i.zero = some (.agg #[.string ⟨#[]⟩, .string ⟨#[]⟩, .int .i64 0]) ∧ i.size = 3 ∧ i.bytes = 40 := by
  have h := infoR
  cases hi : Tryz.prog.info? 114 with
  | none => rw [hi] at h; simp at h
  | some i => rw [hi] at h; simp only [Option.map_some, Option.some.injEq, Prod.mk.injEq] at h; exact ⟨i, rfl, h.1, h.2.1, h.2.2⟩
/-- What the call owns, of whatever kind the row is, reads as these. -/
theorem ops_owned {w : World} {B e : Nat} {v : Value} {L : List O} (h : w.ownsRow B e 3 v L.length (L.flatMap oCells)) : Ops w v L := by
  rcases h.2 with ⟨rfl, h0⟩ | ⟨g, cap, cur, rfl, _, hg, h1, h2, h3, h4⟩
  · obtain rfl := List.length_eq_zero_iff.1 h0
    exact ⟨none, 0, rfl, Nat.le_refl _, Nat.zero_le _, Or.inl rfl⟩
  · refine ⟨_, cap, rfl, h1, h2, Or.inr ⟨g, 0, rfl, (Array.getElem?_eq_some_iff.1 hg).1, fun i x hx j u hu => ?_⟩⟩
    have hj : j < 3 := by have := (List.getElem?_eq_some_iff.1 hu).1; rwa [oCells_len] at this
    have hi := (List.getElem?_eq_some_iff.1 hx).1
    have h5 := flat3_get L i x hx j hj
    rw [← h4, List.getElem?_take, if_pos (by omega), hu] at h5
    rw [Nat.zero_add, World.cell?, hg]
    simpa using h5
theorem one_src (w : World) (x : O) (t : TypeId) : ∀ (j : Nat) (u : Value), ([x].flatMap oCells)[j]? = some u → (w.alloc (.cells #[.string x.n, .string x.k, .int .i64 x.l] t)).cell? ((⟨w.heap.size, 0, none⟩ : Addr).add j) = some u := fun j u hu => by
  rw [add_plain, Nat.zero_add, World.cell?_alloc_at _ _ _ _ rfl]
  simpa [oCells] using hu

end Go.Proofs.YtljgkfdnmikpfaaGreatDoor
/- append of a string's bytes to a row of the call's own. Nothing here speaks of one program. -/
namespace Go.Proofs.YtljgkfdnmikpfaaGreatDoor
open Go.RowKit
set_option linter.unusedVariables false

section
variable {P : Program}
theorem run_append_room_row (w : World) (t tx ty e : TypeId) (i : TypeInfo) (ht : P.underlying t = some (.slice e)) (hi : P.info? e = some i) (g sLen sCap : Nat) (cur : Array Value) (hg : w.heap[g]? = some (.cells cur e (0, 0)))
    (x : Value) (n : Nat) (news : List Value) (hs : Src P i.size tx x n news w) (hroom : sLen + n ≤ sCap) (hfit : sLen * i.size + news.length ≤ cur.size) :
    (Builtin.append_ #[t, tx] ty #[.slice (some ⟨g, 0, none⟩) sLen sCap, x]).run P w =
      .ok (.slice (some ⟨g, 0, none⟩) (sLen + n) sCap) (w.setRow g (cur.toList.take (sLen * i.size) ++ news ++ cur.toList.drop (sLen * i.size + news.length)).toArray) := by
  have hst := run_storeCells_at P g (sLen * i.size) e news 0 cur w hg (by simpa using hfit) hs.one
  simp only [Nat.add_zero] at hst
  rcases hs.kind with ⟨e', hk⟩ | hk <;> simp [Builtin.append_, run_underlying ht, run_underlying hk, sizeOf, typeInfo, hi, hs.len, hroom, hs.cells, Addr.add_lit, hst]
theorem run_append_src (w : World) (base : Nat) (t tx ty e : TypeId) (i : TypeInfo) (z : Value) (size bytes : Nat) (ht : P.underlying t = some (.slice e)) (hi : P.info? e = some i) (hz : i.zero = some z) (hsize : i.size = size) (hpos : 0 < size) (hby : i.bytes = bytes) (hzs : z.cells.size = size)
    (v : Value) (n : Nat) (xs : List Value) (hown : w.ownsRow base e size v n xs) (x : Value) (m : Nat) (news : List Value) (hs : Src P i.size tx x m news w)
    (h63 : n + m ≤ maxLen) (hbytes : (n + m) * bytes ≤ 140737488355328) (hbase : base ≤ w.heap.size) :
    ∃ v' w', (Builtin.append_ #[t, tx] ty #[v, x]).run P w = .ok v' w' ∧ w'.ownsRow base e size v' (n + m) (xs ++ news) ∧ w.grownBy w' v.ownBlock ∧ (v'.ownBlock = v.ownBlock ∨ v'.ownBlock = some w.heap.size) := by
  subst hsize
  subst hby
  have hl := hs.newsLen
  have hsmall : n + m ≤ 9223372036854775807 := by simp only [maxLen] at h63; omega
  have hlen : (xs ++ news).length = (n + m) * i.size := by rw [List.length_append, hown.1, hl, Nat.add_mul]
  have grown : ∀ (old : Nat), old < n + m → ∀ (row : Option Nat),
      (w.drew.alloc (.cells ((xs ++ news).toArray ++ Builtin.zeroCells z.cells (grownCap w (n + m) old e - (n + m))) e)).ownsRow base e i.size
        (.slice (some ⟨w.heap.size, 0, none⟩) (n + m) (grownCap w (n + m) old e)) (n + m) (xs ++ news) ∧
      w.grownBy (w.drew.alloc (.cells ((xs ++ news).toArray ++ Builtin.zeroCells z.cells (grownCap w (n + m) old e - (n + m))) e)) row := by
    intro old ho row
    have hge := grownCap_ge w (n + m) old e
    have hcm : grownCap w (n + m) old e ≤ maxLen := grownCap_le_maxLen w (n + m) old e h63
    refine ⟨⟨hlen, .inr ⟨w.heap.size, _, _, rfl, hbase, heap_alloc_new w.drew _, hge, hcm, ?_, ?_⟩⟩, ⟨rfl, rfl, rfl, by simp, fun k hk _ => by first | exact heap_alloc_old w.drew _ hk | exact heap_alloc_old w.drew _ _ hk⟩⟩
    · simp only [Array.size_append, List.size_toArray, size_zeroCells, hzs, hlen, ← Nat.add_mul]
      congr 1
      omega
    · simp only [Array.toList_append]
      rw [← hlen]
      exact List.take_left
  rcases hown.2 with ⟨rfl, rfl⟩ | ⟨g, cap, cur, rfl, hbg, hg, hnc, hcm, hcs, htake⟩
  · have hx : xs = [] := List.eq_nil_of_length_eq_zero (by simpa using hown.1)
    subst hx
    by_cases hm : m = 0
    · subst hm
      have hn : news = [] := List.eq_nil_of_length_eq_zero (by simpa using hl)
      subst hn
      exact ⟨_, w, run_append_nothing w t tx ty e i ht hi none 0 0 (Nat.le_refl _) x hs, by simpa using hown, ⟨rfl, rfl, rfl, Nat.le_refl _, fun _ _ _ => rfl⟩, Or.inl rfl⟩
    · have hr := run_append_grow_src (P := P) w t tx ty e i z ht hi hz none 0 0 [] (run_firstCells_none w.drew i.size 0 0 0) x m news hs (by omega) (by omega) (growslice_fits (by omega) (by simpa using hbytes))
      have hgr := grown 0 (by omega) (Value.ownBlock (.slice none 0 0))
      simp only [Nat.zero_add, List.nil_append] at hgr hr ⊢
      exact ⟨_, _, hr, hgr.1, hgr.2, Or.inr rfl⟩
  · by_cases hroom : n + m ≤ cap
    · have hfit : n * i.size + news.length ≤ cur.size := by rw [hl, hcs, ← Nat.add_mul]; exact Nat.mul_le_mul_right _ hroom
      have hr := run_append_room_row (P := P) w t tx ty e i ht hi g n cap cur hg x m news hs hroom hfit
      refine ⟨_, _, hr, ⟨hlen, .inr ⟨g, cap, _, rfl, hbg, setRow_heap w g cur _ e _ hg, hroom, hcm, ?_, ?_⟩⟩, ⟨rfl, rfl, rfl, by simp, fun k _ hk => setRow_other w g k _ (fun e => hk (by simp [Value.ownBlock, e]))⟩, Or.inl rfl⟩
      · simp only [List.size_toArray, List.length_append, List.length_take, List.length_drop, Array.length_toList]
        omega
      · rw [htake, ← hlen]
        exact List.take_left
    · have holds : ∀ j u, xs[j]? = some u → w.cell? ((⟨g, 0, none⟩ : Addr).add j) = some u := hown.cells (g := g) rfl
      have hr := run_append_grow_src (P := P) w t tx ty e i z ht hi hz (some ⟨g, 0, none⟩) n cap xs (run_firstCells_some w.drew i.size n ⟨g, 0, none⟩ n cap xs hown.1 (by simpa using holds)) x m news hs (by omega) (by omega) (growslice_fits (by omega) hbytes)
      have hgr := grown cap (by omega) (Value.ownBlock (.slice (some ⟨g, 0, none⟩) n cap))
      exact ⟨_, _, hr, hgr.1, hgr.2, Or.inr rfl⟩
theorem wpList_append_s {w : World} {ops : Array Oper} {rest : List Oper} {o : Oper} {a : Act} {Q : Exit → Act → World → Prop} (hgd : o.guard = none) (s x : Operand) (t tx : TypeId)
    (ho : o.op = .call { callee := .builtin .append, args := #[s, x], argTypes := #[t, tx] })
    (base : Nat) (e : TypeId) (i : TypeInfo) (z : Value) (bytes : Nat) (ht : P.underlying t = some (.slice e)) (htx : P.underlying tx = some .string) (hi : P.info? e = some i) (hz : i.zero = some z) (hsize : i.size = 1) (hby : i.bytes = bytes) (hzs : z.cells.size = 1)
    (v : Value) (n : Nat) (xs : List Value) (hs : a.eval s = v) (hown : w.ownsRow base e 1 v n xs) (b : ByteArray) (hx : a.eval x = .string b)
    (h63 : n + b.size ≤ maxLen) (hbytes : (n + b.size) * bytes ≤ 140737488355328) (hbase : base ≤ w.heap.size)
    (h : ∀ (a' : Option Addr) (c' : Nat) (w' : World), w'.ownsRow base e 1 (.slice a' (n + b.size) c') (n + b.size) (xs ++ byteCells b) → w.grownBy w' v.ownBlock → ((Value.slice a' (n + b.size) c').ownBlock = v.ownBlock ∨ (Value.slice a' (n + b.size) c').ownBlock = some w.heap.size) → wpList P ops Q rest (a.put o.dst (.slice a' (n + b.size) c')) w') :
    wpList P ops Q (o :: rest) a w := by
  refine wpList_plain hgd fun K hK => ?_
  obtain ⟨v', w', hr, h2, h3, h4⟩ := run_append_src (P := P) w base t tx o.type e i z 1 bytes ht hi hz hsize (by omega) hby hzs v n xs hown (.string b) b.size (byteCells b) (by rw [hsize]; exact Src.ofString w htx b) h63 hbytes hbase
  obtain ⟨a', c', rfl, _⟩ := row_formk h2
  unfold Oper.wp execOp
  simp only [ho, resolve, invoke, builtin, Sem.run_bind, Sem.run_pure, Result.andThen_ok, List.map_toArray, List.map_cons, List.map_nil, hs, hx, hr]
  exact hK _ _ (h a' c' w' h2 h3 h4)
end
end Go.Proofs.YtljgkfdnmikpfaaGreatDoor
/- Terms as trees, as chapter 7 says them. Nothing here is walked. -/
namespace Go.Proofs.YtljgkfdnmikpfaaGreatDoor

inductive Tm where
  | mk (k n : Int) (s : ByteArray) (ts : List Tm)
namespace Tm
def k : Tm → Int | mk k _ _ _ => k
def n : Tm → Int | mk _ n _ _ => n
def s : Tm → ByteArray | mk _ _ s _ => s
def args : Tm → List Tm | mk _ _ _ ts => ts
end Tm
mutual
/-- How many terms it is made of. -/
def sizeN : Tm → Nat
  | .mk _ _ _ ts => sizesN ts + 1
def sizesN : List Tm → Nat
  | [] => 0
  | x :: r => sizeN x + sizesN r
end
mutual
def depthN : Tm → Nat
  | .mk _ _ _ ts => depthsN ts + 1
def depthsN : List Tm → Nat
  | [] => 0
  | x :: r => max (depthN x) (depthsN r)
end
def letterB (c : UInt8) : Bool := c == 9 || c == 10 || (decide (32 ≤ c) && decide (c ≤ 126))
/-- What a term's own fields may be. -/
def plainT (k n : Int) (s : List UInt8) (m : Nat) : Bool :=
  if k = 0 then decide (0 ≤ n) && decide (n < 2147483648) && s.isEmpty && decide (m = 0)
  else if k = 1 then s.isEmpty && decide (m = 0)
  else if k = 2 then decide (n = 0) && decide (s.length ≤ 64) && decide (m ≤ 8) && s.all letterB
  else false
mutual
def formedT : Tm → Bool
  | .mk k n s ts => plainT k n s.data.toList ts.length && formedL ts
def formedL : List Tm → Bool
  | [] => true
  | x :: r => formedT x && formedL r
end
def goodT (t : Tm) : Bool := decide (sizeN t ≤ 2000) && decide (depthN t ≤ 64) && formedT t
mutual
/-- The variables' numbers behind those of 'l', each once. -/
def varsT : Tm → List Int → List Int
  | .mk k n _ ts, l => if k = 0 then (if l.contains n then l else l ++ [n]) else varsL ts l
def varsL : List Tm → List Int → List Int
  | [], l => l
  | x :: r, l => varsL r (varsT x l)
end
mutual
def sameT : Tm → Tm → Bool
  | .mk k n s ts, .mk k' n' s' ts' => k == k' && n == n' && s.data.toList == s'.data.toList && sameL ts ts'
def sameL : List Tm → List Tm → Bool
  | [], [] => true
  | x :: r, y :: q => sameT x y && sameL r q
  | _, _ => false
end
def dotS : ByteArray := ⟨#[46]⟩
/-- Two Args under the list's name. -/
def pairA (c : Bool) : List Tm → Option (Tm × Tm)
  | [a, b] => if c then some (a, b) else none
  | _ => none
def pairT : Tm → Option (Tm × Tm)
  | .mk k _ s ts => pairA (k == 2 && s.data.toList == [46]) ts
theorem size_pos (t : Tm) : 1 ≤ sizeN t := by cases t; rw [sizeN]; omega
theorem depth_pos (t : Tm) : 1 ≤ depthN t := by cases t; rw [depthN]; omega
theorem sizes_mem : ∀ {l : List Tm} {x : Tm}, x ∈ l → sizeN x ≤ sizesN l
  | y :: r, x, h => by
    rw [sizesN]
    rcases List.mem_cons.1 h with rfl | h
    · omega
    · have := sizes_mem h; omega
theorem depths_mem : ∀ {l : List Tm} {x : Tm}, x ∈ l → depthN x ≤ depthsN l
  | y :: r, x, h => by
    rw [depthsN]
    rcases List.mem_cons.1 h with rfl | h
    · omega
    · have := depths_mem h; omega
theorem formed_mem : ∀ {l : List Tm} {x : Tm}, formedL l = true → x ∈ l → formedT x = true
  | y :: r, x, hf, h => by
    rw [formedL, Bool.and_eq_true] at hf
    rcases List.mem_cons.1 h with rfl | h
    · exact hf.1
    · exact formed_mem hf.2 h
theorem good_parts {t : Tm} (h : goodT t = true) : sizeN t ≤ 2000 ∧ depthN t ≤ 64 ∧ formedT t = true := by
  unfold goodT at h
  simp only [Bool.and_eq_true, decide_eq_true_eq] at h
  exact ⟨h.1.1, h.1.2, h.2⟩
theorem good_of {t : Tm} (h1 : sizeN t ≤ 2000) (h2 : depthN t ≤ 64) (h3 : formedT t = true) : goodT t = true := by
  unfold goodT
  simp [h1, h2, h3]
/-- An Arg of a good one is good. -/
theorem good_arg {t x : Tm} (h : goodT t = true) (hx : x ∈ t.args) : goodT x = true := by
  obtain ⟨h1, h2, h3⟩ := good_parts h
  cases t with
  | mk k n s ts =>
    have hx' : x ∈ ts := hx
    rw [sizeN] at h1
    rw [depthN] at h2
    rw [formedT, Bool.and_eq_true] at h3
    have a := sizes_mem hx'
    have b := depths_mem hx'
    exact good_of (by omega) (by omega) (formed_mem h3.2 hx')
theorem bytes_eq {s t : ByteArray} (h : s.data.toList = t.data.toList) : s = t := by
  obtain ⟨⟨l⟩⟩ := s; obtain ⟨⟨m⟩⟩ := t; simp at h; rw [h]
theorem pairA_some {c : Bool} {ts : List Tm} {a b : Tm} (h : pairA c ts = some (a, b)) : c = true ∧ ts = [a, b] := by
  match ts, h with
  | [], h => cases h
  | [x], h => cases h
  | [x, y], h =>
    unfold pairA at h
    cases c
    · cases h
    · cases h; exact ⟨rfl, rfl⟩
  | x :: y :: z :: r, h => cases h
theorem pair_size {t a b : Tm} (h : pairT t = some (a, b)) : sizeN b < sizeN t ∧ t.args = [a, b] ∧ t.k = 2 ∧ t.s = dotS := by
  cases t with
  | mk k n s ts =>
    obtain ⟨hc, rfl⟩ := pairA_some h
    simp only [Bool.and_eq_true, beq_iff_eq] at hc
    refine ⟨?_, rfl, hc.1, bytes_eq hc.2⟩
    rw [sizeN, sizesN, sizesN, sizesN]
    have := size_pos a
    omega
/-- The items, and what ends them. -/
def itemsF : Nat → Tm → List Tm × Tm
  | 0, t => ([], t)
  | m + 1, t => match pairT t with
    | some (a, b) => (a :: (itemsF m b).1, (itemsF m b).2)
    | none => ([], t)
def itemsT (t : Tm) : List Tm × Tm := itemsF (sizeN t) t
theorem items_fuel : ∀ (m m' : Nat) (t : Tm), sizeN t ≤ m → sizeN t ≤ m' → itemsF m t = itemsF m' t
  | 0, m', t, h, _ => by have := size_pos t; omega
  | m + 1, 0, t, _, h => by have := size_pos t; omega
  | m + 1, m' + 1, t, h, h' => by
    rw [itemsF, itemsF]
    cases hp : pairT t with
    | none => rfl
    | some q =>
      obtain ⟨a, b⟩ := q
      have := pair_size hp
      simp only
      rw [items_fuel m m' b (by omega) (by omega)]
theorem items_none {t : Tm} (h : pairT t = none) : itemsT t = ([], t) := by
  unfold itemsT
  have := size_pos t
  rw [show sizeN t = (sizeN t - 1) + 1 by omega, itemsF, h]
theorem items_some {t a b : Tm} (h : pairT t = some (a, b)) : itemsT t = (a :: (itemsT b).1, (itemsT b).2) := by
  unfold itemsT
  have h1 := pair_size h
  have := size_pos t
  rw [show sizeN t = (sizeN t - 1) + 1 by omega, itemsF, h]
  simp only
  rw [items_fuel (sizeN t - 1) (sizeN b) b (by omega) (Nat.le_refl _)]
end Go.Proofs.YtljgkfdnmikpfaaGreatDoor
/- Letter by letter, as chapter 6 says it, over lists of bytes: what stands next. Nothing here is walked. -/
namespace Go.Proofs.YtljgkfdnmikpfaaGreatDoor

def smallB (c : UInt8) : Bool := decide (97 ≤ c) && decide (c ≤ 122)
def greatB (c : UInt8) : Bool := (decide (65 ≤ c) && decide (c ≤ 90)) || c == 95
def digitB (c : UInt8) : Bool := decide (48 ≤ c) && decide (c ≤ 57)
def wordB (c : UInt8) : Bool := smallB c || greatB c || digitB c
def blankB (c : UInt8) : Bool := c == 32 || c == 9 || c == 10 || c == 13
def symB (c : UInt8) : Bool := [43, 45, 42, 47, 92, 94, 60, 62, 61, 126, 58, 46, 63, 64, 35, 38, 36].contains c
/-- What stands behind a full stop that is an end. -/
def endB (r : List UInt8) : Bool := match r with | [] => true | c :: _ => blankB c || c == 37
def openB (r : List UInt8) : Bool := match r with | [] => false | c :: _ => c == 40
/-- As many symbols as follow. -/
def symRun : List UInt8 → Nat
  | [] => 0
  | c :: r => if symB c && !(c == 46 && endB r) then symRun r + 1 else 0
/-- What a letter behind a '\' stands for. -/
def escB (c : UInt8) : Option UInt8 := if c == 110 then some 10 else if c == 116 then some 9 else if c == 92 then some 92 else if c == 39 then some 39 else none
/-- Behind the first quote: what it stands for, how many bytes to behind the last quote. -/
def quoB : List UInt8 → Option (List UInt8 × Nat)
  | [] => none
  | [c] => if c == 39 then some ([], 1) else none
  | c :: d :: r =>
    if c == 39 then (if d == 39 then (quoB r).map fun p => (39 :: p.1, p.2 + 2) else some ([], 1))
    else if c == 92 then (match escB d with | none => none | some e => (quoB r).map fun p => (e :: p.1, p.2 + 2))
    else if decide (32 ≤ c) && decide (c ≤ 126) then (quoB (d :: r)).map fun p => (c :: p.1, p.2 + 1) else none
def numB (l : List UInt8) : Nat := l.foldl (fun n c => n * 10 + (c.toNat - 48)) 0

structure TokB where
  kind : Nat
  text : List UInt8
  n : Nat
  len : Nat
  opens : Bool
/-- What stands next: so many bytes are passed over; a token; nothing that may be. -/
inductive NextB where
  | skip (k : Nat)
  | tok (t : TokB)
  | bad (over : Bool)

def tokB (kind : Nat) (text : List UInt8) (n k : Nat) (s : List UInt8) : NextB := .tok ⟨kind, text, n, k, openB (s.drop k)⟩
def nameB (k : Nat) (s : List UInt8) : NextB := if decide (k ≤ 64) then tokB 1 (s.take k) 0 k s else .bad true
def nextC (c : UInt8) (r : List UInt8) : NextB :=
    if blankB c then .skip 1
    else if c == 37 then .skip ((r.takeWhile fun x => x != 10).length + 1)
    else if smallB c then nameB ((r.takeWhile wordB).length + 1) (c :: r)
    else if greatB c then tokB 3 ((c :: r).take ((r.takeWhile wordB).length + 1)) 0 ((r.takeWhile wordB).length + 1) (c :: r)
    else if digitB c then
      if decide (numB ((c :: r).take ((r.takeWhile digitB).length + 1)) ≤ 9223372036854775807) then tokB 4 [] (numB ((c :: r).take ((r.takeWhile digitB).length + 1))) ((r.takeWhile digitB).length + 1) (c :: r) else .bad true
    else if c == 39 then
      match quoB r with
      | none => .bad false
      | some p => if decide (p.1.length ≤ 64) then tokB 2 p.1 0 (p.2 + 1) (c :: r) else .bad true
    else if c == 46 && endB r then tokB 6 [] 0 1 (c :: r)
    else if symB c then nameB (symRun (c :: r)) (c :: r)
    else if c == 59 || c == 33 then nameB 1 (c :: r)
    else if (c == 91 && r.head? == some 93) || (c == 123 && r.head? == some 125) then nameB 2 (c :: r)
    else if [40, 41, 91, 93, 123, 125, 44, 124].contains c then tokB 5 [c] 0 1 (c :: r)
    else .bad false
/-! A line's end behind the text changes nothing. -/
theorem tw_le (p : UInt8 → Bool) : ∀ r : List UInt8, (r.takeWhile p).length ≤ r.length
  | [] => by simp
  | c :: r => by
    rw [List.takeWhile_cons]
    split
    · have := tw_le p r
      simp
      omega
    · simp
theorem sym_le : ∀ r : List UInt8, symRun r ≤ r.length
  | [] => Nat.le_refl _
  | c :: r => by
    rw [symRun]
    split
    · have := sym_le r
      simp
      omega
    · simp
theorem quo_nl (b : List UInt8) : ∀ (n : Nat) (r : List UInt8), r.length ≤ n → ∀ p, quoB r = some p → quoB (r ++ 10 :: b) = some p ∧ p.2 ≤ r.length
  | 0, r, hn => fun p h => by
    obtain rfl : r = [] := List.length_eq_zero_iff.1 (by omega)
    simp [quoB] at h
  | n + 1, [], hn => fun p h => by simp [quoB] at h
  | n + 1, [c], hn => fun p h => by
    rw [quoB] at h
    split at h
    · rename_i hc
      cases h
      refine ⟨?_, by simp⟩
      show quoB (c :: 10 :: b) = _
      rw [quoB, if_pos hc]
      rfl
    · cases h
  | n + 1, c :: d :: r, hn => fun p h => by
    have hr : r.length ≤ n := by simp at hn; omega
    have hd : (d :: r).length ≤ n := by simp at hn ⊢; omega
    rw [quoB] at h
    show quoB (c :: d :: (r ++ 10 :: b)) = _ ∧ _
    rw [quoB]
    split at h
    · rename_i hc
      rw [if_pos hc]
      split at h
      · rename_i hd'
        rw [if_pos hd']
        obtain ⟨q, hq, rfl⟩ := Option.map_eq_some_iff.1 h
        obtain ⟨h1, h2⟩ := quo_nl b n r hr q hq
        rw [h1]
        exact ⟨rfl, by simp; omega⟩
      · rename_i hd'
        rw [if_neg hd']
        cases h
        exact ⟨rfl, by simp⟩
    · rename_i hc
      rw [if_neg hc]
      split at h
      · rename_i hc2
        rw [if_pos hc2]
        cases he : escB d with
        | none => rw [he] at h; cases h
        | some e =>
          rw [he] at h
          obtain ⟨q, hq, rfl⟩ := Option.map_eq_some_iff.1 h
          obtain ⟨h1, h2⟩ := quo_nl b n r hr q hq
          simp only [h1]
          exact ⟨rfl, by simp; omega⟩
      · rename_i hc2
        rw [if_neg hc2]
        split at h
        · rename_i hc3
          rw [if_pos hc3]
          obtain ⟨q, hq, rfl⟩ := Option.map_eq_some_iff.1 h
          obtain ⟨h1, h2⟩ := quo_nl b n (d :: r) hd q hq
          rw [List.cons_append] at h1
          rw [h1]
          exact ⟨rfl, by simp at h2 ⊢; omega⟩
        · cases h
end Go.Proofs.YtljgkfdnmikpfaaGreatDoor
/- Reading, as chapter 8 says it, over a list of tokens: pure. Nothing here is walked. -/
namespace Go.Proofs.YtljgkfdnmikpfaaGreatDoor
set_option linter.unusedVariables false

abbrev TokP := TokB × Nat
abbrev NmP := List UInt8 × Nat
/-- What is not read yet; how many variables there are; the names of those that have one. -/
structure RS where
  rest : List TokP
  next : Nat
  names : List NmP
abbrev Out (α : Type) := Option (α × RS)
abbrev TL := Tm × Int
abbrev TFun := Int → RS → Out TL
def ba (l : List UInt8) : ByteArray := ⟨l.toArray⟩
def aT (s : List UInt8) : Tm := .mk 2 0 (ba s) []
section
variable (pre bet : List UInt8 → O × Bool)
variable (T : TFun)
end
/-! Enough is enough. -/
/-! The loops, by themselves. -/
/-! Whole terms. -/
end Go.Proofs.YtljgkfdnmikpfaaGreatDoor
/- Terms in memory. Nothing here speaks of one program. -/
namespace Go.Proofs.YtljgkfdnmikpfaaGreatDoor
open Go.RowKit

abbrev BIG : Nat := 140737488351232
def I64 (n : Int) : Prop := -9223372036854775808 ≤ n ∧ n ≤ 9223372036854775807
mutual
/-- The value reads as this term. -/
def TmV (w : World) : Tm → Value → Prop
  | .mk k n s ts, v => ∃ (a : Option Addr) (c : Nat), v = .agg #[.int .i64 k, .int .i64 n, .string s, .slice a ts.length c] ∧ ts.length ≤ c ∧ c ≤ maxLen ∧ ts.length * 56 ≤ BIG ∧ s.size ≤ BIG ∧ I64 k ∧ I64 n ∧
      (ts = [] ∨ ∃ b off, a = some ⟨b, off, none⟩ ∧ b < w.heap.size ∧ TmRow w ts b off)
/-- These terms lie there, one behind the other. -/
def TmRow (w : World) : List Tm → Nat → Nat → Prop
  | [], _, _ => True
  | x :: r, b, off => (∃ c0 c1 c2 c3, w.cell? ⟨b, off, none⟩ = some c0 ∧ w.cell? ⟨b, off + 1, none⟩ = some c1 ∧ w.cell? ⟨b, off + 2, none⟩ = some c2 ∧ w.cell? ⟨b, off + 3, none⟩ = some c3 ∧ TmV w x (.agg #[c0, c1, c2, c3])) ∧ TmRow w r b (off + 4)
end
/-- The value reads as these terms. -/
def Tms (w : World) (v : Value) (l : List Tm) : Prop :=
  ∃ (a : Option Addr) (c : Nat), v = .slice a l.length c ∧ l.length ≤ c ∧ c ≤ maxLen ∧ l.length * 56 ≤ BIG ∧ (l = [] ∨ ∃ b off, a = some ⟨b, off, none⟩ ∧ b < w.heap.size ∧ TmRow w l b off)
theorem tmV_iff {w : World} {k n : Int} {s : ByteArray} {ts : List Tm} {v : Value} : TmV w (.mk k n s ts) v ↔ ∃ u, v = .agg #[.int .i64 k, .int .i64 n, .string s, u] ∧ s.size ≤ BIG ∧ I64 k ∧ I64 n ∧ Tms w u ts := by
  rw [TmV]
  constructor
  · rintro ⟨a, c, h1, h2, h3, h4, h5, h6, h7, h8⟩
    exact ⟨_, h1, h5, h6, h7, a, c, rfl, h2, h3, h4, h8⟩
  · rintro ⟨u, h1, h5, h6, h7, a, c, rfl, h2, h3, h4, h8⟩
    exact ⟨a, c, h1, h2, h3, h4, h5, h6, h7, h8⟩
theorem TmRow.get {w : World} : ∀ {l : List Tm} {b off : Nat}, TmRow w l b off → ∀ (i : Nat) (x : Tm), l[i]? = some x →
    ∃ c0 c1 c2 c3, w.cell? ⟨b, off + i * 4, none⟩ = some c0 ∧ w.cell? ⟨b, off + i * 4 + 1, none⟩ = some c1 ∧ w.cell? ⟨b, off + i * 4 + 2, none⟩ = some c2 ∧ w.cell? ⟨b, off + i * 4 + 3, none⟩ = some c3 ∧ TmV w x (.agg #[c0, c1, c2, c3])
  | [], b, off, _, i, x, hx => by simp at hx
  | y :: r, b, off, h, 0, x, hx => by
    simp at hx
    subst hx
    rw [TmRow] at h
    rw [Nat.zero_mul, Nat.add_zero]
    exact h.1
  | y :: r, b, off, h, i + 1, x, hx => by
    rw [TmRow] at h
    have := TmRow.get h.2 i x (by simpa using hx)
    rw [show off + (i + 1) * 4 = off + 4 + i * 4 by omega]
    exact this
theorem TmRow.mk {w : World} : ∀ {l : List Tm} {b off : Nat}, (∀ (i : Nat) (x : Tm), l[i]? = some x →
    ∃ c0 c1 c2 c3, w.cell? ⟨b, off + i * 4, none⟩ = some c0 ∧ w.cell? ⟨b, off + i * 4 + 1, none⟩ = some c1 ∧ w.cell? ⟨b, off + i * 4 + 2, none⟩ = some c2 ∧ w.cell? ⟨b, off + i * 4 + 3, none⟩ = some c3 ∧ TmV w x (.agg #[c0, c1, c2, c3])) → TmRow w l b off
  | [], b, off, _ => by rw [TmRow]; trivial
  | y :: r, b, off, h => by
    rw [TmRow]
    refine ⟨?_, TmRow.mk fun i x hx => ?_⟩
    · have := h 0 y rfl
      rw [Nat.zero_mul, Nat.add_zero] at this
      exact this
    · have := h (i + 1) x (by simpa using hx)
      rw [show off + (i + 1) * 4 = off + 4 + i * 4 by omega] at this
      exact this
mutual
theorem TmV.ext {w w' : World} (hb : Below w.heap.size w w') : ∀ (x : Tm) (v : Value), TmV w x v → TmV w' x v
  | .mk k n s ts, v, h => by
    rw [TmV] at h ⊢
    obtain ⟨a, c, h1, h2, h3, h4, h5, h6, h7, h8⟩ := h
    refine ⟨a, c, h1, h2, h3, h4, h5, h6, h7, ?_⟩
    rcases h8 with h8 | ⟨b, off, e1, e2, e3⟩
    · exact Or.inl h8
    · exact Or.inr ⟨b, off, e1, Nat.lt_of_lt_of_le e2 hb.size, TmRow.ext hb ts b off e3⟩
theorem TmRow.ext {w w' : World} (hb : Below w.heap.size w w') : ∀ (l : List Tm) (b off : Nat), TmRow w l b off → TmRow w' l b off
  | [], b, off, _ => by rw [TmRow]; trivial
  | x :: r, b, off, h => by
    rw [TmRow] at h ⊢
    obtain ⟨⟨c0, c1, c2, c3, h0, h1, h2, h3, h4⟩, h5⟩ := h
    exact ⟨⟨c0, c1, c2, c3, cell_later hb h0, cell_later hb h1, cell_later hb h2, cell_later hb h3, TmV.ext hb x _ h4⟩, TmRow.ext hb r b (off + 4) h5⟩
end
theorem Tms.ext {w w' : World} {v : Value} {l : List Tm} (h : Tms w v l) (hb : Below w.heap.size w w') : Tms w' v l := by
  obtain ⟨a, c, h1, h2, h3, h4, h5⟩ := h
  refine ⟨a, c, h1, h2, h3, h4, ?_⟩
  rcases h5 with h5 | ⟨b, off, e1, e2, e3⟩
  · exact Or.inl h5
  · exact Or.inr ⟨b, off, e1, Nat.lt_of_lt_of_le e2 hb.size, TmRow.ext hb l b off e3⟩
theorem Tms.nil (w : World) : Tms w (.slice none 0 0) [] := ⟨none, 0, rfl, Nat.le_refl _, Nat.zero_le _, by simp, Or.inl rfl⟩
/-- The i-th of them. -/
theorem Tms.get {w : World} {a : Option Addr} {m c : Nat} {l : List Tm} (h : Tms w (.slice a m c) l) {i : Nat} {x : Tm} (hx : l[i]? = some x) :
    ∃ b off k n s u, a = some ⟨b, off, none⟩ ∧ b < w.heap.size ∧ x.k = k ∧ x.n = n ∧ x.s = s ∧ w.cell? ⟨b, off + i * 4, none⟩ = some (.int .i64 k) ∧ w.cell? ⟨b, off + i * 4 + 1, none⟩ = some (.int .i64 n) ∧ w.cell? ⟨b, off + i * 4 + 2, none⟩ = some (.string s) ∧ w.cell? ⟨b, off + i * 4 + 3, none⟩ = some u ∧ Tms w u x.args ∧
      TmV w x (.agg #[.int .i64 k, .int .i64 n, .string s, u]) := by
  obtain ⟨a', c', e, h1, h2, h3, h4⟩ := h
  cases e
  rcases h4 with rfl | ⟨b, off, rfl, hb, hr⟩
  · simp at hx
  · obtain ⟨c0, c1, c2, c3, d0, d1, d2, d3, d4⟩ := hr.get i x hx
    cases x with
    | mk k n s ts =>
      obtain ⟨u, hu, g1, g2, g3, g4⟩ := tmV_iff.1 d4
      simp only [Value.agg.injEq] at hu
      have hu' := congrArg Array.toList hu
      simp only [List.cons.injEq, and_true] at hu'
      obtain ⟨rfl, rfl, rfl, rfl⟩ := hu'
      exact ⟨b, off, k, n, s, _, rfl, hb, rfl, rfl, rfl, d0, d1, d2, d3, g4, d4⟩
theorem Tms.len {w : World} {v : Value} {l : List Tm} (h : Tms w v l) : ∃ a c, v = .slice a l.length c ∧ l.length ≤ c ∧ c ≤ maxLen ∧ l.length * 56 ≤ BIG := by
  obtain ⟨a, c, h1, h2, h3, h4, _⟩ := h
  exact ⟨a, c, h1, h2, h3, h4⟩
end Go.Proofs.YtljgkfdnmikpfaaGreatDoor
/- Terms that came in: one, a slice of them. -/
namespace Go.Proofs.YtljgkfdnmikpfaaGreatDoor
open Go.RowKit Go.ChangeShapes Go.WideShapes Go.ChangeAt Go.Deep
set_option maxRecDepth 100000

theorem wf_range {a : Int} (h : (Lit.int .i64 a).wf = true) : I64 a := by
  unfold I64
  simpa [Lit.wf, IntKind.min, IntKind.max, IntKind.signed, IntKind.bits] using h
section
variable {H : Type} {enc : TypeId × Value → H} {W : World}
/-- A slice's reading, where each of its elements' readings is a term. -/
theorem tms_parse {n : Nat} {c : Value} {D : DataW H} {pl : List MemPlace} (hd : DataW.trod enc Tryz.prog W 0 (fun _ => true) true n 25 [c] = some (D, pl)) (hw : ∀ m ∈ D.weights Tryz.prog 25, m ≤ 140737488351232)
    (ih : ∀ (d : DataW H), SizeOf.sizeOf d < SizeOf.sizeOf D → ∀ (n : Nat) (cs : List Value) (pl : List MemPlace), DataW.trod enc Tryz.prog W 0 (fun _ => true) true n 27 cs = some (d, pl) → (∀ m ∈ d.weights Tryz.prog 27, m ≤ 140737488351232) → ∃ x : Tm, TmV W x (.agg cs.toArray) ∧ cs.length = 4) :
    ∃ l : List Tm, Tms W c l := by
  have hc : Tryz.prog.cellsOf 27 = 4 := by kernel_rfl
  have hb : Tryz.prog.bytesOf 27 = 56 := by kernel_rfl
  rcases open_slice Tryz.underlying25 hd with ⟨hcs, _⟩ | ⟨a, n, cc, m, n', D', Pl, hcs, _, hl, hm, hz, hd', hi⟩
  · obtain rfl := (List.cons.inj hcs).1
    exact ⟨[], Tms.nil W⟩
  · obtain rfl := (List.cons.inj hcs).1
    simp at hz
    subst hz
    simp only [Prod.mk.injEq] at hd'
    obtain ⟨rfl, rfl⟩ := hd'
    have hbig := hw ((((List.range n).map D').length + ((List.range (m - n)).map fun j => D' (n + j)).length) * Tryz.prog.bytesOf 27) (by simp [DataW.weights, Tryz.underlying25])
    rw [hb] at hbig
    simp at hbig
    obtain ⟨xs, hxl, hxs⟩ := list_choose (Q := fun i (y : Tm) => ∃ cs', W.cells? 0 (a.add (i * 4)) 4 = some cs' ∧ TmV W y (.agg cs'.toArray) ∧ cs'.length = 4) n (fun i hin => by
      obtain ⟨cs', h1, h2⟩ := hi i (by omega)
      rw [hc] at h1
      have hmem : D' i ∈ (List.range n).map D' := List.mem_map_of_mem (f := D') (List.mem_range.2 hin)
      obtain ⟨y, hy1, hy2⟩ := ih (D' i) (by
        have := List.sizeOf_lt_of_mem hmem
        simp only [DataW.slice.sizeOf_spec]
        omega) n' cs' (Pl i) h2 (fun k hk => hw k (by
        simp only [DataW.weights, Tryz.underlying25, List.mem_cons, List.mem_append]
        exact Or.inr (Or.inl (weights_all_mem hmem k hk))))
      exact ⟨y, cs', h1, hy1, hy2⟩)
    refine ⟨xs, some a, m, by rw [hxl], by omega, hm, by unfold BIG; omega, ?_⟩
    by_cases h0 : n = 0
    · left; exact List.length_eq_zero_iff.1 (by omega)
    right
    obtain ⟨y0, hy0⟩ : ∃ y0, xs[0]? = some y0 := ⟨_, List.getElem?_eq_getElem (by omega)⟩
    obtain ⟨cs0, hq, _, _⟩ := hxs 0 y0 hy0
    obtain ⟨_, hl0, hat0⟩ := World.cells?_some hq
    have hx0 := hat0 0 (by omega)
    have hs0 : a.spot = none := by
      rw [List.getElem?_eq_getElem (by omega)] at hx0
      have e1 := spot_of_cell hx0
      rw [Nat.zero_mul] at e1
      have : a.add 0 = a := by
        rcases a with ⟨xb, xo, xs'⟩; unfold Addr.add; split <;> simp_all
      rw [this] at e1; exact e1
    rcases a with ⟨xb, xo, xs'⟩
    cases (show xs' = none from hs0)
    refine ⟨xb, xo, rfl, ?_, TmRow.mk fun i y hy => ?_⟩
    · rw [List.getElem?_eq_getElem (by omega), add_plain, add_plain] at hx0; exact World.block_lt_of_cell? _ _ hx0
    · obtain ⟨cs', hq', hv, hl4⟩ := hxs i y hy
      obtain ⟨_, hl', hat⟩ := World.cells?_some hq'
      obtain ⟨c0, c1, c2, c3, rfl⟩ : ∃ c0 c1 c2 c3, cs' = [c0, c1, c2, c3] := by
        match cs', hl4 with
        | [a, b, c, d], _ => exact ⟨a, b, c, d, rfl⟩
      have t0 := hat 0 (by omega)
      have t1 := hat 1 (by omega)
      have t2 := hat 2 (by omega)
      have t3 := hat 3 (by omega)
      rw [add_plain, add_plain] at t0 t1 t2 t3
      exact ⟨c0, c1, c2, c3, t0, t1, t2, t3, hv⟩
theorem term_parse : ∀ (N : Nat) (D : DataW H), SizeOf.sizeOf D ≤ N → ∀ (n : Nat) (cs : List Value) (pl : List MemPlace), DataW.trod enc Tryz.prog W 0 (fun _ => true) true n 27 cs = some (D, pl) →
    (∀ m ∈ D.weights Tryz.prog 27, m ≤ 140737488351232) → ∃ x : Tm, TmV W x (.agg cs.toArray) ∧ cs.length = 4
  | 0, D, hN, n, cs, pl, hd, hw => by
    cases D <;> simp at hN
  | N + 1, D, hN, n, cs, pl, hd, hw => by
    obtain ⟨xs, n', rfl, hx, hl, hxl, hf⟩ := DataW.trod_struct Tryz.underlying27 hd
    have e1 : Tryz.prog.cellsOf 27 = 4 := by kernel_rfl
    have e2 : Tryz.prog.cellsOf 3 = 1 := by kernel_rfl
    have e3 : Tryz.prog.cellsOf 2 = 1 := by kernel_rfl
    have e4 : Tryz.prog.cellsOf 9 = 1 := by kernel_rfl
    have e5 : Tryz.prog.cellsOf 25 = 1 := by kernel_rfl
    rw [e1] at hl
    obtain ⟨c0, c1, c2, c3, rfl⟩ : ∃ c0 c1 c2 c3, cs = [c0, c1, c2, c3] := by
      match cs, hl with
      | [a, b, c, d], _ => exact ⟨a, b, c, d, rfl⟩
    obtain ⟨y0, y1, y2, y3, rfl⟩ : ∃ y0 y1 y2 y3, xs = [y0, y1, y2, y3] := by
      match xs, hxl with
      | [a, b, c, d], _ => exact ⟨a, b, c, d, rfl⟩
    have f0 : DataW.trod enc Tryz.prog W 0 (fun _ => true) true n' 3 (([c0, c1, c2, c3].drop 0).take (Tryz.prog.cellsOf 3)) = [y0, y1, y2, y3][0]? := hf 0 _ rfl
    have f1 : DataW.trod enc Tryz.prog W 0 (fun _ => true) true n' 2 (([c0, c1, c2, c3].drop 1).take (Tryz.prog.cellsOf 2)) = [y0, y1, y2, y3][1]? := hf 1 _ rfl
    have f2 : DataW.trod enc Tryz.prog W 0 (fun _ => true) true n' 9 (([c0, c1, c2, c3].drop 2).take (Tryz.prog.cellsOf 9)) = [y0, y1, y2, y3][2]? := hf 2 _ rfl
    have f3 : DataW.trod enc Tryz.prog W 0 (fun _ => true) true n' 25 (([c0, c1, c2, c3].drop 3).take (Tryz.prog.cellsOf 25)) = [y0, y1, y2, y3][3]? := hf 3 _ rfl
    rw [e2] at f0
    rw [e3] at f1
    rw [e4] at f2
    rw [e5] at f3
    simp only [List.drop_zero, List.drop_succ_cons, List.take_succ_cons, List.take_zero, List.getElem?_cons_zero, List.getElem?_cons_succ] at f0 f1 f2 f3
    obtain ⟨k, q0, r0, s0⟩ := DataW.trod_int Tryz.underlying3 f0
    obtain ⟨m, q1, r1, s1⟩ := DataW.trod_int Tryz.underlying2 f1
    obtain ⟨s, q2, r2, s2⟩ := DataW.trod_string Tryz.underlying9 f2
    obtain rfl := (List.cons.inj q0).1
    obtain rfl := (List.cons.inj q1).1
    obtain rfl := (List.cons.inj q2).1
    simp only [Prod.mk.injEq] at hx
    obtain ⟨hx1, _⟩ := hx
    have h0 := hw s.data.toList.length (by
      rw [hx1, r2]
      simp [DataW.weights, Tryz.underlying27, DataW.weightsEach])
    obtain ⟨l, hl⟩ := tms_parse (D := y3.1) (pl := y3.2) f3 (fun j hj => hw j (by
      rw [hx1]
      simp [DataW.weights, Tryz.underlying27, DataW.weightsEach, hj])) (fun d hds => term_parse N d (by
      have : SizeOf.sizeOf y3.1 < SizeOf.sizeOf D := by
        rw [hx1]
        simp only [List.map_cons, List.map_nil, DataW.agg.sizeOf_spec, List.cons.sizeOf_spec]
        omega
      omega))
    exact ⟨.mk k m s l, tmV_iff.2 ⟨c3, rfl, h0, wf_range s0, wf_range s1, hl⟩, rfl⟩
end
def IsTm (w : World) (v : Value) (x : Tm) : Prop := TmV w x v
theorem term_of_trod {H : Type} {enc : TypeId × Value → H} {W : World} {v : Value} {d : DataW H} {ps : List MemPlace} (h : DataW.Trod enc Tryz.prog W 0 (fun _ => true) true 27 v d ps)
    (hv : Value.okWide Tryz.prog W .any 0 27 v) (hw : ∀ n ∈ d.weights Tryz.prog 27, n ≤ 140737488351232) : ∃ x, IsTm W v x := by
  obtain ⟨cs, rfl, _⟩ := okWide_struct Tryz.underlying27 hv
  obtain ⟨fuel, hf⟩ := h
  obtain ⟨x, hx, _⟩ := term_parse _ d (Nat.le_refl _) _ _ _ hf hw
  refine ⟨x, ?_⟩
  have : (Value.agg cs).cells.toList.toArray = cs := by simp [Value.cells]
  rw [this] at hx
  exact hx
end Go.Proofs.YtljgkfdnmikpfaaGreatDoor
/- Terms: small facts; a term as a parameter. -/
namespace Go.Proofs.YtljgkfdnmikpfaaGreatDoor
open Go.RowKit
set_option linter.unusedVariables false

abbrev box4 (k n : Int) (s : ByteArray) (u : Value) (ty : TypeId) : Obj := .cells #[.int .i64 k, .int .i64 n, .string s, u] ty
theorem mem_size {k n : Int} {s : ByteArray} {ts : List Tm} {y : Tm} {N : Nat} (h : sizeN (.mk k n s ts) ≤ N + 1) (hy : y ∈ ts) : sizeN y ≤ N := by
  have := sizes_mem hy
  rw [sizeN] at h
  omega
/-- A term that came in is laid anew as a parameter. -/
theorem box_cells (w : World) (ty : TypeId) (c0 c1 c2 c3 : Value) {wr : World} (hb : Below (w.alloc (.cells #[c0, c1, c2, c3] ty)).heap.size (w.alloc (.cells #[c0, c1, c2, c3] ty)) wr) :
    wr.cell? ⟨w.heap.size, 0, none⟩ = some c0 ∧ wr.cell? ⟨w.heap.size, 1, none⟩ = some c1 ∧ wr.cell? ⟨w.heap.size, 2, none⟩ = some c2 ∧ wr.cell? ⟨w.heap.size, 3, none⟩ = some c3 :=
  ⟨cell_later hb (by simp), cell_later hb (by simp), cell_later hb (by simp), cell_later hb (by simp)⟩
end Go.Proofs.YtljgkfdnmikpfaaGreatDoor
/- A row of the call's own, of elements of S cells each, reads as its elements; what is appended to it. Nothing here speaks of one program. -/
namespace Go.Proofs.YtljgkfdnmikpfaaGreatDoor
open Go.RowKit

section
variable {α : Type} {S : Nat} {cells : α → List Value}
theorem flat_len (hc : ∀ x, (cells x).length = S) (L : List α) : (L.flatMap cells).length = L.length * S := by
  induction L with
  | nil => simp
  | cons a r ih => rw [List.flatMap_cons, List.length_append, ih, hc, List.length_cons, Nat.add_mul, Nat.one_mul, Nat.add_comm]
theorem flat_get (hc : ∀ x, (cells x).length = S) : ∀ (L : List α) (i : Nat) (x : α), L[i]? = some x → ∀ j, j < S → (L.flatMap cells)[i * S + j]? = (cells x)[j]?
  | [], i, x, h, _, _ => by simp at h
  | a :: r, 0, x, h, j, hj => by
    simp at h
    subst h
    rw [List.flatMap_cons, Nat.zero_mul, Nat.zero_add, List.getElem?_append_left (by rw [hc]; exact hj)]
  | a :: r, i + 1, x, h, j, hj => by
    have e : (i + 1) * S + j = S + (i * S + j) := by rw [Nat.add_mul, Nat.one_mul]; omega
    rw [List.flatMap_cons, List.getElem?_append_right (by rw [hc, e]; omega), hc, e, Nat.add_sub_cancel_left]
    exact flat_get hc r i x (by simpa using h) j hj
/-- What the call owns reads as these. -/
theorem Elems.owned (hc : ∀ x, (cells x).length = S) {w : World} {B : Nat} {e : TypeId} {v : Value} {L : List α} (h : w.ownsRow B e S v L.length (L.flatMap cells)) : Elems S cells w v L := by
  rcases h.2 with ⟨rfl, h0⟩ | ⟨g, cap, cur, rfl, _, hg, h1, h2, h3, h4⟩
  · obtain rfl := List.length_eq_zero_iff.1 h0
    exact ⟨none, 0, rfl, Nat.le_refl _, Nat.zero_le _, Or.inl rfl⟩
  · refine ⟨_, cap, rfl, h1, h2, Or.inr ⟨g, 0, rfl, (Array.getElem?_eq_some_iff.1 hg).1, fun i x hx j u hu => ?_⟩⟩
    have hj : j < S := by have := (List.getElem?_eq_some_iff.1 hu).1; rwa [hc] at this
    have hi := (List.getElem?_eq_some_iff.1 hx).1
    have h5 := flat_get hc L i x hx j hj
    have hle : i * S + S ≤ L.length * S := by
      have : (i + 1) * S ≤ L.length * S := Nat.mul_le_mul_right _ hi
      rwa [Nat.add_mul, Nat.one_mul] at this
    rw [← h4, List.getElem?_take, if_pos (by omega), hu] at h5
    rw [Nat.zero_add, World.cell?, hg]
    simpa using h5
end
theorem cell_new (w : World) (cs : Array Value) (ty : TypeId) (j : Nat) (u : Value) (h : cs.toList[j]? = some u) : (w.alloc (.cells cs ty)).cell? ((⟨w.heap.size, 0, none⟩ : Addr).add j) = some u := by
  have h1 : (w.alloc (.cells cs ty)).heap[w.heap.size]? = some (.cells cs ty) := by
    show (w.heap.push _)[w.heap.size]? = _
    simp
  rw [add_plain, Nat.zero_add, World.cell?, h1]
  simpa using h
end Go.Proofs.YtljgkfdnmikpfaaGreatDoor
/- A row of terms of the call's own; a term's fields. Nothing here speaks of one program. -/
namespace Go.Proofs.YtljgkfdnmikpfaaGreatDoor
open Go.RowKit
set_option linter.unusedVariables false

theorem TmV.full {w : World} {x : Tm} {v : Value} (h : TmV w x v) : ∃ k n s a m c, v = .agg #[.int .i64 k, .int .i64 n, .string s, .slice a m c] := by
  cases x with
  | mk k n s ts =>
    obtain ⟨u, rfl, _, _, _, hu⟩ := tmV_iff.1 h
    obtain ⟨a, c, rfl, _⟩ := hu.len
    exact ⟨_, _, _, _, _, _, rfl⟩
/-- A term beside the value of its Args. -/
abbrev TmP := Tm × Value
def pCells (p : TmP) : List Value := [.int .i64 p.1.k, .int .i64 p.1.n, .string p.1.s, p.2]
def pVal (p : TmP) : Value := .agg #[.int .i64 p.1.k, .int .i64 p.1.n, .string p.1.s, p.2]
theorem pCells_len (p : TmP) : (pCells p).length = 4 := rfl
theorem TmV.pair {w : World} {x : Tm} {v : Value} (h : TmV w x v) : ∃ u, v = pVal (x, u) := by
  cases x with
  | mk k n s ts =>
    obtain ⟨u, rfl, _⟩ := tmV_iff.1 h
    exact ⟨u, rfl⟩
theorem pCells_one (L : List TmP) {w : World} (h : ∀ p ∈ L, TmV w p.1 (pVal p)) : ∀ u ∈ L.flatMap pCells, u.oneCell' = true := by
  intro u hu
  obtain ⟨p, hp, hx⟩ := List.mem_flatMap.1 hu
  have hv := h p hp
  obtain ⟨x, q⟩ := p
  cases x with
  | mk k n s ts =>
    obtain ⟨u', hu', _, _, _, hq⟩ := tmV_iff.1 hv
    have : u' = q := by
      simp only [pVal, Value.agg.injEq] at hu'
      have h2 := congrArg Array.toList hu'
      simp only [List.cons.injEq, and_true] at h2
      exact h2.2.2.2.symm
    subst this
    obtain ⟨a, c, rfl, _⟩ := hq.len
    simp [pCells] at hx
    rcases hx with rfl | rfl | rfl | rfl <;> rfl
def RowP (w : World) (base : Nat) (ty : TypeId) (v : Value) (ps : List TmP) : Prop := w.ownsRow base ty 4 v ps.length (ps.flatMap pCells)
/-- What the call owns reads as these terms. -/
theorem RowP.terms {w : World} {base : Nat} {ty : TypeId} {v : Value} {ps : List TmP} (h : RowP w base ty v ps) (hp : ∀ p ∈ ps, TmV w p.1 (pVal p)) (hl : ps.length * 56 ≤ BIG) : Tms w v (ps.map (·.1)) := by
  obtain ⟨a, c, rfl, h1, h2, h3⟩ := Elems.owned pCells_len h
  refine ⟨a, c, by rw [List.length_map], by rw [List.length_map]; exact h1, h2, by rw [List.length_map]; exact hl, ?_⟩
  rcases h3 with rfl | ⟨b, off, rfl, hb, hc⟩
  · left; rfl
  · refine Or.inr ⟨b, off, rfl, hb, TmRow.mk fun i x hx => ?_⟩
    rw [List.getElem?_map] at hx
    obtain ⟨p, hpi, rfl⟩ := Option.map_eq_some_iff.1 hx
    have hv := hp p (List.mem_of_getElem? hpi)
    exact ⟨_, _, _, _, hc i p hpi 0 _ rfl, by rw [Nat.add_assoc]; exact hc i p hpi 1 _ rfl, by rw [Nat.add_assoc]; exact hc i p hpi 2 _ rfl, by rw [Nat.add_assoc]; exact hc i p hpi 3 _ rfl, hv⟩
/-- The parts of a pair under the list's name. -/
theorem pair_kind {t a b : Tm} (h : pairT t = some (a, b)) : t.k = 2 ∧ t.s = dotS ∧ t.args = [a, b] := by
  obtain ⟨_, h1, h2, h3⟩ := pair_size h
  exact ⟨h2, h3, h1⟩
end Go.Proofs.YtljgkfdnmikpfaaGreatDoor
