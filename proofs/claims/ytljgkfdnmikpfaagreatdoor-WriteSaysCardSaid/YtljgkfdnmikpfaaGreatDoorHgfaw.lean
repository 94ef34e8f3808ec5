import Derived.Test.YtljgkfdnmikpfaaGreatDoorHgfav
import Derived.Test.YtljgkfdnmikpfaaGreatDoorHgfau
set_option linter.unusedVariables false
set_option linter.unusedSimpArgs false
/- The document's own writer: an operator ahead; none. -/
namespace Go.Proofs.YtljgkfdnmikpfaaGreatDoor
open Go.Shelf Go.RowKit
set_option linter.unusedVariables false
set_option maxRecDepth 100000

set_option maxHeartbeats 2000000 in
theorem rop_three {xs : List O} {vs : List Int} {wb : Nat} {vo vv : Value} {w : World} (h : WdAt w wb vo vv xs vs) {k n : Int} {s : ByteArray} {a b c : Tm} {r : List Tm} {v : Value} (hv : TmV w (.mk k n s (a :: b :: c :: r)) v) :
    Calls Tryz.prog 103 #[.pointer (some ⟨wb, 0, none⟩), v] w fun e w' => e = .returned (.tuple #[.string ⟨#[]⟩, .int .i64 0]) ∧ Below w.heap.size w w' := by
  obtain ⟨u, rfl, hsz, _, _, hu⟩ := tmV_iff.1 hv
  obtain ⟨aa, cc, rfl, hl1, hl2, _⟩ := hu.len
  obtain ⟨m, hm⟩ : ∃ m, (a :: b :: c :: r).length = m := ⟨_, rfl⟩
  have hm3 : 3 ≤ m := by rw [← hm]; simp
  rw [hm]
  obtain ⟨w1, hw1, hb1, hz1, hx1⟩ := box_new w #[.int .i64 k, .int .i64 n, .string s, .slice aa m cc] 66
  have HB1 := Lib.hid hb1
  obtain ⟨b0, b1, b2, b3, bf⟩ := hx1.four
  have hm1 : ((m : Int) == 1) = false := beq_false_of_ne (by omega)
  have hm2 : ((m : Int) == 2) = false := beq_false_of_ne (by omega)
  clear h hv hu hb1 hx1 hz1 hm hl1
  go_enter Tryz.func103, Tryz.ntmps103
  go_wp2_with fail
  (try rw [hw1])
  clear hw1
  go_wp2
  go_ret2
  exact ⟨rfl, HB1.out⟩
set_option maxHeartbeats 8000000 in
theorem rop_one {xs : List O} {vs : List Int} {wb : Nat} {vo vv : Value} {N : Nat} (ih : IHd xs vs wb vo vv N) (hg : goodB xs = true) {w : World} (h : WdAt w wb vo vv xs vs) {k n : Int} {s : ByteArray} {a : Tm} {v : Value} (hv : TmV w (.mk k n s [a]) v) (hx : goodT (.mk k n s [a]) = true) (hN : sizeN (.mk k n s [a]) ≤ N) (hin : inV vs (.mk k n s [a])) :
    Calls Tryz.prog 103 #[.pointer (some ⟨wb, 0, none⟩), v] w fun e w' => e = .returned (.tuple #[.string (if (opW (preO xs) (betO xs) (.mk k n s [a])).2 = true then baS (aheadW (preO xs) (betO xs) (BARE vs (preO xs) (betO xs)) (opW (preO xs) (betO xs) (.mk k n s [a])).1 a) else ⟨#[]⟩), .int .i64 (opW (preO xs) (betO xs) (.mk k n s [a])).1.l]) ∧ Below w.heap.size w w' := by
  obtain ⟨O1, hO⟩ : ∃ O1, opW (preO xs) (betO xs) (.mk k n s [a]) = O1 := ⟨_, rfl⟩
  rw [hO]
  rw [opW_one] at hO
  obtain ⟨Z, hZ⟩ : ∃ Z, (if O1.2 = true then baS (aheadW (preO xs) (betO xs) (BARE vs (preO xs) (betO xs)) O1.1 a) else ⟨#[]⟩) = Z := ⟨_, rfl⟩
  obtain ⟨R, hR⟩ : ∃ R, O1.1.l = R := ⟨_, rfl⟩
  rw [hZ, hR]
  have HO := Lib.hid hO
  have HZ := Lib.hid hZ
  have HR := Lib.hid hR
  clear hZ hR hO
  have hga : goodT a = true := good_arg hx (by show a ∈ [a]; simp)
  have hsa : sizeN a < N := Nat.lt_of_lt_of_le (arg_size (x := .mk k n s [a]) (by show a ∈ [a]; simp)) hN
  have HGD := Lib.hid (And.intro hga hsa)
  have HIN := Lib.hid (show inV vs a from inV_arg hin (by show a ∈ [a]; simp))
  clear hin
  have HIH := Lib.hid ih
  have HG := Lib.hid hg
  obtain ⟨u, rfl, hsz, _, _, hu⟩ := tmV_iff.1 hv
  obtain ⟨aa, c, rfl, hl1, hl2, _⟩ := hu.len
  obtain ⟨ao, co, hvo, ho1, ho2⟩ := h.p.form
  obtain ⟨w1, hw1, hb1, hz1, hx1⟩ := box_new w #[.int .i64 k, .int .i64 n, .string s, .slice aa 1 c] 66
  have HW1 := Lib.hid (h.ext hb1)
  have HB1 := Lib.hid hb1
  have HU := Lib.hid (hu.ext hb1)
  obtain ⟨b, off, ka, na, sa, ua, rfl, hab, rfl, rfl, rfl, d0, d1, d2, d3, hua, hta⟩ := HU.out.get (i := 0) (x := a) rfl
  obtain ⟨aua, cua, rfl, _⟩ := hua.len
  simp only [Nat.zero_mul, Nat.add_zero] at d0 d1 d2 d3
  have HTA := Lib.hid hta
  obtain ⟨b0, b1, b2, b3, bf⟩ := hx1.four
  obtain ⟨mo, hmo⟩ : ∃ m, xs.length = m := ⟨_, rfl⟩
  have HMO := Lib.hid hmo
  rw [hmo] at hvo
  subst hvo
  unfold maxLen at ho2
  have o0 := HW1.out.o
  have hss : s.size ≤ 140737488351232 := hsz
  have P := fun wq => rplain_any s wq hss
  clear h hv hu hb1 hx1 hz1 hmo hg hl1 hx ih hga hsa hsz hua hta hN HU b0 b1 bf
  cases hp : plainB (bl s)
  · rw [hp] at P
    have hO := HO.out
    rw [hp, Bool.false_and, Bool.and_false, if_neg (by decide)] at hO
    subst hO
    obtain rfl : R = 0 := HR.out.symm
    obtain rfl : Z = ⟨#[]⟩ := HZ.out.symm
    go_enter Tryz.func103, Tryz.ntmps103
    go_wp2_with fail
    (try rw [hw1])
    clear hw1
    (go_wp2_with fail; go_fit (P _); rintro e w2 ⟨rfl, hb2⟩)
    have HB2 := Lib.hid (Ext.trans' HB1.out hb2)
    clear hb2
    go_wp2
    go_ret2
    exact ⟨rfl, HB2.out⟩
  rw [hp] at P
  by_cases hno : (bl s == [45] && a.k == 1) = true
  · have hO := HO.out
    rw [hno, hp, show (true && !true) = false from rfl, Bool.and_false, if_neg (by decide)] at hO
    subst hO
    obtain rfl : R = 0 := HR.out.symm
    obtain rfl : Z = ⟨#[]⟩ := HZ.out.symm
    rw [Bool.and_eq_true] at hno
    have h45 : (s.toList == [45]) = true := (name_test s _).trans hno.1
    have hk1 : a.k = 1 := eq_of_beq hno.2
    rw [hk1] at d0
    clear hno
    go_enter Tryz.func103, Tryz.ntmps103
    go_wp2_with fail
    (try rw [hw1])
    clear hw1
    (go_wp2_with fail; go_fit (P _); rintro e w2 ⟨rfl, hb2⟩)
    have HB2 := Lib.hid (Ext.trans' HB1.out hb2)
    have b2 := cell_later hb2 b2
    have b3 := cell_later hb2 b3
    have d0 := cell_later hb2 d0
    clear hb2
    go_wp2
    go_ret2
    exact ⟨rfl, HB2.out⟩
  have hno' : (bl s == [45] && a.k == 1) = false := by simpa using hno
  have hO := HO.out
  rw [hno', hp, show (true && !false) = true from rfl, Bool.and_true] at hO
  have hOO : O1 = preO xs (bl s) := by
    rw [← hO]
    cases hpb : (preO xs (bl s)).2 with
    | true => rfl
    | false => rw [(tab_of xs).pre0 _ hpb]; rfl
  have HOO := Lib.hid hOO
  have htest : (s.toList == [45]) = false ∨ ((s.toList == [45]) = true ∧ (a.k == 1) = false) := by
    rw [name_test]
    cases h45 : (bl s == [45])
    · exact Or.inl rfl
    · rw [h45, Bool.true_and] at hno'
      exact Or.inr ⟨rfl, hno'⟩
  clear hno hno' hO hOO HO hp
  have HPL := Lib.hid P
  clear P
  rcases htest with h45 | ⟨h45, hk1⟩
  all_goals
    go_enter Tryz.func103, Tryz.ntmps103
    go_wp2_with fail
    (try rw [hw1])
    (try clear hw1)
    (go_wp2_with fail; go_fit (HPL.out _); rintro e w2 ⟨rfl, hb2⟩)
    have HB2 := Lib.hid (Ext.trans' HB1.out hb2)
    have HW2 := Lib.hid (HW1.out.ext hb2)
    have HTA2 := Lib.hid (TmV.ext hb2 _ _ HTA.out)
    have b2 := cell_later hb2 b2
    have b3 := cell_later hb2 b3
    have d0 := cell_later hb2 d0
    have d1 := cell_later hb2 d1
    have d2 := cell_later hb2 d2
    have d3 := cell_later hb2 d3
    have o0 := cell_later hb2 o0
    clear hb2 HW1 HTA HB1
    go_upto_region 14 with fail
    refine wp_region_held_drew (S := fun w' => (w'.cell? ⟨wb, 0, none⟩ = some (.slice ao mo co) ∧ w'.cell? ⟨w.heap.size, 2, none⟩ = some (.string s)) ∧ Below w2.heap.size w2 w') (by kernel_rfl) ⟨⟨o0, b2⟩, (Below.refl _ _).drew⟩ (fun hHeld => ?_)
    first | (refine held_t (i := 0) hHeld ?_; apply Exists.intro; refine ⟨fun wq hq => ?_, ?_⟩; (focus ((try dsimp only at hq); go_simp; (first | done | with_reducible rfl | fail)))) | refine held_s (i := 0) hHeld ?_ | fail
    first | (refine held_t (i := 1) hHeld ?_; apply Exists.intro; refine ⟨fun wq hq => ?_, ?_⟩; (focus ((try dsimp only at hq); go_simp; (first | done | with_reducible rfl | fail)))) | refine held_s (i := 1) hHeld ?_ | fail
    try simp only [Act.put, List.setIfInBounds_toArray, List.set_cons_zero, List.set_cons_succ]
    first | (refine held_t (i := 2) hHeld ?_; apply Exists.intro; refine ⟨fun wq hq => ?_, ?_⟩; (focus ((try dsimp only at hq); go_simp; (first | done | with_reducible rfl | fail)))) | refine held_s (i := 2) hHeld ?_ | fail
    first | (refine held_t (i := 3) hHeld ?_; apply Exists.intro; refine ⟨fun wq hq => ?_, ?_⟩; (focus ((try dsimp only at hq); go_simp; (first | done | with_reducible rfl | fail)))) | refine held_s (i := 3) hHeld ?_ | fail
    try simp only [Act.put, List.setIfInBounds_toArray, List.set_cons_zero, List.set_cons_succ]
    first | (refine held_t (i := 4) hHeld ?_; apply Exists.intro; refine ⟨fun wq hq => ?_, ?_⟩; (focus ((try dsimp only at hq); go_simp; (first | done | with_reducible rfl | fail)))) | refine held_s (i := 4) hHeld ?_ | fail
    first | (refine held_t (i := 5) hHeld ?_; apply Exists.intro; refine ⟨fun wq hq => ?_, ?_⟩; (focus ((try dsimp only at hq); go_simp; (first | done | with_reducible rfl | fail)))) | refine held_s (i := 5) hHeld ?_ | fail
    try simp only [Act.put, List.setIfInBounds_toArray, List.set_cons_zero, List.set_cons_succ]
    refine held_c 6 fun K hK => ?_
    go_simp
    (go_at_call 144; refine (find_walk (HW2.out.p.ext hHeld.2) s false).mono ?_; rintro e wA ⟨rfl, rfl⟩)
    refine hK.out _ _ (hHeld) (fun hHeld => ?_)
    clear hK K
    try simp only [Act.put, List.setIfInBounds_toArray, List.set_cons_zero, List.set_cons_succ]
    first | (refine held_t (i := 7) hHeld ?_; apply Exists.intro; refine ⟨fun wq hq => ?_, ?_⟩; (focus ((try dsimp only at hq); go_simp; (first | done | with_reducible rfl | fail)))) | refine held_s (i := 7) hHeld ?_ | fail
    try simp only [Act.put, List.setIfInBounds_toArray, List.set_cons_zero, List.set_cons_succ]
    refine wpAnyH_done (by kernel_rfl) ?_ _
    obtain ⟨⟨o0, b2⟩, hBd⟩ := hHeld
    have b3 := cell_later hBd b3
    have d0 := cell_later hBd d0
    have d1 := cell_later hBd d1
    have d2 := cell_later hBd d2
    have d3 := cell_later hBd d3
    have HWZ := Lib.hid (HW2.out.ext hBd)
    have HTAZ := Lib.hid (TmV.ext hBd _ _ HTA2.out)
    have HBZ := Lib.hid (Ext.trans' HB2.out hBd)
    generalize w2.drew = wz at *
    clear hBd HTA2 HW2 HB2
    rcases find_pre HG.out (bl s) with ⟨i1, o, hf, hx, hb⟩ | ⟨hf, hb⟩
    case inr =>
      rw [hf]
      obtain rfl : O1 = zO := HOO.out.trans hb
      obtain rfl : R = 0 := HR.out.symm
      obtain rfl : Z = ⟨#[]⟩ := HZ.out.symm
      clear hf hb
      go_wp2
      go_ret2
      exact ⟨rfl, HBZ.out⟩
    have hi1 : i1 < mo := by rw [← HMO.out]; exact (List.getElem?_eq_some_iff.1 hx).1
    obtain ⟨b', off', rfl, hbs, e0, e1, e2⟩ := HWZ.out.p.cells hx
    have hob := (tab_of xs).pre1 (bl s) (by rw [hb])
    rw [hb] at hob
    obtain ⟨on, ok, ol⟩ := o
    simp only at e0 e1 e2 hob
    obtain rfl : O1 = (⟨on, ok, ol⟩, true) := HOO.out.trans hb
    obtain rfl : R = ol := HR.out.symm
    have hZ : Z = baS (aheadW (preO xs) (betO xs) (BARE vs (preO xs) (betO xs)) ⟨on, ok, R⟩ a) := by rw [← HZ.out]; rfl
    have hsd := sides_one hob.2.1 hob.2.2.1 hob.2.2.2
    obtain ⟨sl, sr, hsp⟩ : ∃ sl sr, sidesB (bl ok) R = (sl, sr) := ⟨_, _, rfl⟩
    unfold aheadW at hZ
    rw [hsp] at hsd
    simp only [hsp, hob.1] at hZ
    have hsr : 0 ≤ sr ∧ sr ≤ 1200 := ⟨hsd.2.2, by have := hsd.2.1; simp only at this; omega⟩
    have hSR : ∀ wq, Calls Tryz.prog 117 #[.agg #[.string on, .string ok, .int .i64 R]] wq fun e w' => e = .returned (.tuple #[.int .i64 sl, .int .i64 sr]) ∧ Below wq.heap.size wq w' := fun wq => by have := rsides_walk on ok R wq; rw [hsp] at this; exact this
    obtain ⟨A, hA⟩ : ∃ A, baS (ATW xs vs true sr a) = A := ⟨_, rfl⟩
    have hAs : A.size ≤ 600000 := by rw [← hA, size_bl, bl_baS]; exact atw_len HGD.out.1
    have hqs : (quoteB (bl s)).length ≤ 130 := head_len [] (.mk 2 0 s [])
    obtain ⟨Q, hQ⟩ : ∃ Q : ByteArray, (⟨(quoteB (bl s)).toArray⟩ : ByteArray) = Q := ⟨_, rfl⟩
    have hQs : Q.size ≤ 130 := by rw [← hQ]; simpa [ByteArray.size] using hqs
    have HQ := Lib.hid (fun wq => rquote_any s wq hss)
    rw [hQ] at HQ
    rw [← atw_true (vs := vs), show ATW xs vs true sr a = bl A by rw [← hA, bl_baS], show quoteB (bl s) = bl Q by rw [← hQ]] at hZ
    obtain rfl : Z = Q ++ ⟨#[32]⟩ ++ A := bl_eq (by
      rw [hZ, bl_baS]
      repeat rw [bl_cat]
      simp
      rfl)
    have hsp1 : (Q ++ (⟨#[32]⟩ : ByteArray)).size = Q.size + 1 := by rw [ByteArray.size_append]; rfl
    have hst1 : ¬ 9223372036854775807 < Q.size + 1 := by omega
    have hst2 : ¬ 9223372036854775807 < (Q ++ (⟨#[32]⟩ : ByteArray)).size + A.size := by rw [hsp1]; omega
    have hst3 : ¬ 9223372036854775807 < Q.size + 1 + A.size := by omega
    have hgel : (0 : Int) ≤ (i1 : Int) := by omega
    have hltl : (i1 : Int) < (mo : Int) := by omega
    have HS := Lib.hid hsr
    have HAA := Lib.hid hA
    rw [hf]
    clear hZ hsd hob hf hb hx HZ HR hsp hqs hQ hsp1 hsr HOO hA
    (go_wp2_with fail; go_fit (hSR wz); rintro e w5 ⟨rfl, hb5⟩)
    have HB5 := Lib.hid (Ext.trans' HBZ.out hb5)
    have HCA := Lib.hid (fun (wq : World) (hq : Below w5.heap.size w5 wq) => HIH.out a HGD.out.2 HGD.out.1 HIN.out sr true HS.out.1 HS.out.2 wq _ (TmV.ext (Ext.trans' hb5 hq) _ _ HTAZ.out) (HWZ.out.ext (Ext.trans' hb5 hq)))
    rw [HAA.out] at HCA
    have b2 := cell_later hb5 b2
    have b3 := cell_later hb5 b3
    have d0 := cell_later hb5 d0
    have d1 := cell_later hb5 d1
    have d2 := cell_later hb5 d2
    have d3 := cell_later hb5 d3
    have o0 := cell_later hb5 o0
    have e2 := cell_later hb5 e2
    clear hb5 hSR HBZ HAA
    go_upto_region 18 with fail
    refine wp_region_held_drew (S := fun w' => (w'.cell? ⟨w.heap.size, 2, none⟩ = some (.string s) ∧ w'.cell? ⟨w.heap.size, 3, none⟩ = some (.slice (some ⟨b, off, none⟩) 1 c) ∧ w'.cell? ⟨b, off, none⟩ = some (.int .i64 a.k) ∧ w'.cell? ⟨b, off + 1, none⟩ = some (.int .i64 a.n) ∧ w'.cell? ⟨b, off + 2, none⟩ = some (.string a.s) ∧ w'.cell? ⟨b, off + 3, none⟩ = some (.slice aua a.args.length cua) ∧ w'.cell? ⟨wb, 0, none⟩ = some (.slice (some ⟨b', off', none⟩) mo co) ∧ w'.cell? ⟨b', off' + i1 * 3 + 2, none⟩ = some (.int .i64 R)) ∧ Below w5.heap.size w5 w') (by kernel_rfl) ⟨⟨b2, b3, d0, d1, d2, d3, o0, e2⟩, (Below.refl _ _).drew⟩ (fun hHeld => ?_)
    first | (refine held_t (i := 0) hHeld ?_; apply Exists.intro; refine ⟨fun wq hq => ?_, ?_⟩; (focus ((try dsimp only at hq); go_simp; (first | done | with_reducible rfl | fail)))) | refine held_s (i := 0) hHeld ?_ | fail
    first | (refine held_t (i := 1) hHeld ?_; apply Exists.intro; refine ⟨fun wq hq => ?_, ?_⟩; (focus ((try dsimp only at hq); go_simp; (first | done | with_reducible rfl | fail)))) | refine held_s (i := 1) hHeld ?_ | fail
    try simp only [Act.put, List.setIfInBounds_toArray, List.set_cons_zero, List.set_cons_succ]
    first | (refine held_t (i := 4) hHeld ?_; apply Exists.intro; refine ⟨fun wq hq => ?_, ?_⟩; (focus ((try dsimp only at hq); go_simp; (first | done | with_reducible rfl | fail)))) | refine held_s (i := 4) hHeld ?_ | fail
    first | (refine held_t (i := 5) hHeld ?_; apply Exists.intro; refine ⟨fun wq hq => ?_, ?_⟩; (focus ((try dsimp only at hq); go_simp; (first | done | with_reducible rfl | fail)))) | refine held_s (i := 5) hHeld ?_ | fail
    try simp only [Act.put, List.setIfInBounds_toArray, List.set_cons_zero, List.set_cons_succ]
    first | (refine held_t (i := 6) hHeld ?_; apply Exists.intro; refine ⟨fun wq hq => ?_, ?_⟩; (focus ((try dsimp only at hq); go_simp; (first | done | with_reducible rfl | fail)))) | refine held_s (i := 6) hHeld ?_ | fail
    first | (refine held_t (i := 7) hHeld ?_; apply Exists.intro; refine ⟨fun wq hq => ?_, ?_⟩; (focus ((try dsimp only at hq); go_simp; (first | done | with_reducible rfl | fail)))) | refine held_s (i := 7) hHeld ?_ | fail
    try simp only [Act.put, List.setIfInBounds_toArray, List.set_cons_zero, List.set_cons_succ]
    first | (refine held_t (i := 8) hHeld ?_; apply Exists.intro; refine ⟨fun wq hq => ?_, ?_⟩; (focus ((try dsimp only at hq); go_simp; (first | done | with_reducible rfl | fail)))) | refine held_s (i := 8) hHeld ?_ | fail
    first | (refine held_t (i := 9) hHeld ?_; apply Exists.intro; refine ⟨fun wq hq => ?_, ?_⟩; (focus ((try dsimp only at hq); go_simp; (first | done | with_reducible rfl | fail)))) | refine held_s (i := 9) hHeld ?_ | fail
    try simp only [Act.put, List.setIfInBounds_toArray, List.set_cons_zero, List.set_cons_succ]
    first | (refine held_t (i := 12) hHeld ?_; apply Exists.intro; refine ⟨fun wq hq => ?_, ?_⟩; (focus ((try dsimp only at hq); go_simp; (first | done | with_reducible rfl | fail)))) | refine held_s (i := 12) hHeld ?_ | fail
    first | (refine held_t (i := 13) hHeld ?_; apply Exists.intro; refine ⟨fun wq hq => ?_, ?_⟩; (focus ((try dsimp only at hq); go_simp; (first | done | with_reducible rfl | fail)))) | refine held_s (i := 13) hHeld ?_ | fail
    try simp only [Act.put, List.setIfInBounds_toArray, List.set_cons_zero, List.set_cons_succ]
    first | (refine held_t (i := 14) hHeld ?_; apply Exists.intro; refine ⟨fun wq hq => ?_, ?_⟩; (focus ((try dsimp only at hq); go_simp; (first | done | with_reducible rfl | fail)))) | refine held_s (i := 14) hHeld ?_ | fail
    first | (refine held_t (i := 15) hHeld ?_; apply Exists.intro; refine ⟨fun wq hq => ?_, ?_⟩; (focus ((try dsimp only at hq); go_simp; (first | done | with_reducible rfl | fail)))) | refine held_s (i := 15) hHeld ?_ | fail
    try simp only [Act.put, List.setIfInBounds_toArray, List.set_cons_zero, List.set_cons_succ]
    first | (refine held_t (i := 16) hHeld ?_; apply Exists.intro; refine ⟨fun wq hq => ?_, ?_⟩; (focus ((try dsimp only at hq); go_simp; (first | done | with_reducible rfl | fail)))) | refine held_s (i := 16) hHeld ?_ | fail
    first | (refine held_t (i := 17) hHeld ?_; apply Exists.intro; refine ⟨fun wq hq => ?_, ?_⟩; (focus ((try dsimp only at hq); go_simp; (first | done | with_reducible rfl | fail)))) | refine held_s (i := 17) hHeld ?_ | fail
    try simp only [Act.put, List.setIfInBounds_toArray, List.set_cons_zero, List.set_cons_succ]
    first | (refine held_t (i := 18) hHeld ?_; apply Exists.intro; refine ⟨fun wq hq => ?_, ?_⟩; (focus ((try dsimp only at hq); go_simp; (first | done | with_reducible rfl | fail)))) | refine held_s (i := 18) hHeld ?_ | fail
    first | (refine held_t (i := 19) hHeld ?_; apply Exists.intro; refine ⟨fun wq hq => ?_, ?_⟩; (focus ((try dsimp only at hq); go_simp; (first | done | with_reducible rfl | fail)))) | refine held_s (i := 19) hHeld ?_ | fail
    try simp only [Act.put, List.setIfInBounds_toArray, List.set_cons_zero, List.set_cons_succ]
    refine held_c 2 fun K hK => ?_
    go_simp
    (go_at_call 101; refine (HQ.out _).mono ?_; rintro e wQ ⟨rfl, hbQ⟩)
    refine hK.out _ _ (⟨⟨cell_later hbQ hHeld.1.1, cell_later hbQ hHeld.1.2.1, cell_later hbQ hHeld.1.2.2.1, cell_later hbQ hHeld.1.2.2.2.1, cell_later hbQ hHeld.1.2.2.2.2.1, cell_later hbQ hHeld.1.2.2.2.2.2.1, cell_later hbQ hHeld.1.2.2.2.2.2.2.1, cell_later hbQ hHeld.1.2.2.2.2.2.2.2⟩, Ext.trans' hHeld.2 hbQ⟩) (fun hHeld => ?_)
    clear hK K
    try simp only [Act.put, List.setIfInBounds_toArray, List.set_cons_zero, List.set_cons_succ]
    first | (refine held_t (i := 3) hHeld ?_; apply Exists.intro; refine ⟨fun wq hq => ?_, ?_⟩; (focus ((try dsimp only at hq); go_simp; (first | done | with_reducible rfl | fail)))) | refine held_s (i := 3) hHeld ?_ | fail
    try simp only [Act.put, List.setIfInBounds_toArray, List.set_cons_zero, List.set_cons_succ]
    refine held_c 10 fun K hK => ?_
    go_simp
    (go_at_call 63; refine (HCA.out _ hHeld.2).mono ?_; rintro e wA ⟨rfl, hbA⟩)
    refine hK.out _ _ (⟨⟨cell_later hbA hHeld.1.1, cell_later hbA hHeld.1.2.1, cell_later hbA hHeld.1.2.2.1, cell_later hbA hHeld.1.2.2.2.1, cell_later hbA hHeld.1.2.2.2.2.1, cell_later hbA hHeld.1.2.2.2.2.2.1, cell_later hbA hHeld.1.2.2.2.2.2.2.1, cell_later hbA hHeld.1.2.2.2.2.2.2.2⟩, Ext.trans' hHeld.2 hbA⟩) (fun hHeld => ?_)
    clear hK K
    try simp only [Act.put, List.setIfInBounds_toArray, List.set_cons_zero, List.set_cons_succ]
    first | (refine held_t (i := 11) hHeld ?_; apply Exists.intro; refine ⟨fun wq hq => ?_, ?_⟩; (focus ((try dsimp only at hq); go_simp; (first | done | with_reducible rfl | fail)))) | refine held_s (i := 11) hHeld ?_ | fail
    first | (refine held_t (i := 20) hHeld ?_; apply Exists.intro; refine ⟨fun wq hq => ?_, ?_⟩; (focus ((try dsimp only at hq); go_simp; (first | done | with_reducible rfl | fail)))) | refine held_s (i := 20) hHeld ?_ | fail
    try simp only [Act.put, List.setIfInBounds_toArray, List.set_cons_zero, List.set_cons_succ]
    first | (refine held_t (i := 21) hHeld ?_; apply Exists.intro; refine ⟨fun wq hq => ?_, ?_⟩; (focus ((try dsimp only at hq); go_simp; (first | done | with_reducible rfl | fail)))) | refine held_s (i := 21) hHeld ?_ | fail
    try simp only [Act.put, List.setIfInBounds_toArray, List.set_cons_zero, List.set_cons_succ]
    refine wpAnyH_done (by kernel_rfl) ?_ _
    have HFF := Lib.hid (Ext.trans' HB5.out hHeld.2)
    clear hHeld
    go_wp2
    go_ret2
    exact ⟨rfl, HFF.out⟩
end Go.Proofs.YtljgkfdnmikpfaaGreatDoor
/- The document's own writer: at, where there are no args. -/
namespace Go.Proofs.YtljgkfdnmikpfaaGreatDoor
open Go.Shelf Go.RowKit
set_option linter.unusedVariables false
set_option maxRecDepth 100000

theorem atw_leaf {xs : List O} {vs : List Int} {bs : Bool} {m : Int} {k n : Int} {s : ByteArray} (h0 : 0 ≤ m) : ATW xs vs bs m (.mk k n s []) =
    if (if bs then (decide (0 < levW (preO xs) (betO xs) (.mk k n s [])) || (k == 1 && decide (n < 0))) else decide (m < levW (preO xs) (betO xs) (.mk k n s []))) = true then 40 :: (headW vs (.mk k n s []) ++ [41]) else headW vs (.mk k n s []) := by
  have hB : BARE vs (preO xs) (betO xs) (.mk k n s []) = headW vs (.mk k n s []) := by rw [BARE_eq, bareW_leaf]
  have hn := lev_nonneg (xs := xs) (.mk k n s [])
  unfold ATW
  cases bs
  · simp only [Bool.false_eq_true, ↓reduceIte, decide_eq_true_eq]
    by_cases h : m < levW (preO xs) (betO xs) (.mk k n s [])
    · rw [if_pos h, place_high (by omega), hB]
    · rw [if_neg h, place_low (by omega), hB]
  · simp only [↓reduceIte]
    unfold besideW mostW
    have he : (Tm.mk k n s []).args.isEmpty = true := rfl
    rw [he, Bool.true_and]
    by_cases h : (decide (0 < levW (preO xs) (betO xs) (.mk k n s [])) || (k == 1 && decide (n < 0))) = true
    · rw [if_pos (show (decide (0 < levW (preO xs) (betO xs) (.mk k n s [])) || ((Tm.mk k n s []).k == 1 && decide ((Tm.mk k n s []).n < 0))) = true from h), if_pos h, place_high (by omega), hB]
    · rw [if_neg (show ¬ (decide (0 < levW (preO xs) (betO xs) (.mk k n s [])) || ((Tm.mk k n s []).k == 1 && decide ((Tm.mk k n s []).n < 0))) = true from h), if_neg h]
      have h' : ¬ 0 < levW (preO xs) (betO xs) (.mk k n s []) := fun hh => h (by rw [decide_eq_true hh]; rfl)
      rw [place_low (by omega), hB]
theorem lev_zero {xs : List O} {k n : Int} {s : ByteArray} (hk : (k == 2) = false) : levW (preO xs) (betO xs) (.mk k n s []) = 0 := by
  unfold levW
  rw [show (Tm.mk k n s []).k = k from rfl, hk, Bool.false_and, if_neg (by decide)]
  rfl
theorem lev_name {xs : List O} (hg : goodB xs = true) {n : Int} {s : ByteArray} : levW (preO xs) (betO xs) (.mk 2 n s []) = lvF xs (bl s) := by
  rw [lv_max hg]
  rfl
theorem idx_var {vs : List Int} {n : Int} (h : n ∈ vs) : varW numW vs n = 95 :: numW (idxW vs n) := by
  obtain ⟨i, h1, h2, _⟩ := idx_nat h
  unfold varW
  rw [h1, h2]
set_option maxHeartbeats 4000000 in
theorem rat_var {xs : List O} {vs : List Int} {wb : Nat} {vo vv : Value} (hvl : vs.length ≤ 100000) {w : World} (h : WdAt w wb vo vv xs vs) {n : Int} {s : ByteArray} {v : Value} (hv : TmV w (.mk 0 n s []) v) (hin : n ∈ vs) (m : Int) (bs : Bool) (h0 : 0 ≤ m) :
    Calls Tryz.prog 63 #[.pointer (some ⟨wb, 0, none⟩), v, .int .i64 m, .bool bs] w fun e w' => e = .returned (.string (baS (ATW xs vs bs m (.mk 0 n s [])))) ∧ Below w.heap.size w w' := by
  have hz : ATW xs vs bs m (.mk 0 n s []) = varW numW vs n := by
    rw [atw_leaf h0, lev_zero rfl, idx_var hin, if_neg]
    · rfl
    · cases bs
      · simp; omega
      · simp
  rw [hz]
  obtain ⟨u, rfl, _, _, _, hu⟩ := tmV_iff.1 hv
  obtain ⟨a, c, rfl, hl1, hl2, _⟩ := hu.len
  obtain ⟨w1, hw1, hb1, hz1, hx1⟩ := box_new w #[.int .i64 0, .int .i64 n, .string s, .slice a 0 c] 66
  have HPV := Lib.hid (plain_var (q := qB) (nm := numW) (h.wr.ext hb1) (fun i hi => rnum_nc (by unfold R; omega)) n s a 0 c (fun i hi => by have := pnumW_len (n := (i : Int)) (by unfold R; omega); omega))
  have HB1 := Lib.hid hb1
  obtain ⟨b0, b1, b2, b3, bf⟩ := hx1.four
  clear h hv hu hb1 hx1 hz1 hl1 hz hin h0
  go_enter Tryz.func63, Tryz.ntmps63
  go_wp2_with fail
  (try rw [hw1])
  (try rw [show w.alloc (.cells #[.int .i64 0, .int .i64 n, .string s, .slice a 0 c] 66) = w1 from hw1])
  clear hw1
  (go_wp2_with fail; go_fit (HPV.out); rintro e w4 ⟨rfl, hb4⟩)
  have HB4 := Lib.hid (Ext.trans' HB1.out hb4)
  clear hb4
  go_wp2
  go_ret
  exact ⟨rfl, HB4.out⟩
set_option maxHeartbeats 4000000 in
theorem rat_int {xs : List O} {vs : List Int} {wb : Nat} {vo vv : Value} {w : World} (h : WdAt w wb vo vv xs vs) {n : Int} {s : ByteArray} {v : Value} (hv : TmV w (.mk 1 n s []) v) (m : Int) (bs : Bool) (h0 : 0 ≤ m) :
    Calls Tryz.prog 63 #[.pointer (some ⟨wb, 0, none⟩), v, .int .i64 m, .bool bs] w fun e w' => e = .returned (.string (baS (ATW xs vs bs m (.mk 1 n s [])))) ∧ Below w.heap.size w w' := by
  obtain ⟨u, rfl, _, _, hnI, hu⟩ := tmV_iff.1 hv
  have hz : ATW xs vs bs m (.mk 1 n s []) = if (bs && decide (n < 0)) = true then 40 :: (numW n ++ [41]) else numW n := by
    rw [atw_leaf h0, lev_zero rfl]
    cases bs
    · rw [Bool.false_and, if_neg (by simp; omega), if_neg (by decide)]; rfl
    · rw [Bool.true_and]; rfl
  rw [hz]
  obtain ⟨a, c, rfl, hl1, hl2, _⟩ := hu.len
  obtain ⟨w1, hw1, hb1, hz1, hx1⟩ := box_new w #[.int .i64 1, .int .i64 n, .string s, .slice a 0 c] 66
  have hnl := pnumW_len (n := n) hnI
  obtain ⟨Q, hQ⟩ : ∃ Q, baS (numW n) = Q := ⟨_, rfl⟩
  have hQs : Q.size ≤ 21 := by rw [← hQ, size_bl, bl_baS]; exact hnl
  have HPI : Hid (∀ wq, Calls Tryz.prog 64 #[.pointer (some ⟨wb, 0, none⟩), .agg #[.int .i64 1, .int .i64 n, .string s, .slice a 0 c]] wq fun e w' => e = .returned (.string Q) ∧ Below wq.heap.size wq w') := Lib.hid (fun wq => by rw [← hQ]; exact plain_int (q := qB) (nm := numW) (vs := vs) n (rnum_nc hnI) s a 0 c)
  have HB1 := Lib.hid hb1
  obtain ⟨b0, b1, b2, b3, bf⟩ := hx1.four
  have hst1 : ¬ 9223372036854775807 < 1 + Q.size := by omega
  have hsz : ((⟨#[40]⟩ : ByteArray) ++ Q).size = 1 + Q.size := by rw [ByteArray.size_append]; rfl
  have hst2 : ¬ 9223372036854775807 < ((⟨#[40]⟩ : ByteArray) ++ Q).size + 1 := by rw [hsz]; omega
  have hst3 : ¬ 9223372036854775807 < 1 + Q.size + 1 := by omega
  have HQ1 := Lib.hid (show baS (40 :: (numW n ++ [41])) = (⟨#[40]⟩ ++ Q) ++ ⟨#[41]⟩ from bl_eq (by rw [bl_baS, bl_cat, bl_cat, ← hQ, bl_baS]; rfl))
  have HQ0 := Lib.hid hQ
  clear h hv hu hb1 hx1 hz1 hl1 hz h0 hnI hnl hQ hsz
  by_cases hn : n < 0
  · cases bs
    · rw [Bool.false_and, if_neg (by decide), HQ0.out]
      go_enter Tryz.func63, Tryz.ntmps63
      go_wp2_with fail
      (try rw [show w.alloc (.cells #[.int .i64 1, .int .i64 n, .string s, .slice a 0 c] 66) = w1 from hw1])
      clear hw1
      (go_wp2_with fail; go_fit (HPI.out _); rintro e w4 ⟨rfl, hb4⟩)
      have HB4 := Lib.hid (Ext.trans' HB1.out hb4)
      clear hb4
      go_wp2
      go_ret
      exact ⟨rfl, HB4.out⟩
    · rw [Bool.true_and, if_pos (decide_eq_true hn), HQ1.out]
      go_enter Tryz.func63, Tryz.ntmps63
      go_wp2_with fail
      (try rw [show w.alloc (.cells #[.int .i64 1, .int .i64 n, .string s, .slice a 0 c] 66) = w1 from hw1])
      clear hw1
      (go_wp2_with fail; go_fit (HPI.out _); rintro e w4 ⟨rfl, hb4⟩)
      have HB4 := Lib.hid (Ext.trans' HB1.out hb4)
      clear hb4
      go_wp2
      go_ret
      exact ⟨rfl, HB4.out⟩
  · cases bs
    · rw [Bool.false_and, if_neg (by decide), HQ0.out]
      go_enter Tryz.func63, Tryz.ntmps63
      go_wp2_with fail
      (try rw [show w.alloc (.cells #[.int .i64 1, .int .i64 n, .string s, .slice a 0 c] 66) = w1 from hw1])
      clear hw1
      (go_wp2_with fail; go_fit (HPI.out _); rintro e w4 ⟨rfl, hb4⟩)
      have HB4 := Lib.hid (Ext.trans' HB1.out hb4)
      clear hb4
      go_wp2
      go_ret
      exact ⟨rfl, HB4.out⟩
    · rw [Bool.true_and, if_neg (by simpa using hn), HQ0.out]
      go_enter Tryz.func63, Tryz.ntmps63
      go_wp2_with fail
      (try rw [show w.alloc (.cells #[.int .i64 1, .int .i64 n, .string s, .slice a 0 c] 66) = w1 from hw1])
      clear hw1
      (go_wp2_with fail; go_fit (HPI.out _); rintro e w4 ⟨rfl, hb4⟩)
      have HB4 := Lib.hid (Ext.trans' HB1.out hb4)
      clear hb4
      go_wp2
      go_ret
      exact ⟨rfl, HB4.out⟩
set_option maxHeartbeats 4000000 in
theorem rat_name {xs : List O} {vs : List Int} {wb : Nat} {vo vv : Value} (hg : goodB xs = true) {w : World} (h : WdAt w wb vo vv xs vs) {n : Int} {s : ByteArray} {v : Value} (hv : TmV w (.mk 2 n s []) v) (m : Int) (bs : Bool) (h0 : 0 ≤ m) :
    Calls Tryz.prog 63 #[.pointer (some ⟨wb, 0, none⟩), v, .int .i64 m, .bool bs] w fun e w' => e = .returned (.string (baS (ATW xs vs bs m (.mk 2 n s [])))) ∧ Below w.heap.size w w' := by
  obtain ⟨u, rfl, hsz, _, hnI, hu⟩ := tmV_iff.1 hv
  obtain ⟨l, hl⟩ : ∃ l, lvF xs (bl s) = l := ⟨_, rfl⟩
  have hlp : 0 ≤ l := by rw [← hl, ← lev_name hg (n := n)]; exact lev_nonneg _
  have hz : ATW xs vs bs m (.mk 2 n s []) = if (decide (0 < l) && (decide (m < l) || bs)) = true then 40 :: (quoteB (bl s) ++ [41]) else quoteB (bl s) := by
    rw [atw_leaf h0, lev_name hg, hl]
    have hhd : headW vs (.mk 2 n s []) = quoteB (bl s) := rfl
    rw [hhd]
    have hb : (if bs then (decide (0 < l) || ((2 : Int) == 1 && decide (n < 0))) else decide (m < l)) = (decide (0 < l) && (decide (m < l) || bs)) := by
      cases bs
      · rw [if_neg (by decide), Bool.or_false]
        by_cases hh : m < l
        · rw [decide_eq_true hh, decide_eq_true (show 0 < l by omega)]; rfl
        · rw [decide_eq_false hh, Bool.and_false]
      · rw [if_pos rfl, Bool.or_true, Bool.and_true]; simp
    rw [hb]
  rw [hz]
  obtain ⟨a, c, rfl, hl1, hl2, _⟩ := hu.len
  obtain ⟨w1, hw1, hb1, hz1, hx1⟩ := box_new w #[.int .i64 2, .int .i64 n, .string s, .slice a 0 c] 66
  obtain ⟨ao, co, hvo, ho1, ho2⟩ := h.p.form
  have hqs : (quoteB (bl s)).length ≤ 130 := head_len [] (.mk 2 0 s [])
  obtain ⟨Q, hQ⟩ : ∃ Q, baS (quoteB (bl s)) = Q := ⟨_, rfl⟩
  have hQs : Q.size ≤ 130 := by rw [← hQ, size_bl, bl_baS]; exact hqs
  have HQU : Hid (∀ wq, Calls Tryz.prog 101 #[.string s] wq fun e w' => e = .returned (.string Q) ∧ Below wq.heap.size wq w') := Lib.hid (fun wq => by rw [← hQ]; exact rquote_any s wq hsz)
  have HB1 := Lib.hid hb1
  have HW1 := Lib.hid (h.ext hb1)
  have o0 := HW1.out.o
  obtain ⟨b0, b1, b2, b3, bf⟩ := hx1.four
  have hst1 : ¬ 9223372036854775807 < 1 + Q.size := by omega
  have hsq : ((⟨#[40]⟩ : ByteArray) ++ Q).size = 1 + Q.size := by rw [ByteArray.size_append]; rfl
  have hst2 : ¬ 9223372036854775807 < ((⟨#[40]⟩ : ByteArray) ++ Q).size + 1 := by rw [hsq]; omega
  have hst3 : ¬ 9223372036854775807 < 1 + Q.size + 1 := by omega
  have HQ1 := Lib.hid (show baS (40 :: (quoteB (bl s) ++ [41])) = (⟨#[40]⟩ ++ Q) ++ ⟨#[41]⟩ from bl_eq (by rw [bl_baS, bl_cat, bl_cat, ← hQ, bl_baS]; rfl))
  have HQ0 := Lib.hid hQ
  obtain ⟨mo, hmo⟩ : ∃ m, xs.length = m := ⟨_, rfl⟩
  rw [hmo] at hvo
  subst hvo
  have HOL := Lib.hid (fun (wq : World) (hq : Below w1.heap.size w1 wq) => oplevel_walk (HW1.out.p.ext hq) s)
  rw [hl] at HOL
  have hcase : (∃ Z : ByteArray, Z = (⟨#[40]⟩ ++ Q) ++ ⟨#[41]⟩ ∧ 0 < l ∧ (m < l ∨ (¬ m < l ∧ bs = true)) ∧ baS (if (decide (0 < l) && (decide (m < l) || bs)) = true then 40 :: (quoteB (bl s) ++ [41]) else quoteB (bl s)) = Z) ∨ (∃ Z : ByteArray, Z = Q ∧ (l = 0 ∨ (0 < l ∧ ¬ m < l ∧ bs = false)) ∧ baS (if (decide (0 < l) && (decide (m < l) || bs)) = true then 40 :: (quoteB (bl s) ++ [41]) else quoteB (bl s)) = Z) := by
    by_cases h1 : 0 < l
    · by_cases h2 : m < l
      · exact Or.inl ⟨_, rfl, h1, Or.inl h2, by rw [if_pos (by rw [decide_eq_true h1, decide_eq_true h2]; rfl)]; exact HQ1.out⟩
      · cases bs with
        | true => exact Or.inl ⟨_, rfl, h1, Or.inr ⟨h2, rfl⟩, by rw [if_pos (by rw [decide_eq_true h1, Bool.or_true]; rfl)]; exact HQ1.out⟩
        | false => exact Or.inr ⟨_, rfl, Or.inr ⟨h1, h2, rfl⟩, by rw [if_neg (by rw [decide_eq_false h2, Bool.or_false, Bool.and_false]; decide)]; exact HQ0.out⟩
    · exact Or.inr ⟨_, rfl, Or.inl (by omega), by rw [if_neg (by rw [decide_eq_false h1, Bool.false_and]; decide)]; exact HQ0.out⟩
  clear h hv hu hb1 hx1 hz1 hl1 hz hnI hQ hsq hqs hl hmo hsz
  rcases hcase with ⟨Z, hZ, h1, h2, hE⟩ | ⟨Z, hZ, h1, hE⟩
  · rw [hE]
    clear hE
    subst hZ
    rcases h2 with h2 | ⟨h2, rfl⟩
    all_goals
      go_enter Tryz.func63, Tryz.ntmps63
      go_wp2_with fail
      (try rw [show w.alloc (.cells #[.int .i64 2, .int .i64 n, .string s, .slice a 0 c] 66) = w1 from hw1])
      (try clear hw1)
      go_upto_region 8 with fail
      refine wp_region_held_drew (S := fun w' => (w'.cell? ⟨wb, 0, none⟩ = some (.slice ao mo co) ∧ w'.cell? ⟨w.heap.size, 2, none⟩ = some (.string s)) ∧ Below w1.heap.size w1 w') (by kernel_rfl) ⟨⟨o0, b2⟩, (Below.refl _ _).drew⟩ (fun hHeld => ?_)
      first | (refine held_t (i := 0) hHeld ?_; apply Exists.intro; refine ⟨fun wq hq => ?_, ?_⟩; (focus ((try dsimp only at hq); go_simp; (first | done | with_reducible rfl | fail)))) | refine held_s (i := 0) hHeld ?_ | fail
      first | (refine held_t (i := 1) hHeld ?_; apply Exists.intro; refine ⟨fun wq hq => ?_, ?_⟩; (focus ((try dsimp only at hq); go_simp; (first | done | with_reducible rfl | fail)))) | refine held_s (i := 1) hHeld ?_ | fail
      try simp only [Act.put, List.setIfInBounds_toArray, List.set_cons_zero, List.set_cons_succ]
      first | (refine held_t (i := 2) hHeld ?_; apply Exists.intro; refine ⟨fun wq hq => ?_, ?_⟩; (focus ((try dsimp only at hq); go_simp; (first | done | with_reducible rfl | fail)))) | refine held_s (i := 2) hHeld ?_ | fail
      first | (refine held_t (i := 3) hHeld ?_; apply Exists.intro; refine ⟨fun wq hq => ?_, ?_⟩; (focus ((try dsimp only at hq); go_simp; (first | done | with_reducible rfl | fail)))) | refine held_s (i := 3) hHeld ?_ | fail
      try simp only [Act.put, List.setIfInBounds_toArray, List.set_cons_zero, List.set_cons_succ]
      first | (refine held_t (i := 4) hHeld ?_; apply Exists.intro; refine ⟨fun wq hq => ?_, ?_⟩; (focus ((try dsimp only at hq); go_simp; (first | done | with_reducible rfl | fail)))) | refine held_s (i := 4) hHeld ?_ | fail
      first | (refine held_t (i := 5) hHeld ?_; apply Exists.intro; refine ⟨fun wq hq => ?_, ?_⟩; (focus ((try dsimp only at hq); go_simp; (first | done | with_reducible rfl | fail)))) | refine held_s (i := 5) hHeld ?_ | fail
      try simp only [Act.put, List.setIfInBounds_toArray, List.set_cons_zero, List.set_cons_succ]
      refine held_c 6 fun K hK => ?_
      go_simp
      (go_at_call 100; refine (HOL.out _ hHeld.2).mono ?_; rintro e wA ⟨rfl, rfl⟩)
      refine hK.out _ _ (hHeld) (fun hHeld => ?_)
      clear hK K
      try simp only [Act.put, List.setIfInBounds_toArray, List.set_cons_zero, List.set_cons_succ]
      first | (refine held_t (i := 7) hHeld ?_; apply Exists.intro; refine ⟨fun wq hq => ?_, ?_⟩; (focus ((try dsimp only at hq); go_simp; (first | done | with_reducible rfl | fail)))) | refine held_s (i := 7) hHeld ?_ | fail
      try simp only [Act.put, List.setIfInBounds_toArray, List.set_cons_zero, List.set_cons_succ]
      refine wpAnyH_done (by kernel_rfl) ?_ _
      obtain ⟨⟨_, b2⟩, hBd⟩ := hHeld
      generalize w1.drew = wz at *
      have HBZ := Lib.hid (Ext.trans' HB1.out hBd)
      clear hBd
      (go_wp2_with fail; go_fit (HQU.out _); rintro e w4 ⟨rfl, hb4⟩)
      have HB4 := Lib.hid (Ext.trans' HBZ.out hb4)
      clear hb4
      go_wp2
      go_ret
      exact ⟨rfl, HB4.out⟩
  · rw [hE]
    clear hE
    subst hZ
    rcases h1 with rfl | ⟨h1, h2, rfl⟩
    all_goals
      go_enter Tryz.func63, Tryz.ntmps63
      go_wp2_with fail
      (try rw [show w.alloc (.cells #[.int .i64 2, .int .i64 n, .string s, .slice a 0 c] 66) = w1 from hw1])
      (try clear hw1)
      go_upto_region 8 with fail
      refine wp_region_held_drew (S := fun w' => (w'.cell? ⟨wb, 0, none⟩ = some (.slice ao mo co) ∧ w'.cell? ⟨w.heap.size, 2, none⟩ = some (.string s)) ∧ Below w1.heap.size w1 w') (by kernel_rfl) ⟨⟨o0, b2⟩, (Below.refl _ _).drew⟩ (fun hHeld => ?_)
      first | (refine held_t (i := 0) hHeld ?_; apply Exists.intro; refine ⟨fun wq hq => ?_, ?_⟩; (focus ((try dsimp only at hq); go_simp; (first | done | with_reducible rfl | fail)))) | refine held_s (i := 0) hHeld ?_ | fail
      first | (refine held_t (i := 1) hHeld ?_; apply Exists.intro; refine ⟨fun wq hq => ?_, ?_⟩; (focus ((try dsimp only at hq); go_simp; (first | done | with_reducible rfl | fail)))) | refine held_s (i := 1) hHeld ?_ | fail
      try simp only [Act.put, List.setIfInBounds_toArray, List.set_cons_zero, List.set_cons_succ]
      first | (refine held_t (i := 2) hHeld ?_; apply Exists.intro; refine ⟨fun wq hq => ?_, ?_⟩; (focus ((try dsimp only at hq); go_simp; (first | done | with_reducible rfl | fail)))) | refine held_s (i := 2) hHeld ?_ | fail
      first | (refine held_t (i := 3) hHeld ?_; apply Exists.intro; refine ⟨fun wq hq => ?_, ?_⟩; (focus ((try dsimp only at hq); go_simp; (first | done | with_reducible rfl | fail)))) | refine held_s (i := 3) hHeld ?_ | fail
      try simp only [Act.put, List.setIfInBounds_toArray, List.set_cons_zero, List.set_cons_succ]
      first | (refine held_t (i := 4) hHeld ?_; apply Exists.intro; refine ⟨fun wq hq => ?_, ?_⟩; (focus ((try dsimp only at hq); go_simp; (first | done | with_reducible rfl | fail)))) | refine held_s (i := 4) hHeld ?_ | fail
      first | (refine held_t (i := 5) hHeld ?_; apply Exists.intro; refine ⟨fun wq hq => ?_, ?_⟩; (focus ((try dsimp only at hq); go_simp; (first | done | with_reducible rfl | fail)))) | refine held_s (i := 5) hHeld ?_ | fail
      try simp only [Act.put, List.setIfInBounds_toArray, List.set_cons_zero, List.set_cons_succ]
      refine held_c 6 fun K hK => ?_
      go_simp
      (go_at_call 100; refine (HOL.out _ hHeld.2).mono ?_; rintro e wA ⟨rfl, rfl⟩)
      refine hK.out _ _ (hHeld) (fun hHeld => ?_)
      clear hK K
      try simp only [Act.put, List.setIfInBounds_toArray, List.set_cons_zero, List.set_cons_succ]
      first | (refine held_t (i := 7) hHeld ?_; apply Exists.intro; refine ⟨fun wq hq => ?_, ?_⟩; (focus ((try dsimp only at hq); go_simp; (first | done | with_reducible rfl | fail)))) | refine held_s (i := 7) hHeld ?_ | fail
      try simp only [Act.put, List.setIfInBounds_toArray, List.set_cons_zero, List.set_cons_succ]
      refine wpAnyH_done (by kernel_rfl) ?_ _
      obtain ⟨⟨_, b2⟩, hBd⟩ := hHeld
      generalize w1.drew = wz at *
      have HBZ := Lib.hid (Ext.trans' HB1.out hBd)
      clear hBd
      (go_wp2_with fail; go_fit (HQU.out _); rintro e w4 ⟨rfl, hb4⟩)
      have HB4 := Lib.hid (Ext.trans' HBZ.out hb4)
      clear hb4
      go_wp2
      go_ret
      exact ⟨rfl, HB4.out⟩
end Go.Proofs.YtljgkfdnmikpfaaGreatDoor
/- The document's own writer: at, where there are args. -/
namespace Go.Proofs.YtljgkfdnmikpfaaGreatDoor
open Go.Shelf Go.RowKit
set_option linter.unusedVariables false
set_option maxRecDepth 100000

theorem atw_args {xs : List O} {vs : List Int} {bs : Bool} {m : Int} {x : Tm} (hf : formedT x = true) (he : x.args.isEmpty = false) : ATW xs vs bs m x = if (opW (preO xs) (betO xs) x).1.l ≤ m then BARE vs (preO xs) (betO xs) x else 40 :: (BARE vs (preO xs) (betO xs) x ++ [41]) := by
  have hl := lev_args (xs := xs) he
  have hc : ¬ (x.args.isEmpty && decide (0 < levW (preO xs) (betO xs) x) || (x.k == 1 && decide (x.n < 0))) = true := by
    rw [he, formed_int hf he]; simp
  have hm : mostW (preO xs) (betO xs) x m = m := by unfold mostW; rw [if_neg hc]
  unfold ATW
  cases bs
  · rw [if_neg (by decide)]; unfold placeW; rw [hl]
  · rw [if_pos rfl]; unfold besideW placeW; rw [hm, hl]
theorem bare_no {xs : List O} {vs : List Int} {k n : Int} {s : ByteArray} {ts : List Tm} (hf : formedT (.mk k n s ts) = true) (ho : (opW (preO xs) (betO xs) (.mk k n s ts)).2 = false) (h46 : ¬ (bl s = [46] ∧ ts.length = 2)) (h12 : ¬ (bl s = [123, 125] ∧ ts.length = 1)) (hne : ts ≠ []) :
    BARE vs (preO xs) (betO xs) (.mk k n s ts) = quoteB (bl s) ++ (40 :: (rowW (ATW xs vs false 999) ts ++ [41])) := by
  obtain ⟨a, r, rfl⟩ := List.exists_cons_of_ne_nil hne
  have hk := formed_kind hf
  subst hk
  rw [BARE_eq]
  unfold bareW
  rw [ho, if_neg (by decide), if_neg (by
    intro h
    simp only [Bool.and_eq_true, decide_eq_true_eq] at h
    exact h46 ⟨eq_of_beq h.2.1, h.2.2⟩), if_neg (by
    intro h
    simp only [Bool.and_eq_true, decide_eq_true_eq] at h
    exact h12 ⟨eq_of_beq h.1, h.2⟩)]
  rfl
/-- What operator answers. -/
theorem rop_at {xs : List O} {vs : List Int} {wb : Nat} {vo vv : Value} {N : Nat} (ih : IHd xs vs wb vo vv N) (hg : goodB xs = true) {w : World} (h : WdAt w wb vo vv xs vs) {n : Int} {s : ByteArray} {ts : List Tm} {v : Value} (hv : TmV w (.mk 2 n s ts) v) (hx : goodT (.mk 2 n s ts) = true) (hN : sizeN (.mk 2 n s ts) ≤ N) (hin : inV vs (.mk 2 n s ts)) (hne : ts ≠ []) (h46 : ¬ (bl s = [46] ∧ ts.length = 2)) :
    Calls Tryz.prog 103 #[.pointer (some ⟨wb, 0, none⟩), v] w fun e w' => e = .returned (.tuple #[.string (if (opW (preO xs) (betO xs) (.mk 2 n s ts)).2 = true then baS (BARE vs (preO xs) (betO xs) (.mk 2 n s ts)) else ⟨#[]⟩), .int .i64 (opW (preO xs) (betO xs) (.mk 2 n s ts)).1.l]) ∧ Below w.heap.size w w' := by
  cases ts with
  | nil => exact absurd rfl hne
  | cons a r =>
  cases r with
  | nil =>
    refine (rop_one ih hg h hv hx hN hin).mono ?_
    rintro e w' ⟨he, hb⟩
    refine ⟨?_, hb⟩
    rw [he]
    cases ho : (opW (preO xs) (betO xs) (.mk 2 n s [a])).2 with
    | false => rfl
    | true =>
      rw [if_pos rfl, if_pos rfl]
      have : BARE vs (preO xs) (betO xs) (.mk 2 n s [a]) = aheadW (preO xs) (betO xs) (BARE vs (preO xs) (betO xs)) (opW (preO xs) (betO xs) (.mk 2 n s [a])).1 a := by
        rw [BARE_eq]; unfold bareW; rw [if_pos ho]; rfl
      rw [this]
  | cons b r =>
  cases r with
  | nil =>
    have hop : opW (preO xs) (betO xs) (.mk 2 n s [a, b]) = betO xs (bl s) := by rw [opW_two, if_neg (fun h => h46 ⟨eq_of_beq h, rfl⟩)]
    refine (rop_two ih hg h hv hx hN hin).mono ?_
    rintro e w' ⟨he, hb⟩
    refine ⟨?_, hb⟩
    rw [he, hop]
    cases ho : (betO xs (bl s)).2 with
    | false => rfl
    | true =>
      rw [if_pos rfl, if_pos rfl]
      have : BARE vs (preO xs) (betO xs) (.mk 2 n s [a, b]) = betweenW (preO xs) (betO xs) (BARE vs (preO xs) (betO xs)) (betO xs (bl s)).1 a b := by
        rw [BARE_eq]; unfold bareW; rw [if_pos (by rw [hop]; exact ho), hop]; rfl
      rw [this]
  | cons c r =>
    refine (rop_three h hv).mono ?_
    rintro e w' ⟨he, hb⟩
    exact ⟨he, hb⟩
/-- The args so far. -/
def argP (W : Tm → List UInt8) (ts : List Tm) (k : Nat) : List UInt8 := if k = 0 then [] else 40 :: rowW W (ts.take k)
theorem argP_next {W : Tm → List UInt8} {ts : List Tm} {k : Nat} {y : Tm} (hy : ts[k]? = some y) : argP W ts (k + 1) = argP W ts k ++ ((if k = 0 then 40 else 44) :: W y) := by
  have htk : ts.take (k + 1) = ts.take k ++ [y] := by rw [List.take_add_one, hy]; rfl
  have hlt := (List.getElem?_eq_some_iff.1 hy).1
  unfold argP
  rw [if_neg (by omega), htk, row_snoc]
  by_cases hk : k = 0
  · subst hk
    rfl
  · have hne : ¬ ts.take k = [] := fun e => by
      have := congrArg List.length e
      rw [List.length_take, List.length_nil] at this
      omega
    rw [if_neg hk, if_neg hne, if_neg hk]
    simp
end Go.Proofs.YtljgkfdnmikpfaaGreatDoor
/- The document's own writer: at, where there are args: walked. -/
namespace Go.Proofs.YtljgkfdnmikpfaaGreatDoor
open Go.Shelf Go.RowKit
set_option linter.unusedVariables false
set_option maxRecDepth 100000

set_option maxHeartbeats 4000000 in
theorem rat_list {xs : List O} {vs : List Int} {wb : Nat} {vo vv : Value} {N : Nat} (ih : IHd xs vs wb vo vv N) (hg : goodB xs = true) {w : World} (h : WdAt w wb vo vv xs vs) {n : Int} {s : ByteArray} {a y : Tm} {v : Value} (hv : TmV w (.mk 2 n s [a, y]) v) (hx : goodT (.mk 2 n s [a, y]) = true) (hN : sizeN (.mk 2 n s [a, y]) ≤ N) (hin : inV vs (.mk 2 n s [a, y])) (h46 : bl s = [46]) (q : Int) (bs : Bool) (hq : 0 ≤ q) :
    Calls Tryz.prog 63 #[.pointer (some ⟨wb, 0, none⟩), v, .int .i64 q, .bool bs] w fun e w' => e = .returned (.string (baS (ATW xs vs bs q (.mk 2 n s [a, y])))) ∧ Below w.heap.size w w' := by
  have hf := (good_parts hx).2.2
  have hop : opW (preO xs) (betO xs) (.mk 2 n s [a, y]) = zO := by rw [opW_two, if_pos (by rw [h46]; rfl)]
  have hbare : BARE vs (preO xs) (betO xs) (.mk 2 n s [a, y]) = listW (preO xs) (betO xs) (BARE vs (preO xs) (betO xs)) (.mk 2 n s [a, y]) := by
    rw [BARE_eq]; unfold bareW
    rw [hop, if_neg (by show ¬ (false = true); decide), if_pos (by show ((2 : Int) == 2 && (bl s == [46] && decide ((2 : Nat) = 2))) = true; rw [h46]; rfl)]
  rw [atw_args hf rfl, hop, if_pos (show (zO.1.l : Int) ≤ q from hq), hbare]
  have hp : (pairT (.mk 2 n s [a, y])).isSome = true := by rw [pair_form (t := .mk 2 n s [a, y]) h46 rfl hf]; rfl
  obtain ⟨u, rfl, hsz, _, _, hu⟩ := tmV_iff.1 hv
  obtain ⟨aa, c, rfl, hl1, hl2, _⟩ := hu.len
  obtain ⟨w1, hw1, hb1, hz1, hx1⟩ := box_new w #[.int .i64 2, .int .i64 n, .string s, .slice aa 2 c] 66
  have HW1 := Lib.hid (h.ext hb1)
  have HV1 := Lib.hid (TmV.ext hb1 _ _ hv)
  have HU := Lib.hid (hu.ext hb1)
  have HB1 := Lib.hid hb1
  obtain ⟨b0, b1, b2, b3, bf⟩ := hx1.four
  have HL := Lib.hid (rlist_at ih hg HW1.out HV1.out hx hN hp hin)
  obtain ⟨Z, hZ⟩ : ∃ Z, baS (listW (preO xs) (betO xs) (BARE vs (preO xs) (betO xs)) (.mk 2 n s [a, y])) = Z := ⟨_, rfl⟩
  rw [hZ] at HL ⊢
  have ht : (s.toList == [46]) = true := (name_test s _).trans (by rw [h46]; rfl)
  clear h hv hu hb1 hx1 hz1 hl1 hZ hbare hop hf hp ih hx hN hin hg HU HV1 HW1 hsz h46
  go_enter Tryz.func63, Tryz.ntmps63
  go_wp2_with fail
  (try rw [show w.alloc (.cells #[.int .i64 2, .int .i64 n, .string s, .slice aa 2 c] 66) = w1 from hw1])
  clear hw1
  (go_wp2_with fail; go_fit (HL.out); rintro e w2 ⟨rfl, hb2⟩)
  have HB2 := Lib.hid (Ext.trans' HB1.out hb2)
  clear hb2
  go_wp2
  go_ret
  exact ⟨rfl, HB2.out⟩
set_option maxHeartbeats 4000000 in
theorem rat_brace {xs : List O} {vs : List Int} {wb : Nat} {vo vv : Value} {N : Nat} (ih : IHd xs vs wb vo vv N) (hg : goodB xs = true) {w : World} (h : WdAt w wb vo vv xs vs) {n : Int} {s : ByteArray} {a : Tm} {v : Value} (hv : TmV w (.mk 2 n s [a]) v) (hx : goodT (.mk 2 n s [a]) = true) (hN : sizeN (.mk 2 n s [a]) ≤ N) (hin : inV vs (.mk 2 n s [a])) (h12 : bl s = [123, 125]) (q : Int) (bs : Bool) (hq : 0 ≤ q) :
    Calls Tryz.prog 63 #[.pointer (some ⟨wb, 0, none⟩), v, .int .i64 q, .bool bs] w fun e w' => e = .returned (.string (baS (ATW xs vs bs q (.mk 2 n s [a])))) ∧ Below w.heap.size w w' := by
  have hf := (good_parts hx).2.2
  have hop : opW (preO xs) (betO xs) (.mk 2 n s [a]) = zO := by rw [opW_one, if_neg (by rw [h12, (tab_of xs).curly]; simp)]
  have hbare : BARE vs (preO xs) (betO xs) (.mk 2 n s [a]) = 123 :: (ATW xs vs false 1200 a ++ [125]) := by
    rw [BARE_eq]; unfold bareW
    rw [hop, if_neg (by show ¬ (false = true); decide), if_neg (by show ¬ ((2 : Int) == 2 && (bl s == [46] && decide ((1 : Nat) = 2))) = true; simp), if_pos (by show (bl s == [123, 125] && decide ((1 : Nat) = 1)) = true; rw [h12]; rfl)]
    rfl
  rw [atw_args hf rfl, hop, if_pos (show (zO.1.l : Int) ≤ q from hq), hbare]
  have hga : goodT a = true := good_arg hx (by show a ∈ [a]; simp)
  have hsa : sizeN a < N := Nat.lt_of_lt_of_le (arg_size (x := .mk 2 n s [a]) (by show a ∈ [a]; simp)) hN
  have hia : inV vs a := inV_arg hin (by show a ∈ [a]; simp)
  obtain ⟨u, rfl, hsz, _, _, hu⟩ := tmV_iff.1 hv
  obtain ⟨aa, c, rfl, hl1, hl2, _⟩ := hu.len
  obtain ⟨w1, hw1, hb1, hz1, hx1⟩ := box_new w #[.int .i64 2, .int .i64 n, .string s, .slice aa 1 c] 66
  have HW1 := Lib.hid (h.ext hb1)
  have HV1 := Lib.hid (TmV.ext hb1 _ _ hv)
  have HU := Lib.hid (hu.ext hb1)
  have HB1 := Lib.hid hb1
  obtain ⟨b0, b1, b2, b3, bf⟩ := hx1.four
  obtain ⟨b, off, ka, na, sa, ua, rfl, hab, rfl, rfl, rfl, d0, d1, d2, d3, hua, hta⟩ := HU.out.get (i := 0) (x := a) rfl
  obtain ⟨aua, cua, rfl, _⟩ := hua.len
  simp only [Nat.zero_mul, Nat.add_zero] at d0 d1 d2 d3
  have HC := Lib.hid (ih a hsa hga hia 1200 false (by omega) (by omega) w1 _ hta HW1.out)
  obtain ⟨Q, hQ⟩ : ∃ Q, baS (ATW xs vs false 1200 a) = Q := ⟨_, rfl⟩
  have hQs : Q.size ≤ 600000 := by rw [← hQ, size_bl, bl_baS]; exact atw_len hga
  have HQ1 := Lib.hid (show baS (123 :: (ATW xs vs false 1200 a ++ [125])) = (⟨#[123]⟩ ++ Q) ++ ⟨#[125]⟩ from bl_eq (by rw [bl_baS, bl_cat, bl_cat, ← hQ, bl_baS]; rfl))
  rw [hQ] at HC
  rw [HQ1.out]
  have ht : (s.toList == [123, 125]) = true := (name_test s _).trans (by rw [h12]; rfl)
  have ht2 : (s.toList == [46]) = false := (name_test s _).trans (by rw [h12]; rfl)
  have hst1 : ¬ 9223372036854775807 < 1 + Q.size := by omega
  have hsq : ((⟨#[123]⟩ : ByteArray) ++ Q).size = 1 + Q.size := by rw [ByteArray.size_append]; rfl
  have hst2 : ¬ 9223372036854775807 < ((⟨#[123]⟩ : ByteArray) ++ Q).size + 1 := by rw [hsq]; omega
  have hst3 : ¬ 9223372036854775807 < 1 + Q.size + 1 := by omega
  clear h hv hu hb1 hx1 hz1 hl1 hbare hop hf ih hx hN hin hg HU HV1 HW1 hsz h12 hQ HQ1 hsq hua hta hga hsa hia
  go_enter Tryz.func63, Tryz.ntmps63
  go_wp2_with fail
  (try rw [show w.alloc (.cells #[.int .i64 2, .int .i64 n, .string s, .slice (some ⟨b, off, none⟩) 1 c] 66) = w1 from hw1])
  clear hw1
  (go_wp2_with fail; go_fit (HC.out); rintro e w2 ⟨rfl, hb2⟩)
  have HB2 := Lib.hid (Ext.trans' HB1.out hb2)
  clear hb2
  go_wp2
  go_ret
  exact ⟨rfl, HB2.out⟩
set_option maxHeartbeats 4000000 in
theorem rat_op {xs : List O} {vs : List Int} {wb : Nat} {vo vv : Value} {N : Nat} (ih : IHd xs vs wb vo vv N) (hg : goodB xs = true) {w : World} (h : WdAt w wb vo vv xs vs) {n : Int} {s : ByteArray} {ts : List Tm} {v : Value} (hv : TmV w (.mk 2 n s ts) v) (hx : goodT (.mk 2 n s ts) = true) (hN : sizeN (.mk 2 n s ts) ≤ N) (hin : inV vs (.mk 2 n s ts)) (hne : ts ≠ []) (h46 : ¬ (bl s = [46] ∧ ts.length = 2)) (h12 : ¬ (bl s = [123, 125] ∧ ts.length = 1)) (ho : (opW (preO xs) (betO xs) (.mk 2 n s ts)).2 = true) (q : Int) (bs : Bool) (hq : 0 ≤ q) :
    Calls Tryz.prog 63 #[.pointer (some ⟨wb, 0, none⟩), v, .int .i64 q, .bool bs] w fun e w' => e = .returned (.string (baS (ATW xs vs bs q (.mk 2 n s ts)))) ∧ Below w.heap.size w w' := by
  have hf := (good_parts hx).2.2
  obtain ⟨l, hl⟩ : ∃ l, (opW (preO xs) (betO xs) (.mk 2 n s ts)).1.l = l := ⟨_, rfl⟩
  have hl1' : 1 ≤ l := by
    rw [← hl]
    have hT := tab_of xs
    cases ts with
    | nil => exact absurd rfl hne
    | cons a r =>
    cases r with
    | nil =>
      rw [opW_one] at ho ⊢
      split at ho
      · rename_i hc; rw [if_pos hc]; exact (hT.pre1 _ ho).2.2.1
      · cases ho
    | cons b r =>
    cases r with
    | nil =>
      rw [opW_two] at ho ⊢
      split at ho
      · cases ho
      · rename_i hc; rw [if_neg hc]; exact (hT.bet1 _ ho).2.2.1
    | cons d r => rw [op_three] at ho; cases ho
  rw [atw_args hf (by cases ts with | nil => exact absurd rfl hne | cons a r => rfl), hl]
  obtain ⟨m, hm⟩ : ∃ m, ts.length = m := ⟨_, rfl⟩
  have hm1 : 1 ≤ m := by rw [← hm]; exact List.length_pos_iff.2 hne
  obtain ⟨u, rfl, hsz, _, _, hu⟩ := tmV_iff.1 hv
  obtain ⟨aa, c, rfl, hl1, hl2, _⟩ := hu.len
  obtain ⟨w1, hw1, hb1, hz1, hx1⟩ := box_new w #[.int .i64 2, .int .i64 n, .string s, .slice aa ts.length c] 66
  have HW1 := Lib.hid (h.ext hb1)
  have HV1 := Lib.hid (TmV.ext hb1 _ _ hv)
  have HU := Lib.hid (hu.ext hb1)
  have HB1 := Lib.hid hb1
  obtain ⟨b0, b1, b2, b3, bf⟩ := hx1.four
  have HOP := Lib.hid (rop_at ih hg HW1.out HV1.out hx hN hin hne h46)
  rw [ho, if_pos rfl, hl] at HOP
  have hbl := bare_len (vs := vs) (pre := preO xs) (bet := betO xs) _ (.mk 2 n s ts) (Nat.le_refl _)
  have hgs := (good_parts hx).1
  obtain ⟨Z, hZ⟩ : ∃ Z, baS (BARE vs (preO xs) (betO xs) (.mk 2 n s ts)) = Z := ⟨_, rfl⟩
  have hZs : Z.size ≤ 600000 := by rw [← hZ, size_bl, bl_baS]; omega
  have HZ1 := Lib.hid (show baS (40 :: (BARE vs (preO xs) (betO xs) (.mk 2 n s ts) ++ [41])) = (⟨#[40]⟩ ++ Z) ++ ⟨#[41]⟩ from bl_eq (by rw [bl_baS, bl_cat, bl_cat, ← hZ, bl_baS]; rfl))
  have HZ0 := Lib.hid hZ
  rw [hZ] at HOP
  rw [hm] at b3 hw1 h46 h12 HOP ⊢
  have hm0 : ((m : Int) == 0) = false := beq_false_of_ne (by omega)
  have htest : ((s.toList == [46]) = false ∧ (s.toList == [123, 125]) = false) ∨ ((s.toList == [46]) = true ∧ ((m : Int) == 2) = false ∧ (s.toList == [123, 125]) = false) ∨ ((s.toList == [46]) = false ∧ (s.toList == [123, 125]) = true ∧ ((m : Int) == 1) = false) := by
    rw [name_test, name_test]
    by_cases h1 : bl s = [46]
    · refine Or.inr (Or.inl ⟨by rw [h1]; rfl, beq_false_of_ne (fun e => h46 ⟨h1, by omega⟩), by rw [h1]; rfl⟩)
    · by_cases h2 : bl s = [123, 125]
      · exact Or.inr (Or.inr ⟨beq_false_of_ne h1, by rw [h2]; rfl, beq_false_of_ne (fun e => h12 ⟨h2, by omega⟩)⟩)
      · exact Or.inl ⟨beq_false_of_ne h1, beq_false_of_ne h2⟩
  have hl0 : (l == 0) = false := beq_false_of_ne (by omega)
  have hst1 : ¬ 9223372036854775807 < 1 + Z.size := by omega
  have hsq : ((⟨#[40]⟩ : ByteArray) ++ Z).size = 1 + Z.size := by rw [ByteArray.size_append]; rfl
  have hst2 : ¬ 9223372036854775807 < ((⟨#[40]⟩ : ByteArray) ++ Z).size + 1 := by rw [hsq]; omega
  have hst3 : ¬ 9223372036854775807 < 1 + Z.size + 1 := by omega
  clear h hv hu hb1 hx1 hz1 hl1 hZ hf ih hx hN hin hg HU HV1 HW1 hsz hsq hbl hgs hl hm ho hne h46 h12
  by_cases hlq : l ≤ q
  · rw [if_pos hlq, HZ0.out]
    have hlf : ¬ q < l := by omega
    rcases htest with ⟨t1, t2⟩ | ⟨t1, t2, t3⟩ | ⟨t1, t2, t3⟩
    all_goals
      go_enter Tryz.func63, Tryz.ntmps63
      go_wp2_with fail
      (try rw [show w.alloc (.cells #[.int .i64 2, .int .i64 n, .string s, .slice aa m c] 66) = w1 from hw1])
      (try clear hw1)
      (go_wp2_with fail; go_fit (HOP.out); rintro e w2 ⟨rfl, hb2⟩)
      have HB2 := Lib.hid (Ext.trans' HB1.out hb2)
      clear hb2
      go_wp2
      go_ret
      exact ⟨rfl, HB2.out⟩
  · rw [if_neg hlq, HZ1.out]
    have hlf : q < l := by omega
    rcases htest with ⟨t1, t2⟩ | ⟨t1, t2, t3⟩ | ⟨t1, t2, t3⟩
    all_goals
      go_enter Tryz.func63, Tryz.ntmps63
      go_wp2_with fail
      (try rw [show w.alloc (.cells #[.int .i64 2, .int .i64 n, .string s, .slice aa m c] 66) = w1 from hw1])
      (try clear hw1)
      (go_wp2_with fail; go_fit (HOP.out); rintro e w2 ⟨rfl, hb2⟩)
      have HB2 := Lib.hid (Ext.trans' HB1.out hb2)
      clear hb2
      go_wp2
      go_ret
      exact ⟨rfl, HB2.out⟩
end Go.Proofs.YtljgkfdnmikpfaaGreatDoor
