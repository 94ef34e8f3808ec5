import Derived.Test.YtljgkfdnmikpfaaGreatDoorHomai
import Derived.Laws.ResultCell
import Derived.LoopTactic
set_option linter.unusedVariables false
set_option linter.unusedSimpArgs false
/- What is written is read as it was: each way of writing. Pure. -/
namespace Go.Proofs.YtljgkfdnmikpfaaGreatDoor
open Go.RowKit
set_option linter.unusedVariables false

section
variable {pre bet : List UInt8 → O × Bool} {vs : List Int}
/-- A mark ends the row here. -/
def EndL (pre bet : List UInt8 → O × Bool) (L : List TokP) : Prop := FolL bet 999 L ∧ ClosL pre bet L ∧ isMark [44] (hdL L) = false
theorem end_mark {c : UInt8} {o : Bool} {p : Nat} {L : List TokP} (hc : c = 41 ∨ c = 93 ∨ c = 125 ∨ c = 124) : EndL pre bet ((mkTok c o, p) :: L) :=
  ⟨(mark_close (pre := pre) hc 999).1, (mark_close (bet := bet) hc 999).2, by rcases hc with rfl | rfl | rfl | rfl <;> rfl⟩
theorem takes_no {t : List UInt8} {L : List TokP} {acc : List Int} (h : isMark t (hdL L) = false) : takesR t (stW L acc) = none := by
  unfold takesR
  rw [hd_st, h]; rfl
theorem takes_yes {c : UInt8} {o : Bool} {p : Nat} {L : List TokP} {acc : List Int} : takesR [c] (stW ((mkTok c o, p) :: L) acc) = some (stW L acc) := by
  unfold takesR
  have : isMark [c] (headR (stW ((mkTok c o, p) :: L) acc)) = true := by
    show ((5 : Nat) == 5 && [c] == [c]) = true
    simp
  rw [if_pos this]
  rfl
def RowOK (pre bet : List UInt8 → O × Bool) (vs : List Int) (W : Tm → List UInt8) (l : List Tm) : Prop := ∀ x ∈ l, ∃ lv rb clo beg, lv ≤ 999 ∧ rb ≤ 999 ∧ Wrt pre bet vs x lv rb clo beg (W x)
/-- Terms with commas between. -/
theorem row_wrt (hT : TabW pre bet) {W : Tm → List UInt8} : ∀ {l : List Tm}, l ≠ [] → RowOK pre bet vs W l →
    (∃ c r, rowW W l = c :: r ∧ c ≠ 93 ∧ c ≠ 125) ∧ ∀ p, ∃ t, Pc p (rowW W l) t ∧ ∀ acc, varsL l acc <+: vs → ∀ L, EndL pre bet L → ITEMS pre bet (stW (t ++ L) acc) = some (renL vs l, stW L (varsL l acc))
  | [], hne, _ => absurd rfl hne
  | [x], _, h => by
    obtain ⟨lv, rb, clo, beg, h1, h2, hw⟩ := h x (by simp)
    refine ⟨hw.head, fun p => ?_⟩
    obtain ⟨hd, tl, g1, g2, g3, g4⟩ := hw.toks p
    refine ⟨hd :: tl, g1, fun acc ha L hL => ?_⟩
    have hr := g4 acc ha 999 h1 L (hL.1.le h2) (fun _ => hL.2.1)
    rw [fol_stop hL.1] at hr
    rw [ITEMS_last hr (takes_no hL.2.2)]
    rfl
  | x :: y :: r, _, h => by
    obtain ⟨lv, rb, clo, beg, h1, h2, hw⟩ := h x (by simp)
    obtain ⟨⟨c, rr, e1, _, _⟩, hrow⟩ := row_wrt hT (l := y :: r) (by simp) (fun z hz => h z (List.mem_cons_of_mem _ hz))
    obtain ⟨c0, r0, e0, n1, n2⟩ := hw.head
    refine ⟨⟨c0, r0 ++ 44 :: rowW W (y :: r), by show W x ++ 44 :: rowW W (y :: r) = _; rw [e0]; rfl, n1, n2⟩, fun p => ?_⟩
    obtain ⟨hd, tl, g1, g2, g3, g4⟩ := hw.toks p
    obtain ⟨t, k1, k2⟩ := hrow (p + (W x).length + 1)
    refine ⟨(hd :: tl) ++ (mkTok 44 (openB (rowW W (y :: r))), p + (W x).length) :: t, pc_comma (Or.inl rfl) (by rw [e1]; simp) g1 k1, fun acc ha L hL => ?_⟩
    rw [varsL] at ha
    obtain ⟨m1, m2⟩ := mark_comma hT (o := openB (rowW W (y :: r))) (p := p + (W x).length) (L := t ++ L) (y := 999) (by omega)
    have hr := g4 acc ((varss_pre _ _).trans ha) 999 h1 ((mkTok 44 (openB (rowW W (y :: r))), p + (W x).length) :: (t ++ L)) (m1.le h2) (fun _ => m2)
    rw [fol_stop m1] at hr
    have hi := (ITEMS_more hr takes_yes).1
    rw [k2 _ ha L hL] at hi
    have e : ∀ (A : List TokP) (q : TokP), A ++ q :: t ++ L = A ++ q :: (t ++ L) := fun A q => by rw [List.append_assoc]; rfl
    rw [e, hi]
    rfl
theorem ba_bl (s : ByteArray) : ba (bl s) = s := by
  unfold ba bl
  rfl
/-- A name with Args. -/
theorem wrt_comp (hT : TabW pre bet) {W : Tm → List UInt8} {s : ByteArray} {ts : List Tm} (hm : (bl s).all mayQ = true) (hl : (bl s).length ≤ 64) (hne : ts ≠ []) (h : RowOK pre bet vs W ts) :
    Wrt pre bet vs (.mk 2 0 s ts) 0 (-1) false true (quoteB (bl s) ++ 40 :: (rowW W ts ++ [41])) where
  head := by
    obtain ⟨c, r, e, hn⟩ := name_next hm hl
    refine ⟨c, r ++ 40 :: (rowW W ts ++ [41]), by rw [e]; rfl, ?_, ?_⟩
    · rintro rfl
      have := hn [] trivial
      rw [List.append_nil] at this
      have e2 := mark_next 93 r (Or.inl (by decide))
      rw [e2] at this
      injection this with this
      have hk := congrArg TokB.kind this
      unfold nmTok nmK mkTok at hk
      simp only at hk
      split at hk <;> omega
    · rintro rfl
      have := hn [] trivial
      rw [List.append_nil] at this
      have e2 := mark_next 125 r (Or.inl (by decide))
      rw [e2] at this
      injection this with this
      have hk := congrArg TokB.kind this
      unfold nmTok nmK mkTok at hk
      simp only at hk
      split at hk <;> omega
  toks := fun p => by
    obtain ⟨⟨c, r, e1, _, _⟩, hrow⟩ := row_wrt hT hne h
    obtain ⟨t, k1, k2⟩ := hrow (p + (quoteB (bl s)).length + 1)
    refine ⟨_, _, pc_open hm hl (by simp) (pc_close (Or.inl rfl) k1), rfl, fun _ => ?_, ?_⟩
    · unfold beginsR
      rw [if_pos (by show nmK (bl s) = 1 ∨ nmK (bl s) = 2; unfold nmK; split <;> simp)]
      rfl
    · intro acc ha most hmo L hL hc
      rw [varsT, if_neg (by decide)] at ha ⊢
      rw [renT, if_neg (by decide)]
      generalize openB (rowW W ts ++ [41]) = o1
      have hk : (nmTok (bl s) true, p).1.kind = 1 ∨ (nmTok (bl s) true, p).1.kind = 2 := by
        show nmK (bl s) = 1 ∨ nmK (bl s) = 2
        unfold nmK; split <;> simp
      have hit := k2 acc ha ((mkTok 41 false, p + (quoteB (bl s)).length + 1 + (rowW W ts).length) :: L) (end_mark (Or.inl rfl))
      have hp : primR pre bet (TERM pre bet) most (stW ((nmTok (bl s) true, p) :: (mkTok 40 o1, p + (quoteB (bl s)).length) :: (t ++ [(mkTok 41 false, p + (quoteB (bl s)).length + 1 + (rowW W ts).length)]) ++ L) acc) = some ((.mk 2 0 s (renL vs ts), 0), stW L (varsL ts acc)) := by
        unfold primR
        rw [head_st, drop_st, if_pos hk]
        unfold namedR
        have hmin : isMinusR (nmTok (bl s) true, p) (headR (stW ((mkTok 40 o1, p + (quoteB (bl s)).length) :: (t ++ [(mkTok 41 false, p + (quoteB (bl s)).length + 1 + (rowW W ts).length)]) ++ L) acc)) = false := by
          unfold isMinusR
          show (_ && (_ && ((5 : Nat) == 4 && _))) = false
          simp
        rw [hmin, if_neg (by simp), if_pos (by rfl), drop_st, argsR_eq, List.append_assoc, List.singleton_append, hit]
        simp only
        rw [takes_yes]
        simp only
        have : (nmTok (bl s) true).text = bl s := rfl
        rw [this, ba_bl]
      rw [TERM_some hp]
theorem name_head {s : ByteArray} (hm : (bl s).all mayQ = true) (hl : (bl s).length ≤ 64) (R : List UInt8) : ∃ c r, quoteB (bl s) ++ R = c :: r ∧ c ≠ 93 ∧ c ≠ 125 := by
  obtain ⟨c, r, e, hn⟩ := name_next hm hl
  refine ⟨c, r ++ R, by rw [e]; rfl, ?_, ?_⟩
  · rintro rfl
    have := hn [] trivial
    rw [List.append_nil, mark_next 93 r (Or.inl (by decide))] at this
    injection this with this
    have hk := congrArg TokB.kind this
    unfold nmTok nmK mkTok at hk
    simp only at hk
    split at hk <;> omega
  · rintro rfl
    have := hn [] trivial
    rw [List.append_nil, mark_next 125 r (Or.inl (by decide))] at this
    injection this with this
    have hk := congrArg TokB.kind this
    unfold nmTok nmK mkTok at hk
    simp only at hk
    split at hk <;> omega
theorem nmK_or (s : List UInt8) : nmK s = 1 ∨ nmK s = 2 := by unfold nmK; split <;> simp
theorem minus_no {q : TokP} {L : List TokP} {acc : List Int} (h : (hdL L).1.kind ≠ 4) : isMinusR q (headR (stW L acc)) = false := by
  rw [hd_st]
  unfold isMinusR
  have : ((hdL L).1.kind == 4) = false := beq_false_of_ne h
  rw [this]
  simp
/-- An atom. -/
theorem wrt_atom (hT : TabW pre bet) {s : ByteArray} (hm : (bl s).all mayQ = true) (hl : (bl s).length ≤ 64) :
    ∃ lv, lv ≤ levW pre bet (.mk 2 0 s []) ∧ Wrt pre bet vs (.mk 2 0 s []) lv (-1) (cloW (pre := pre) (bet := bet) (.mk 2 0 s [])) (begW (pre := pre) (bet := bet) (.mk 2 0 s [])) (quoteB (bl s)) := by
  have hlev : levW pre bet (.mk 2 0 s []) = max (pre (bl s)).1.l (bet (bl s)).1.l := rfl
  have hpl : 0 ≤ (pre (bl s)).1.l := by
    cases h : (pre (bl s)).2 with
    | true => have := (hT.pre1 _ h).2.2.1; omega
    | false => rw [hT.pre0 _ h]; exact Int.le_refl _
  have hbl : 0 ≤ (bet (bl s)).1.l := by
    cases h : (bet (bl s)).2 with
    | true => have := (hT.bet1 _ h).2.2.1; omega
    | false => rw [hT.bet0 _ h]; exact Int.le_refl _
  refine ⟨if nmK (bl s) = 2 then 0 else levW pre bet (.mk 2 0 s []), ?_, ?_⟩
  · split
    · rw [hlev]; omega
    · exact Int.le_refl _
  refine ⟨?_, fun p => ⟨(nmTok (bl s) false, p), [], pc_name hm hl p, rfl, fun hb => ?_, ?_⟩⟩
  · have := name_head hm hl []
    rwa [List.append_nil] at this
  · unfold beginsR
    rw [if_pos (show (nmTok (bl s) false, p).1.kind = 1 ∨ (nmTok (bl s) false, p).1.kind = 2 from nmK_or (bl s))]
    unfold begW cloW at hb
    simp only [Bool.not_eq_true', Bool.or_eq_false_iff] at hb
    have h0 : decide (0 < levW pre bet (.mk 2 0 s [])) = false := by
      have := hb.1
      show decide (0 < levW pre bet (.mk 2 0 s [])) = false
      simpa [Tm.args] using this
    rw [hlev] at h0
    have h0 : ¬ (0 < max (pre (bl s)).1.l (bet (bl s)).1.l) := of_decide_eq_false h0
    have hb2 : (bet (bl s)).2 = false := by
      cases h : (bet (bl s)).2 with
      | false => rfl
      | true => have := (hT.bet1 _ h).2.2.1; omega
    have : (betweenR bet (nmTok (bl s) false, p)).2 = false := by
      unfold betweenR
      split
      · exact hb2
      · rfl
    rw [this]
    simp
  · intro acc ha most hmo L hL hc
    rw [show varsT (.mk 2 0 s []) acc = acc by rw [varsT, if_neg (by decide), varsL], show renT vs (.mk 2 0 s []) = .mk 2 0 s [] by rw [renT, if_neg (by decide), renL]]
    have hp : primR pre bet (TERM pre bet) most (stW ([(nmTok (bl s) false, p)] ++ L) acc) = some ((.mk 2 0 s [], if nmK (bl s) = 2 then 0 else levW pre bet (.mk 2 0 s [])), stW L acc) := by
      unfold primR
      rw [head_st, drop_st, if_pos (show (nmTok (bl s) false, p).1.kind = 1 ∨ (nmTok (bl s) false, p).1.kind = 2 from nmK_or (bl s))]
      unfold namedR
      rw [List.nil_append, minus_no hL.1, if_neg (by simp), if_neg (by show ¬ (false = true); simp)]
      have ht : (nmTok (bl s) false, p).1.text = bl s := rfl
      have hkk : (nmTok (bl s) false, p).1.kind = nmK (bl s) := rfl
      rw [ht, hkk]
      by_cases h2 : nmK (bl s) = 2
      · rw [if_pos h2, if_pos h2]
        unfold aT
        rw [ba_bl]
      · rw [if_neg h2, if_neg h2]
        rw [if_neg h2] at hmo
        have hah : isAheadR pre bet (nmTok (bl s) false, p) most (stW L acc) = false := by
          unfold isAheadR
          rw [ht, hd_st]
          cases h : (pre (bl s)).2 with
          | false => rfl
          | true =>
            have hcl : cloW (pre := pre) (bet := bet) (.mk 2 0 s []) = true := by
              unfold cloW
              have := (hT.pre1 _ h).2.2.1
              show (true && decide (0 < max (pre (bl s)).1.l (bet (bl s)).1.l)) = true
              rw [Bool.true_and]
              exact decide_eq_true (by omega)
            have := hc hcl
            unfold ClosL at this
            rw [this]
            simp
        rw [hah, if_neg (by simp), if_pos (by rw [hlev] at hmo; exact hmo), hlev]
        unfold aT
        rw [ba_bl]
    rw [TERM_some hp]
/-- A number. -/
theorem wrt_num {n : Int} (hn : n.natAbs < 10000000000000000000000000) : Wrt pre bet vs (.mk 1 n ⟨#[]⟩ []) 0 (-1) false (!decide (n < 0)) (numW n) := by
  unfold numW
  by_cases h0 : n < 0
  · rw [if_pos h0]
    refine ⟨⟨45, _, rfl, by decide, by decide⟩, fun p => ⟨_, _, pc_neg hn p, rfl, fun hb => by simp [h0] at hb, ?_⟩⟩
    intro acc ha most hmo L hL hc
    rw [show varsT (.mk 1 n ⟨#[]⟩ []) acc = acc by rw [varsT, if_neg (by decide), varsL], show renT vs (.mk 1 n ⟨#[]⟩ []) = .mk 1 n ⟨#[]⟩ [] by rw [renT, if_neg (by decide), renL]]
    have hp : primR pre bet (TERM pre bet) most (stW ([(minTok, p), (numTok n.natAbs, p + 1)] ++ L) acc) = some ((.mk 1 n ⟨#[]⟩ [], 0), stW L acc) := by
      unfold primR
      rw [head_st, drop_st, if_pos (by exact Or.inl rfl)]
      unfold namedR
      rw [head_st, drop_st]
      have hmin : isMinusR (minTok, p) (numTok n.natAbs, p + 1) = true := by
        unfold isMinusR minTok numTok
        simp
      rw [if_pos hmin]
      have e : -(((numTok n.natAbs, p + 1) : TokP).1.n : Int) = n := by
        show -((n.natAbs : Nat) : Int) = n
        omega
      rw [e]
      rfl
    rw [TERM_some hp]
  · rw [if_neg h0]
    have hn' : n.toNat < 10000000000000000000000000 := by omega
    refine ⟨?_, fun p => ⟨_, _, pc_num hn' p, rfl, fun _ => rfl, ?_⟩⟩
    · obtain ⟨c, r, e, hc, _⟩ := dig_parts hn'
      refine ⟨c, r, e, ?_, ?_⟩
      · rintro rfl; revert hc; decide
      · rintro rfl; revert hc; decide
    · intro acc ha most hmo L hL hc
      rw [show varsT (.mk 1 n ⟨#[]⟩ []) acc = acc by rw [varsT, if_neg (by decide), varsL], show renT vs (.mk 1 n ⟨#[]⟩ []) = .mk 1 n ⟨#[]⟩ [] by rw [renT, if_neg (by decide), renL]]
      have hp : primR pre bet (TERM pre bet) most (stW ([(numTok n.toNat, p)] ++ L) acc) = some ((.mk 1 n ⟨#[]⟩ [], 0), stW L acc) := by
        unfold primR
        rw [head_st, drop_st, if_neg (by show ¬ ((4 : Nat) = 1 ∨ (4 : Nat) = 2); omega), if_neg (by show ¬ (4 : Nat) = 3; omega), if_pos (by rfl)]
        have e : (((numTok n.toNat, p) : TokP).1.n : Int) = n := by
          show ((n.toNat : Nat) : Int) = n
          omega
        rw [e]
        rfl
      rw [TERM_some hp]
/-- A variable. -/
theorem wrt_var {n : Int} {s : ByteArray} (hs : s = ⟨#[]⟩) (hv : vs.length < 10000000000000000000000000) (hn : n ∈ vs) : Wrt pre bet vs (.mk 0 n s []) 0 (-1) false true (95 :: numW (idxW vs n)) := by
  obtain ⟨i, h1, h2, h3⟩ := idx_nat hn
  have e : numW (idxW vs n) = digW i := by
    rw [h2]
    unfold numW
    rw [if_neg (by omega)]
    simp
  rw [e]
  refine ⟨⟨95, _, rfl, by decide, by decide⟩, fun p => ⟨_, _, pc_var (by omega) p, rfl, fun _ => rfl, ?_⟩⟩
  intro acc ha most hmo L hL hc
  obtain ⟨j, g1, g2, g3⟩ := var_reads ha hv L
  have hij : i = j := by rw [h2] at g1; omega
  subst hij
  rw [renT, if_pos rfl, renL, g1]
  have hp : primR pre bet (TERM pre bet) most (stW ([(varTok i, p)] ++ L) acc) = some ((.mk 0 (i : Nat) s [], 0), stW L (varsT (.mk 0 n s []) acc)) := by
    unfold primR
    rw [head_st, drop_st, if_neg (by show ¬ ((3 : Nat) = 1 ∨ (3 : Nat) = 2); omega), if_pos (by rfl)]
    have ht : ((varTok i, p) : TokP).1.text = 95 :: digW i := rfl
    rw [ht, List.nil_append, g3, hs]
    rfl
  rw [TERM_some hp]
end
end Go.Proofs.YtljgkfdnmikpfaaGreatDoor
/- What is written is read as it was: lists, operators; every term. Pure. -/
namespace Go.Proofs.YtljgkfdnmikpfaaGreatDoor
open Go.RowKit
set_option linter.unusedVariables false

section
variable {pre bet : List UInt8 → O × Bool} {vs : List Int}
theorem app_row (A t L : List TokP) (q : TokP) : A ++ q :: t ++ L = A ++ q :: (t ++ L) := by rw [List.append_assoc]; rfl
theorem nil_ren : renT vs (aT [91, 93]) = aT [91, 93] := by unfold aT; rw [renT, if_neg (by decide), renL]
theorem nil_vars (acc : List Int) : varsT (aT [91, 93]) acc = acc := by unfold aT; rw [varsT, if_neg (by decide), varsL]
/-- A list. -/
theorem wrt_list (hT : TabW pre bet) {W : Tm → List UInt8} {l : List Tm} {t : Tm} (hne : l ≠ []) (h : RowOK pre bet vs W l) (ht : nilW t = false → ∃ lv rb clo beg, lv ≤ 999 ∧ rb ≤ 999 ∧ Wrt pre bet vs t lv rb clo beg (W t)) :
    Wrt pre bet vs (listT l t) 0 (-1) false true (91 :: (rowW W l ++ ((if nilW t then [] else 124 :: W t) ++ [93]))) := by
  obtain ⟨⟨c, r, e1, n1, n2⟩, hrow⟩ := row_wrt hT hne h
  refine ⟨⟨91, _, rfl, by decide, by decide⟩, fun p => ?_⟩
  obtain ⟨tr, k1, k2⟩ := hrow (p + 1)
  have hopen : ∀ X : List UInt8, (rowW W l ++ X).head? ≠ some 93 := fun X => by rw [e1]; simpa using n1
  have hne2 : ∀ X : List UInt8, rowW W l ++ X ≠ [] := fun X => by rw [e1]; simp
  cases hn : nilW t with
  | true =>
    have he : t = aT [91, 93] := (same_iff _ _).1 hn
    subst he
    rw [if_pos rfl, List.nil_append]
    refine ⟨_, _, pc_mark (hne2 _) (Or.inr (Or.inl ⟨rfl, hopen _⟩)) (pc_close (Or.inr (Or.inl rfl)) k1), rfl, fun _ => rfl, ?_⟩
    intro acc ha most hmo L hL hc
    rw [vars_list, nil_vars] at ha ⊢
    rw [ren_list, nil_ren]
    generalize openB (rowW W l ++ [93]) = o1
    have hit := k2 acc ha ((mkTok 93 false, p + 1 + (rowW W l).length) :: L) (end_mark (Or.inr (Or.inl rfl)))
    have hp : primR pre bet (TERM pre bet) most (stW ((mkTok 91 o1, p) :: (tr ++ [(mkTok 93 false, p + 1 + (rowW W l).length)]) ++ L) acc) = some ((listT (renL vs l) (aT [91, 93]), 0), stW L (varsL l acc)) := by
      unfold primR
      rw [head_st, drop_st]
      rw [if_neg (by show ¬ ((5 : Nat) = 1 ∨ (5 : Nat) = 2); omega), if_neg (by show ¬ (5 : Nat) = 3; omega), if_neg (by show ¬ (5 : Nat) = 4; omega), if_pos (by rfl)]
      show zeroR (bracketR (TERM pre bet) [91] _) = _
      unfold bracketR
      rw [if_neg (by decide), if_neg (by decide), if_pos rfl, rowR_eq, app_row, List.nil_append, hit]
      simp only
      unfold tailR
      rw [takes_no (by rfl)]
      simp only
      rw [takes_yes]
      rfl
    rw [TERM_some hp]
  | false =>
    obtain ⟨lv, rb, clo, beg, h1, h2, hw⟩ := ht hn
    obtain ⟨hd, tl, g1, g2, g3, g4⟩ := hw.toks (p + 1 + (rowW W l).length + 1)
    rw [if_neg (by simp)]
    rw [show (124 :: W t) ++ [93] = 124 :: (W t ++ [93]) from rfl]
    have hneW := hw.ne
    refine ⟨_, _, pc_mark (hne2 _) (Or.inr (Or.inl ⟨rfl, hopen _⟩)) (pc_comma (Or.inr rfl) (by simp) k1 (pc_close (Or.inr (Or.inl rfl)) g1)), rfl, fun _ => rfl, ?_⟩
    intro acc ha most hmo L hL hc
    rw [vars_list] at ha ⊢
    rw [ren_list]
    generalize openB (rowW W l ++ 124 :: (W t ++ [93])) = o1
    generalize openB (W t ++ [93]) = o2
    generalize p + 1 + (rowW W l).length + 1 + (W t).length = p3
    generalize p + 1 + (rowW W l).length = p2 at *
    have hit := k2 acc ((vars_pre t _).trans ha) ((mkTok 124 o2, p2) :: ((hd :: tl) ++ [(mkTok 93 false, p3)] ++ L)) (end_mark (Or.inr (Or.inr (Or.inr rfl))))
    obtain ⟨m1, m2⟩ := mark_close (pre := pre) (bet := bet) (c := 93) (o := false) (p := p3) (L := L) (Or.inr (Or.inl rfl)) 999
    have hr := g4 (varsL l acc) ha 999 h1 ((mkTok 93 false, p3) :: L) (m1.le h2) (fun _ => m2)
    rw [fol_stop m1] at hr
    have hp : primR pre bet (TERM pre bet) most (stW ((mkTok 91 o1, p) :: (tr ++ (mkTok 124 o2, p2) :: ((hd :: tl) ++ [(mkTok 93 false, p3)])) ++ L) acc) = some ((listT (renL vs l) (renT vs t), 0), stW L (varsT t (varsL l acc))) := by
      unfold primR
      rw [head_st, drop_st]
      rw [if_neg (by show ¬ ((5 : Nat) = 1 ∨ (5 : Nat) = 2); omega), if_neg (by show ¬ (5 : Nat) = 3; omega), if_neg (by show ¬ (5 : Nat) = 4; omega), if_pos (by rfl)]
      show zeroR (bracketR (TERM pre bet) [91] _) = _
      unfold bracketR
      rw [if_neg (by decide), if_neg (by decide), if_pos rfl, rowR_eq, app_row, hit]
      simp only
      unfold tailR
      rw [takes_yes]
      simp only
      rw [app_row, List.nil_append, hr]
      simp only
      rw [takes_yes]
      rfl
    rw [TERM_some hp]
/-- A term in braces. -/
theorem wrt_curly {x : Tm} {lv rb : Int} {clo beg : Bool} {b : List UInt8} {s : ByteArray} (hs : bl s = [123, 125]) (h : Wrt pre bet vs x lv rb clo beg b) (hl : lv ≤ 1200) : Wrt pre bet vs (.mk 2 0 s [x]) 0 (-1) false true (123 :: (b ++ [125])) where
  head := ⟨123, _, rfl, by decide, by decide⟩
  toks := fun p => by
    obtain ⟨hd, tl, h1, h2, h3, h4⟩ := h.toks (p + 1)
    obtain ⟨c, r, e, n1, n2⟩ := h.head
    refine ⟨(mkTok 123 (openB (b ++ [125])), p), (hd :: tl) ++ [(mkTok 125 false, p + 1 + b.length)], ?_, rfl, fun _ => rfl, ?_⟩
    · exact pc_mark (by simp) (Or.inr (Or.inr ⟨rfl, by rw [e]; simpa using n2⟩)) (pc_close (Or.inr (Or.inr rfl)) h1)
    · intro acc ha most hm L hL hc
      rw [varsT, if_neg (by decide), varsL, varsL] at ha ⊢
      rw [renT, if_neg (by decide), renL, renL]
      obtain ⟨g1, g2⟩ := mark_close (pre := pre) (bet := bet) (o := false) (p := p + 1 + b.length) (L := L) (c := 125) (Or.inr (Or.inr (Or.inl rfl))) 1200
      have hr := h4 acc ha 1200 hl ((mkTok 125 false, p + 1 + b.length) :: L) (mark_close (pre := pre) (Or.inr (Or.inr (Or.inl rfl))) rb).1 (fun _ => g2)
      rw [fol_stop g1] at hr
      have hp : primR pre bet (TERM pre bet) most (stW ((mkTok 123 (openB (b ++ [125])), p) :: ((hd :: tl) ++ [(mkTok 125 false, p + 1 + b.length)]) ++ L) acc) = some ((.mk 2 0 s [renT vs x], 0), stW L (varsT x acc)) := by
        unfold primR
        rw [head_st, drop_st]
        rw [if_neg (by show ¬ ((5 : Nat) = 1 ∨ (5 : Nat) = 2); omega), if_neg (by show ¬ (5 : Nat) = 3; omega), if_neg (by show ¬ (5 : Nat) = 4; omega), if_pos (by rfl)]
        show zeroR (bracketR (TERM pre bet) [123] _) = _
        unfold bracketR
        rw [if_neg (by decide), if_pos rfl]
        unfold closedR
        rw [app_row, List.nil_append, hr]
        simp only
        rw [takes_yes]
        simp only
        unfold zeroR
        rw [show ba [123, 125] = s by rw [← hs, ba_bl]]
      rw [TERM_some hp]
/-- By an operator ahead. -/
theorem wrt_ahead (hT : TabW pre bet) {s : ByteArray} {a : Tm} {lv rb : Int} {b : List UInt8} (hm : (bl s).all mayQ = true) (hl : (bl s).length ≤ 64) (ho : (pre (bl s)).2 = true) (hp : plainB (bl s) = true)
    (hlv : lv ≤ (sidesB (bl (pre (bl s)).1.k) (pre (bl s)).1.l).2) (hrb : rb ≤ (sidesB (bl (pre (bl s)).1.k) (pre (bl s)).1.l).2) (h : Wrt pre bet vs a lv rb false true b) :
    Wrt pre bet vs (.mk 2 0 s [a]) (pre (bl s)).1.l (sidesB (bl (pre (bl s)).1.k) (pre (bl s)).1.l).2 false true (quoteB (bl s) ++ 32 :: b) where
  head := name_head hm hl _
  toks := fun p => by
    obtain ⟨hd, tl, g1, g2, g3, g4⟩ := h.toks (p + (quoteB (bl s)).length + 1)
    have hk : nmK (bl s) = 1 := by unfold nmK; rw [if_pos hp]
    have hkk : (nmTok (bl s) false, p).1.kind = 1 := hk
    have hlen : 1 ≤ (quoteB (bl s)).length := by
      obtain ⟨c, r, e, _⟩ := name_next hm hl
      rw [e]; simp
    refine ⟨(nmTok (bl s) false, p), hd :: tl, pc_ahead hm hl g1, rfl, fun _ => ?_, ?_⟩
    · unfold beginsR
      rw [if_pos (by exact Or.inl hkk)]
      show (false || ((pre (bl s)).2 || _)) = true
      rw [ho]; rfl
    · intro acc ha most hmo L hL hc
      rw [varsT, if_neg (by decide), varsL, varsL] at ha ⊢
      rw [renT, if_neg (by decide), renL, renL]
      have hr := g4 acc ha _ hlv L (hL.le hrb) (fun h => by cases h)
      rw [fol_stop hL] at hr
      have hpr : primR pre bet (TERM pre bet) most (stW ((nmTok (bl s) false, p) :: (hd :: tl) ++ L) acc) = some ((.mk 2 0 s [renT vs a], (pre (bl s)).1.l), stW L (varsT a acc)) := by
        unfold primR
        rw [head_st, drop_st, if_pos (by exact Or.inl hkk)]
        unfold namedR
        rw [head_st]
        have hmin : isMinusR (nmTok (bl s) false, p) hd = false := by
          unfold isMinusR
          have : ((hd.2 : Int) == (((nmTok (bl s) false, p) : TokP).2 : Int) + 1) = false := beq_false_of_ne (by
            rw [g2]
            show ((p + (quoteB (bl s)).length + 1 : Nat) : Int) ≠ (p : Int) + 1
            omega)
          rw [this]
          simp
        rw [hmin, if_neg (by simp), if_neg (by show ¬ (false = true); simp), if_neg (by rw [hkk]; decide)]
        have hah : isAheadR pre bet (nmTok (bl s) false, p) most (stW (hd :: tl ++ L) acc) = true := by
          unfold isAheadR
          rw [head_st, g3 rfl]
          show ((pre (bl s)).2 && (decide ((pre (bl s)).1.l ≤ most) && true)) = true
          rw [ho, decide_eq_true hmo]
          rfl
        rw [hah, if_pos rfl]
        show aheadR (TERM pre bet) (bl s) (pre (bl s)).1 _ = _
        unfold aheadR
        rw [hr]
        simp only
        rw [ba_bl]
      rw [TERM_some hpr]
/-- By an operator between. -/
theorem wrt_between (hT : TabW pre bet) {s : ByteArray} {a c : Tm} {lva rba lvc rbc : Int} {ta tc : List UInt8} (hm : (bl s).all mayQ = true) (hl : (bl s).length ≤ 64) (ho : (bet (bl s)).2 = true)
    (hlva : lva ≤ (sidesB (bl (bet (bl s)).1.k) (bet (bl s)).1.l).1) (hlva2 : lva ≤ (bet (bl s)).1.l) (hrba : rba < (bet (bl s)).1.l) (ha : Wrt pre bet vs a lva rba false true ta)
    (hlvc : lvc ≤ (sidesB (bl (bet (bl s)).1.k) (bet (bl s)).1.l).2) (hrbc : rbc ≤ (sidesB (bl (bet (bl s)).1.k) (bet (bl s)).1.l).2) (hc : Wrt pre bet vs c lvc rbc false true tc) :
    Wrt pre bet vs (.mk 2 0 s [a, c]) (bet (bl s)).1.l (sidesB (bl (bet (bl s)).1.k) (bet (bl s)).1.l).2 false true (ta ++ ((if bl s == [44] then [44] else 32 :: (quoteB (bl s) ++ [32])) ++ tc)) := by
  have hb := hT.bet1 _ ho
  obtain ⟨c0, r0, e0, n1, n2⟩ := ha.head
  refine ⟨⟨c0, _, by rw [e0]; rfl, n1, n2⟩, fun p => ?_⟩
  obtain ⟨hd, tl, g1, g2, g3, g4⟩ := ha.toks p
  -- what is read, whatever the operator's token
  have key : ∀ (q hc' : TokP) (tc' : List TokP), opKind q = true → q.1.text = bl s → q.1.kind ≠ 4 → Reads pre bet vs c lvc rbc false (hc' :: tc') → Reads pre bet vs (.mk 2 0 s [a, c]) (bet (bl s)).1.l (sidesB (bl (bet (bl s)).1.k) (bet (bl s)).1.l).2 false ((hd :: tl) ++ q :: (hc' :: tc')) := by
    intro q hc' tc' hq hqt hqk hrc acc hac most hmo L hL hcl
    rw [varsT, if_neg (by decide), varsL, varsL, varsL] at hac ⊢
    rw [renT, if_neg (by decide), renL, renL, renL, app_row]
    have hbq : betweenR bet q = bet (bl s) := by unfold betweenR; rw [if_pos hq, hqt]
    have hfol : FolL bet rba (q :: (hc' :: tc' ++ L)) := ⟨hqk, Or.inr (by show (betweenR bet q).1.l > rba; rw [hbq]; omega)⟩
    have h1 := g4 acc ((vars_pre c _).trans hac) most (by omega) (q :: (hc' :: tc' ++ L)) hfol (fun h => by cases h)
    have h2 := hrc (varsT a acc) hac _ hlvc L (hL.le hrbc) (fun h => by cases h)
    rw [fol_stop hL] at h2
    have hst : ¬ stopR bet most (renT vs a, lva) (stW (q :: (hc' :: tc' ++ L)) (varsT a acc)) := by
      unfold stopR
      rw [show headR (stW (q :: (hc' :: tc' ++ L)) (varsT a acc)) = q from rfl, hbq, ho]
      rintro (h | h | h)
      · cases h
      · omega
      · omega
    have h3 := LOOP_some (pre := pre) hst (by rw [show headR (stW (q :: (hc' :: tc' ++ L)) (varsT a acc)) = q from rfl, hbq]; exact h2)
    rw [show headR (stW (q :: (hc' :: tc' ++ L)) (varsT a acc)) = q from rfl, hbq] at h3
    rw [h1, h3.1]
    have hn : (bet (bl s)).1.n = s := by rw [← ba_bl (bet (bl s)).1.n, hb.1, ba_bl]
    rw [hn]
  by_cases h44 : (bl s == [44]) = true
  · have e44 : bl s = [44] := by simpa using h44
    rw [if_pos h44]
    obtain ⟨hc', tc', k1, k2, k3, k4⟩ := hc.toks (p + ta.length + 1)
    refine ⟨hd, tl ++ (mkTok 44 (openB tc), p + ta.length) :: (hc' :: tc'), ?_, g2, fun _ => g3 rfl, ?_⟩
    · exact pc_comma (Or.inl rfl) hc.ne g1 k1
    · exact key (mkTok 44 (openB tc), p + ta.length) hc' tc' (by show (_ || (_ || ((5 : Nat) == 5 && ([44] : List UInt8) == [44]))) = true; simp) e44.symm (by show (5 : Nat) ≠ 4; omega) k4
  · rw [if_neg h44]
    obtain ⟨hc', tc', k1, k2, k3, k4⟩ := hc.toks (p + ta.length + 1 + (quoteB (bl s)).length + 1)
    refine ⟨hd, tl ++ (nmTok (bl s) false, p + ta.length + 1) :: (hc' :: tc'), ?_, g2, fun _ => g3 rfl, ?_⟩
    · have := pc_between hm hl g1 k1
      rw [show (32 :: (quoteB (bl s) ++ [32])) ++ tc = 32 :: (quoteB (bl s) ++ 32 :: tc) by simp]
      exact this
    · refine key (nmTok (bl s) false, p + ta.length + 1) hc' tc' ?_ rfl ?_ k4
      · show (nmK (bl s) == 1 || (nmK (bl s) == 2 || _)) = true
        rcases nmK_or (bl s) with h | h <;> rw [h] <;> rfl
      · show nmK (bl s) ≠ 4
        rcases nmK_or (bl s) with h | h <;> omega
end
end Go.Proofs.YtljgkfdnmikpfaaGreatDoor
/- The project's reader: next, take, takes. -/
namespace Go.Proofs.YtljgkfdnmikpfaaGreatDoor
open Go.RowKit
set_option linter.unusedVariables false

theorem far_cell {w : World} {b j c k : Nat} {u : Value} (hne : b ≠ c) : (w.setCell ⟨c, k, none⟩ u).cell? ⟨b, j, none⟩ = w.cell? ⟨b, j, none⟩ := by
  rw [World.cell?_setCell_other]
  intro e; injection e with e _ _; exact hne e.symm
theorem near_cell {w : World} {rb j k : Nat} {u : Value} (hk : j ≠ k) : (w.setCell ⟨rb, k, none⟩ u).cell? ⟨rb, j, none⟩ = w.cell? ⟨rb, j, none⟩ := by
  rw [World.cell?_setCell_other]
  intro e; injection e with _ e _; exact hk e.symm
theorem bel5 {w w1 : World} (h : Below w.heap.size w w1) {b : Nat} (hb : w.heap.size ≤ b) (u0 u1 u2 u3 u4 : Value) : Below w.heap.size w (((((w1.setCell ⟨b, 0, none⟩ u0).setCell ⟨b, 1, none⟩ u1).setCell ⟨b, 2, none⟩ u2).setCell ⟨b, 3, none⟩ u3).setCell ⟨b, 4, none⟩ u4) :=
  (((((h).setCell (p := ⟨b, 0, none⟩) hb _).setCell (p := ⟨b, 1, none⟩) hb _).setCell (p := ⟨b, 2, none⟩) hb _).setCell (p := ⟨b, 3, none⟩) hb _).setCell (p := ⟨b, 4, none⟩) hb _
set_option maxHeartbeats 1000000 in
theorem next_at {D M : Nat → Bool} {w : World} {rb : Nat} {xs : List O} {s : RS} (h : St D M w rb xs s) :
    Calls Tryz.prog 111 #[.pointer (some ⟨rb, 0, none⟩)] w fun e w' => e = .returned (tkVal (headR s)) ∧ Below w.heap.size w w' := by
  obtain ⟨w1, hw1, hb1, hz1, hx1⟩ := box_new w #[.int .i64 0, .string ⟨#[]⟩, .int .i64 0, .bool false, .int .i64 0] 52
  obtain ⟨r0, r1, r2, r3, r4, rf⟩ := hx1.five
  obtain ⟨_, vl, _, _, l1, _, _, _, _, l2, _⟩ := (h.later hb1).parts
  have l2 : Toks w1 vl s.rest := Elems.stay l2 (Stays.unhide D w1)
  cases hr : s.rest with
  | nil =>
    rw [hr] at l2
    obtain ⟨a, c, rfl, hc⟩ := toks_none l2
    rw [show headR s = zTok by unfold headR; rw [hr]; rfl]
    clear l2 hr h
    go_enter Tryz.func111, Tryz.ntmps111
    go_wp2_with fail
    (try rw [hw1])
    clear hw1
    go_wp2
    refine bodyPost_ret (v := tkVal zTok) (by rw [results_cell1 rfl]; go_simp; (try simp [zTok])) rfl ⟨rfl, ?_⟩
    exact bel5 hb1 (Nat.le_refl _) _ _ _ _ _
  | cons x r =>
    rw [hr] at l2
    obtain ⟨b, off, c, rfl, h1, h2, hb, _, d0, d1, d2, d3, d4⟩ := take_rest l2
    rw [show headR s = x by unfold headR; rw [hr]; rfl]
    unfold maxLen at h2
    obtain ⟨n, hn⟩ : ∃ n, r.length = n := ⟨_, rfl⟩
    rw [hn] at l1 h1
    clear l2 hr h hn
    have hn0 : ((n : Int) + 1 == 0) = false := beq_false_of_ne (by omega)
    go_enter Tryz.func111, Tryz.ntmps111
    go_wp2_with fail
    (try rw [hw1])
    clear hw1
    go_wp2
    refine bodyPost_ret (v := tkVal x) (by rw [results_cell1 rfl]; go_simp) rfl ⟨rfl, ?_⟩
    exact bel5 hb1 (Nat.le_refl _) _ _ _ _ _
/-- What a call that reads leaves. -/
def TakeSt (D M : Nat → Bool) (w w' : World) (rb : Nat) (xs : List O) (s : RS) : Prop := St D M w' rb xs s ∧ Turn D M D M w w'
theorem St.pass {D M : Nat → Bool} {w : World} {rb : Nat} {xs : List O} {s : RS} {vl : Value} (h : St D M w rb xs s) (hv : Toks (hide D w) vl (dropR s).rest) : St D M (w.setCell ⟨rb, 1, none⟩ vl) rb xs (dropR s) := by
  have hs : Stays (hide D w) (hide D (w.setCell ⟨rb, 1, none⟩ vl)) := Stays.set _ _ (h.md rb h.mb)
  obtain ⟨vo, o1, o2⟩ := h.co
  obtain ⟨vl0, l1, l2⟩ := h.cl
  obtain ⟨vn, n1, n2, n3⟩ := h.c3
  exact { mb := h.mb, md := h.md, old := h.old.mono (by simp [World.setCell])
          co := ⟨vo, by rw [near_cell (by decide)]; exact o1, Elems.stay o2 hs⟩
          cl := ⟨vl, css l1, Elems.stay hv hs⟩
          c2 := by rw [near_cell (by decide)]; exact h.c2
          c3 := ⟨vn, by rw [near_cell (by decide)]; exact n1, row_at n2 (fun g hg => Below.heap_setCell w _ _ g (fun e => by have := (row_in n2 hg).1; simp only at e; omega)), n3⟩
          fz := fun j => by rw [World.frozen?_setCell]; exact h.fz j
          nice := h.nice.drop }
set_option maxHeartbeats 1000000 in
theorem take_at {D M : Nat → Bool} {w : World} {rb : Nat} {xs : List O} {s : RS} (h : St D M w rb xs s) :
    Calls Tryz.prog 73 #[.pointer (some ⟨rb, 0, none⟩)] w fun e w' => e = .returned (tkVal (headR s)) ∧ TakeSt D M w w' rb xs (dropR s) := by
  have HN := Lib.hid (fun wq hq => next_at (h.later (w' := wq) hq))
  obtain ⟨q, hq⟩ : ∃ q, headR s = q := ⟨_, rfl⟩
  rw [hq] at HN ⊢
  obtain ⟨w1, hw1, hb1, hz1, hx1⟩ := box_new w #[.int .i64 0, .string ⟨#[]⟩, .int .i64 0, .bool false, .int .i64 0] 52
  have hlt := h.lt
  have H := Lib.hid h
  have HD : Hid (∀ s', dropR s = s' → _) := Lib.hid (fun s' (e : dropR s = s') => e)
  obtain ⟨s', hs'⟩ : ∃ s', dropR s = s' := ⟨_, rfl⟩
  rw [hs']
  have HS' := Lib.hid hs'
  clear h hq hs' HD
  go_enter Tryz.func73, Tryz.ntmps73
  go_wp2_with fail
  (try rw [hw1])
  clear hw1
  (go_wp2_with fail; go_fit (HN.out _ hb1); rintro e w2 ⟨rfl, hb2⟩)
  obtain ⟨w3, hw3, hb3, hz3, hx3⟩ := box_new w2 #[.int .i64 (q.1.kind : Int), .string ⟨q.1.text.toArray⟩, .int .i64 (q.1.n : Int), .bool q.1.opens, .int .i64 (q.2 : Int)] 52
  obtain ⟨r0, r1, r2, r3, r4, rf⟩ := ((hx1.ext hb2).ext hb3).five
  obtain ⟨d0, d1, d2, d3, d4, df⟩ := hx3.five
  have HB3 := Lib.hid (Ext.trans' (Ext.trans' hb1 hb2) hb3)
  have hsz := hb2.size
  have hne : rb ≠ w.heap.size := by omega
  have hne2 : rb ≠ w2.heap.size := by omega
  have hne3 : w.heap.size ≠ w2.heap.size := by omega
  have HX := Lib.hid ((hx1.ext hb2).ext hb3)
  obtain ⟨_, vl, _, _, l1, _, _, hf, _, l2, _⟩ := (H.out.box HB3.out (Nat.le_refl _) HX.out.lt).parts
  clear hb1 hb2 hb3 HN hx1 hx3
  cases hr : s.rest with
  | nil =>
    have e : s' = s := by rw [← HS'.out]; unfold dropR; rw [hr]; cases s; simp only at hr; subst hr; rfl
    rw [hr] at l2
    obtain ⟨a, c, rfl, hc⟩ := toks_none l2
    have HE := Lib.hid e
    clear l2 hr e
    go_wp2_with fail
    (try rw [hw3])
    clear hw3
    go_wp2
    have hB := bel5 HB3.out (Nat.le_refl w.heap.size) (.int .i64 (q.1.kind : Int)) (.string ⟨q.1.text.toArray⟩) (.int .i64 (q.1.n : Int)) (.bool q.1.opens) (.int .i64 (q.2 : Int))
    refine bodyPost_ret (v := tkVal q) (by rw [results_cell1 rfl]; go_simp) rfl ⟨rfl, ?_⟩
    rw [HE.out]
    exact ⟨H.out.later hB, Turn.below hB⟩
  | cons x r =>
    rw [hr] at l2
    obtain ⟨b, off, c, rfl, h1, h2, hb, ht, _⟩ := take_rest l2
    have HT := Lib.hid ht
    have hrr : (dropR s).rest = r := by unfold dropR; rw [hr]; rfl
    have HR := Lib.hid hrr
    unfold maxLen at h2
    obtain ⟨n, hn⟩ : ∃ n, r.length = n := ⟨_, rfl⟩
    rw [hn] at l1 h1 HT
    have hB : M w.heap.size = false := Old.out H.out (Nat.le_refl _)
    have HF := Lib.hid (fun (vl' : Value) (hv : Toks (hide (plusB D w.heap.size) w3) vl' r) => (((H.out.box HB3.out (Nat.le_refl _) HX.out.lt).pass (vl := vl') (by rw [hrr]; exact hv)).put5 (plusB_self D _) hB (.int .i64 (q.1.kind : Int)) (.string ⟨q.1.text.toArray⟩) (.int .i64 (q.1.n : Int)) (.bool q.1.opens) (.int .i64 (q.2 : Int))).unbox H.out.md)
    have HT2 := Lib.hid (fun (vl' : Value) => ((Turn.below (D := D) (M := M) HB3.out).set ⟨rb, 1, none⟩ vl' (Or.inr H.out.mb)).set5 (b := w.heap.size) (Or.inl (Nat.le_refl _)) (.int .i64 (q.1.kind : Int)) (.string ⟨q.1.text.toArray⟩) (.int .i64 (q.1.n : Int)) (.bool q.1.opens) (.int .i64 (q.2 : Int)))
    have HO := Lib.hid (fun (vl' : Value) => H.out.old.mono (HT2.out vl').size)
    have HLR := Lib.hid hn
    clear l2 hr hn ht hrr HR
    by_cases hc1 : c = 1
    · subst hc1
      obtain rfl : n = 0 := by omega
      have HNil : Hid (Toks (hide (plusB D w.heap.size) w3) (.slice (some ⟨b, off, none⟩) 0 0) r) := Lib.hid (by
        have hr0 : r = [] := List.length_eq_zero_iff.1 HLR.out
        subst hr0
        exact ⟨_, 0, rfl, Nat.zero_le _, Nat.zero_le _, Or.inl rfl⟩)
      go_wp2_with fail
      (try rw [hw3])
      clear hw3
      go_wp2
      refine bodyPost_ret (v := tkVal q) (by rw [results_cell1 rfl]; go_simp) rfl ⟨rfl, ?_⟩
      rw [← HS'.out]
      exact ⟨HF.out _ HNil.out (HO.out _), HT2.out _⟩
    · go_wp2_with fail
      (try rw [hw3])
      clear hw3
      go_wp2
      refine bodyPost_ret (v := tkVal q) (by rw [results_cell1 rfl]; go_simp) rfl ⟨rfl, ?_⟩
      rw [← HS'.out]
      exact ⟨HF.out _ HT.out (HO.out _), HT2.out _⟩
def takesS (t : List UInt8) (s : RS) : RS := if isMark t (headR s) then dropR s else s
theorem takesR_yes {t : List UInt8} {s : RS} (h : isMark t (headR s) = true) : takesR t s = some (takesS t s) := by
  unfold takesR takesS
  rw [if_pos h, if_pos h]
theorem takesR_no {t : List UInt8} {s : RS} (h : isMark t (headR s) = false) : takesR t s = none ∧ takesS t s = s := by
  unfold takesR takesS
  rw [h]
  exact ⟨rfl, rfl⟩
set_option maxHeartbeats 1000000 in
theorem takes_at {D M : Nat → Bool} {w : World} {rb : Nat} {xs : List O} {s : RS} (h : St D M w rb xs s) (t : List UInt8) :
    Calls Tryz.prog 173 #[.pointer (some ⟨rb, 0, none⟩), .string ⟨t.toArray⟩] w fun e w' => e = .returned (.bool (isMark t (headR s))) ∧ TakeSt D M w w' rb xs (takesS t s) := by
  have HN := Lib.hid (next_at h)
  have HTk := Lib.hid (fun wq (hq : Below w.heap.size w wq) => take_at (h.later (w' := wq) hq))
  obtain ⟨q, hq⟩ : ∃ q, headR s = q := ⟨_, rfl⟩
  have HQ := Lib.hid hq
  rw [hq] at HN HTk ⊢
  obtain ⟨sd, hsd⟩ : ∃ sd, takesS t s = sd := ⟨_, rfl⟩
  have HSD := Lib.hid hsd
  have H := Lib.hid h
  obtain ⟨m, hm⟩ : ∃ m, isMark t q = m := ⟨_, rfl⟩
  have HM := Lib.hid hm
  rw [hsd, hm]
  clear h hq hsd hm
  go_enter Tryz.func173, Tryz.ntmps173
  (go_wp2_with fail; go_fit (HN.out); rintro e w2 ⟨rfl, hb2⟩)
  obtain ⟨w3, hw3, hb3, hz3, hx3⟩ := box_new w2 #[.int .i64 (q.1.kind : Int), .string ⟨q.1.text.toArray⟩, .int .i64 (q.1.n : Int), .bool q.1.opens, .int .i64 (q.2 : Int)] 52
  obtain ⟨d0, d1, d2, d3, d4, df⟩ := hx3.five
  have HB3 := Lib.hid (Ext.trans' hb2 hb3)
  clear hb2 hb3 hx3
  by_cases hk : q.1.kind = 5
  · by_cases ht : q.1.text = t
    · have hm : isMark t q = true := by unfold isMark; rw [hk, ht]; simp
      have HE : Hid (sd = dropR s) := Lib.hid (by rw [← HSD.out]; unfold takesS; rw [HQ.out, if_pos hm])
      obtain rfl : m = true := HM.out.symm.trans hm
      have hk' : ((q.1.kind : Int) == 5) = true := by rw [hk]; rfl
      have ht' : (q.1.text == t) = true := by rw [ht]; exact beq_self_eq_true _
      clear hk ht hm
      go_wp2_with fail
      (try rw [hw3])
      clear hw3
      (go_wp2_with fail; go_fit (HTk.out _ HB3.out); rintro e w4 ⟨rfl, h4⟩)
      go_wp2
      go_ret
      rw [HE.out]
      exact ⟨rfl, h4.1, (Turn.below HB3.out).trans h4.2⟩
    · have hm : isMark t q = false := by unfold isMark; rw [hk]; simp [ht]
      have HE : Hid (sd = s) := Lib.hid (by rw [← HSD.out]; unfold takesS; rw [HQ.out, hm]; rfl)
      obtain rfl : m = false := HM.out.symm.trans hm
      have hk' : ((q.1.kind : Int) == 5) = true := by rw [hk]; rfl
      have ht' : (q.1.text == t) = false := beq_false_of_ne ht
      clear hk ht hm
      go_wp2_with fail
      (try rw [hw3])
      clear hw3
      go_wp2
      go_ret
      rw [HE.out]
      exact ⟨rfl, H.out.later HB3.out, Turn.below HB3.out⟩
  · have hm : isMark t q = false := by unfold isMark; simp [hk]
    have HE : Hid (sd = s) := Lib.hid (by rw [← HSD.out]; unfold takesS; rw [HQ.out, hm]; rfl)
    obtain rfl : m = false := HM.out.symm.trans hm
    have hk' : ((q.1.kind : Int) == 5) = false := beq_false_of_ne (by omega)
    clear hk hm
    go_wp2_with fail
    (try rw [hw3])
    clear hw3
    go_wp2
    go_ret
    rw [HE.out]
    exact ⟨rfl, H.out.later HB3.out, Turn.below HB3.out⟩
end Go.Proofs.YtljgkfdnmikpfaaGreatDoor
/- The project's reader: between. -/
namespace Go.Proofs.YtljgkfdnmikpfaaGreatDoor
open Go.RowKit
set_option linter.unusedVariables false

theorem Below.set3 {B : Nat} {w w' : World} (h : Below B w w') {b : Nat} (hb : B ≤ b) (u0 u1 u2 : Value) : Below B w (Go.Proofs.YtljgkfdnmikpfaaGreatDoor.set3 w' b u0 u1 u2) :=
  ((h.setCell (p := ⟨b, 0, none⟩) hb _).setCell (p := ⟨b, 1, none⟩) hb _).setCell (p := ⟨b, 2, none⟩) hb _
theorem Below.set4 {B : Nat} {w w' : World} (h : Below B w w') {b : Nat} (hb : B ≤ b) (u0 u1 u2 u3 : Value) : Below B w (Go.Proofs.YtljgkfdnmikpfaaGreatDoor.set4 w' b u0 u1 u2 u3) :=
  (Below.set3 h hb u0 u1 u2).setCell (p := ⟨b, 3, none⟩) hb _
theorem far3 {w : World} {b j c : Nat} {v : Value} (h : w.cell? ⟨b, j, none⟩ = some v) (hne : b ≠ c) (u0 u1 u2 : Value) : (set3 w c u0 u1 u2).cell? ⟨b, j, none⟩ = some v := by
  rw [far_cell hne, far_cell hne, far_cell hne]; exact h
theorem far4 {w : World} {b j c : Nat} {v : Value} (h : w.cell? ⟨b, j, none⟩ = some v) (hne : b ≠ c) (u0 u1 u2 u3 : Value) : (set4 w c u0 u1 u2 u3).cell? ⟨b, j, none⟩ = some v := by
  rw [far_cell hne]; exact far3 h hne _ _ _
theorem Ops.bare {D : Nat → Bool} {w : World} {v : Value} {xs : List O} (h : Ops (hide D w) v xs) : Ops w v xs := Elems.stay h (Stays.unhide D w)
set_option maxHeartbeats 2000000 in
theorem between_yes {D M : Nat → Bool} {w : World} {rb : Nat} {xs : List O} {s : RS} (h : St D M w rb xs s) (q : TokP) (hq : headR s = q) (ho : opKind q = true) :
    Calls Tryz.prog 109 #[.pointer (some ⟨rb, 0, none⟩)] w fun e w' => e = .returned (.tuple #[oVal (oneB xs q.1.text 2).1, .bool (oneB xs q.1.text 2).2]) ∧ Below w.heap.size w w' := by
  have HN := Lib.hid (fun wq hq => next_at (h.later (w' := wq) hq))
  rw [hq] at HN
  have HI := Lib.hid (fun wq (hb : Below w.heap.size w wq) (v : Value) (hv : Ops wq v xs) => in_walk hv ⟨q.1.text.toArray⟩)
  obtain ⟨⟨⟨yn, yk, yl⟩, yg⟩, hy⟩ : ∃ y, oneB xs q.1.text 2 = y := ⟨_, rfl⟩
  rw [show bl (⟨q.1.text.toArray⟩ : ByteArray) = q.1.text from rfl, hy] at HI
  rw [hy]
  obtain ⟨w1, hw1, hb1, hz1, hx1⟩ := box_new w #[.string ⟨#[]⟩, .string ⟨#[]⟩, .int .i64 0] 33
  have H := Lib.hid h
  have hlt := h.lt
  have HK := Lib.hid ho
  clear h hq hy ho
  go_enter Tryz.func109, Tryz.ntmps109
  go_wp2_with fail
  (try rw [hw1])
  clear hw1
  (go_wp2_with fail; go_fit (HN.out _ hb1); rintro e w2 ⟨rfl, hb2⟩)
  obtain ⟨w3, hw3, hb3, hz3, hx3⟩ := box_new w2 #[.int .i64 (q.1.kind : Int), .string ⟨q.1.text.toArray⟩, .int .i64 (q.1.n : Int), .bool q.1.opens, .int .i64 (q.2 : Int)] 52
  obtain ⟨r0, r1, r2, rf⟩ := ((hx1.ext hb2).ext hb3).three
  obtain ⟨d0, d1, d2, d3, d4, df⟩ := hx3.five
  have HB3 := Lib.hid (Ext.trans' (Ext.trans' hb1 hb2) hb3)
  obtain ⟨vo, _, _, p0, _, _, _, _, po, _⟩ := (H.out.later HB3.out).parts
  have PO := Lib.hid po.bare
  have hsz := hb2.size
  have hne : rb ≠ w.heap.size := by omega
  have hne2 : rb ≠ w2.heap.size := by omega
  have hne3 : w2.heap.size ≠ w.heap.size := by omega
  have HX := Lib.hid ((hx1.ext hb2).ext hb3)
  clear hb1 hb2 hb3 HN hx1 hx3 po
  have hk : ((q.1.kind : Int) == 1) = true ∨ (((q.1.kind : Int) == 1) = false ∧ ((q.1.kind : Int) == 2) = true) ∨ (((q.1.kind : Int) == 1) = false ∧ ((q.1.kind : Int) == 2) = false ∧ ((q.1.kind : Int) == 5) = true ∧ (q.1.text == [44]) = true) := by
    have hk := HK.out
    unfold opKind isMark at hk
    by_cases h1 : q.1.kind = 1
    · left; rw [h1]; rfl
    by_cases h2 : q.1.kind = 2
    · right; left; rw [h2]; exact ⟨rfl, rfl⟩
    by_cases h5 : q.1.kind = 5
    · right; right; rw [h5]; rw [h5] at hk; simpa using hk
    · simp [h1, h2, h5] at hk
  rcases hk with hk1 | ⟨hk1, hk2⟩ | ⟨hk1, hk2, hk5, hkt⟩
  all_goals
    go_wp2_with fail
    (try rw [hw3])
    clear hw3
    go_wp2_with fail
    refine wp_region_held_drew (S := fun w' => w'.cell? ⟨rb, 0, none⟩ = some vo ∧ w'.cell? ⟨w2.heap.size, 1, none⟩ = some (.string ⟨q.1.text.toArray⟩)) (by kernel_rfl) (⟨p0, d1⟩) (fun hHeld => ?_)
    first | (refine held_t (i := 0) hHeld ?_; apply Exists.intro; refine ⟨fun wq hq => ?_, ?_⟩; (focus ((try dsimp only at hq); go_simp; (first | done | with_reducible rfl | fail)))) | refine held_s (i := 0) hHeld ?_ | fail
    first | (refine held_t (i := 1) hHeld ?_; apply Exists.intro; refine ⟨fun wq hq => ?_, ?_⟩; (focus ((try dsimp only at hq); go_simp; (first | done | with_reducible rfl | fail)))) | refine held_s (i := 1) hHeld ?_ | fail
    first | (refine held_t (i := 2) hHeld ?_; apply Exists.intro; refine ⟨fun wq hq => ?_, ?_⟩; (focus ((try dsimp only at hq); go_simp; (first | done | with_reducible rfl | fail)))) | refine held_s (i := 2) hHeld ?_ | fail
    first | (refine held_t (i := 3) hHeld ?_; apply Exists.intro; refine ⟨fun wq hq => ?_, ?_⟩; (focus ((try dsimp only at hq); go_simp; (first | done | with_reducible rfl | fail)))) | refine held_s (i := 3) hHeld ?_ | fail
    first | (refine held_t (i := 4) hHeld ?_; apply Exists.intro; refine ⟨fun wq hq => ?_, ?_⟩; (focus ((try dsimp only at hq); go_simp; (first | done | with_reducible rfl | fail)))) | refine held_s (i := 4) hHeld ?_ | fail
    first | (refine held_t (i := 5) hHeld ?_; apply Exists.intro; refine ⟨fun wq hq => ?_, ?_⟩; (focus ((try dsimp only at hq); go_simp; (first | done | with_reducible rfl | fail)))) | refine held_s (i := 5) hHeld ?_ | fail
    try simp only [Act.put, List.setIfInBounds_toArray, List.set_cons_zero, List.set_cons_succ]
    refine held_c 6 fun K hK => ?_
    go_simp
    (go_at_call 37; refine (HI.out _ (Ext.trans' HB3.out (Below.refl _ _).drew) _ (PO.out.ext (Below.refl _ _).drew)).mono ?_; rintro e w4 ⟨rfl, hb4⟩; obtain ⟨e0, e1, e2, ef⟩ := ((HX.out.ext (Below.refl _ _).drew).ext hb4).three; have HB4 := Lib.hid (Ext.trans' (Ext.trans' HB3.out (Below.refl _ _).drew) hb4))
    refine hK.out _ _ (⟨cell_later hb4 hHeld.1, cell_later hb4 hHeld.2⟩) (fun hHeld => ?_)
    clear hK K
    try simp only [Act.put, List.setIfInBounds_toArray, List.set_cons_zero, List.set_cons_succ]
    first | (refine held_t (i := 7) hHeld ?_; apply Exists.intro; refine ⟨fun wq hq => ?_, ?_⟩; (focus ((try dsimp only at hq); go_simp; (first | done | with_reducible rfl | fail)))) | refine held_s (i := 7) hHeld ?_ | fail
    first | (refine held_t (i := 8) hHeld ?_; apply Exists.intro; refine ⟨fun wq hq => ?_, ?_⟩; (focus ((try dsimp only at hq); go_simp; (first | done | with_reducible rfl | fail)))) | refine held_s (i := 8) hHeld ?_ | fail
    try simp only [Act.put, List.setIfInBounds_toArray, List.set_cons_zero, List.set_cons_succ]
    refine held_c 9 fun K hK => ?_
    go_simp
    skip
    refine hK.out _ _ (⟨far3 hHeld.1 hne _ _ _, far3 hHeld.2 hne3 _ _ _⟩) (fun hHeld => ?_)
    clear hK K
    try simp only [Act.put, List.setIfInBounds_toArray, List.set_cons_zero, List.set_cons_succ]
    first | (refine held_t (i := 10) hHeld ?_; apply Exists.intro; refine ⟨fun wq hq => ?_, ?_⟩; (focus ((try dsimp only at hq); go_simp; (first | done | with_reducible rfl | fail)))) | refine held_s (i := 10) hHeld ?_ | fail
    try simp only [Act.put, List.setIfInBounds_toArray, List.set_cons_zero, List.set_cons_succ]
    refine wpAnyH_done (by kernel_rfl) ?_ _
    go_wp2
    refine bodyPost_ret (v := .tuple #[.agg #[.string yn, .string yk, .int .i64 yl], .bool yg]) (by rw [results_cell_tmp rfl]; go_simp) rfl ⟨rfl, Below.set3 HB4.out (Nat.le_refl _) _ _ _⟩
set_option maxHeartbeats 1000000 in
theorem between_no {D M : Nat → Bool} {w : World} {rb : Nat} {xs : List O} {s : RS} (h : St D M w rb xs s) (q : TokP) (hq : headR s = q) (ho : opKind q = false) :
    Calls Tryz.prog 109 #[.pointer (some ⟨rb, 0, none⟩)] w fun e w' => e = .returned (.tuple #[.agg #[.string ⟨#[]⟩, .string ⟨#[]⟩, .int .i64 0], .bool false]) ∧ Below w.heap.size w w' := by
  have HN := Lib.hid (fun wq hq => next_at (h.later (w' := wq) hq))
  rw [hq] at HN
  obtain ⟨w1, hw1, hb1, hz1, hx1⟩ := box_new w #[.string ⟨#[]⟩, .string ⟨#[]⟩, .int .i64 0] 33
  have HK := Lib.hid ho
  clear h hq ho
  go_enter Tryz.func109, Tryz.ntmps109
  go_wp2_with fail
  (try rw [hw1])
  clear hw1
  (go_wp2_with fail; go_fit (HN.out _ hb1); rintro e w2 ⟨rfl, hb2⟩)
  obtain ⟨w3, hw3, hb3, hz3, hx3⟩ := box_new w2 #[.int .i64 (q.1.kind : Int), .string ⟨q.1.text.toArray⟩, .int .i64 (q.1.n : Int), .bool q.1.opens, .int .i64 (q.2 : Int)] 52
  obtain ⟨r0, r1, r2, rf⟩ := ((hx1.ext hb2).ext hb3).three
  obtain ⟨d0, d1, d2, d3, d4, df⟩ := hx3.five
  have HB3 := Lib.hid (Ext.trans' (Ext.trans' hb1 hb2) hb3)
  clear hb1 hb2 hb3 HN hx1 hx3
  have hk : ((q.1.kind : Int) == 1) = false ∧ ((q.1.kind : Int) == 2) = false ∧ (((q.1.kind : Int) == 5) = false ∨ (((q.1.kind : Int) == 5) = true ∧ (q.1.text == [44]) = false)) := by
    have hk := HK.out
    unfold opKind isMark at hk
    simp only [Bool.or_eq_false_iff, Bool.and_eq_false_iff, beq_eq_false_iff_ne] at hk
    obtain ⟨h1, h2, h3⟩ := hk
    refine ⟨beq_false_of_ne (by omega), beq_false_of_ne (by omega), ?_⟩
    by_cases h5 : q.1.kind = 5
    · right
      rcases h3 with h3 | h3
      · exact absurd h5 h3
      · exact ⟨by rw [h5]; rfl, beq_false_of_ne h3⟩
    · left; exact beq_false_of_ne (by omega)
  obtain ⟨hk1, hk2, hk5 | ⟨hk5, hkt⟩⟩ := hk
  all_goals
    go_wp2_with fail
    (try rw [hw3])
    clear hw3
    go_wp2
    refine bodyPost_ret (v := .tuple #[.agg #[.string ⟨#[]⟩, .string ⟨#[]⟩, .int .i64 0], .bool false]) (by rw [results_cell_tmp rfl]; go_simp) rfl ⟨rfl, Below.set3 HB3.out (Nat.le_refl _) _ _ _⟩
theorem between_at {D M : Nat → Bool} {w : World} {rb : Nat} {xs : List O} {s : RS} (h : St D M w rb xs s) :
    Calls Tryz.prog 109 #[.pointer (some ⟨rb, 0, none⟩)] w fun e w' => e = .returned (.tuple #[oVal (betweenR (betO xs) (headR s)).1, .bool (betweenR (betO xs) (headR s)).2]) ∧ Below w.heap.size w w' := by
  unfold betweenR
  cases ho : opKind (headR s) with
  | true => exact between_yes h _ rfl ho
  | false => exact between_no h _ rfl ho
end Go.Proofs.YtljgkfdnmikpfaaGreatDoor
