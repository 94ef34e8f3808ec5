import Derived.Test.YtobdhcaoeholhaaGreatDoorHbyav
import Derived.Test.YtobdhcaoeholhaaGreatDoorHbyar
import Derived.Test.YtobdhcaoeholhaaGreatDoorHbyal
import Derived.Test.YtobdhcaoeholhaaGreatDoorHbyau
set_option linter.unusedVariables false
set_option linter.unusedSimpArgs false
/- What is read is not much longer than its text: pure. -/
namespace Go.Proofs.YtobdhcaoeholhaaGreatDoor
open Go.RowKit
set_option linter.unusedVariables false

def lenQ (s : ByteArray) : Nat := (quoteB (bl s)).length
mutual
/-- No fewer letters than it is written in without operators. -/
def wlT : Tm → Nat
  | .mk k n s ts => if k = 0 then 5 else if k = 1 then (numW n).length else lenQ s + 1 + wlL ts
def wlL : List Tm → Nat
  | [] => 0
  | x :: r => wlT x + 1 + wlL r
end
theorem quote_fit (s : List UInt8) : (quoteB s).length ≤ 2 * s.length + 2 := by
  unfold quoteB
  split
  · omega
  split
  · have : ∀ l : List UInt8, (l.flatMap escQ).length ≤ 2 * l.length := fun l => by
      induction l with
      | nil => simp
      | cons c r ih =>
        rw [List.flatMap_cons, List.length_append, List.length_cons]
        have hc : (escQ c).length ≤ 2 := by unfold escQ; repeat' (first | split | simp)
        omega
    have := this s
    rw [List.length_cons, List.length_append, List.length_singleton]
    omega
  · simp
theorem lenQ_fit {s : List UInt8} {k : Nat} (h : s.length ≤ k) : lenQ (ba s) ≤ 2 * k + 2 := by
  have := quote_fit s
  show (quoteB s).length ≤ _
  omega
theorem wl_var (n : Int) {s : ByteArray} : wlT (.mk 0 n s []) = 5 := by rw [wlT, if_pos rfl]
theorem wl_int (n : Int) {s : ByteArray} : wlT (.mk 1 n s []) = (numW n).length := by rw [wlT, if_neg (by decide), if_pos rfl]
theorem wl_comp {n : Int} {s : ByteArray} {ts : List Tm} : wlT (.mk 2 n s ts) = lenQ s + 1 + wlL ts := by rw [wlT, if_neg (by decide), if_neg (by decide)]
theorem dot_len : lenQ dotS = 3 := by decide +kernel
theorem nil_len : lenQ (ba [91, 93]) = 2 := by decide +kernel
theorem curl_len : lenQ (ba [123, 125]) = 2 := by decide +kernel
theorem wl_list : ∀ (l : List Tm) (t : Tm), wlT (listT l t) = wlL l + 5 * l.length + wlT t
  | [], t => by rw [listT, wlL]; simp
  | x :: r, t => by
    rw [listT, wlL]
    show wlT (.mk 2 0 dotS [x, listT r t]) = _
    rw [wl_comp, wlL, wlL, wlL, dot_len, wl_list r t, List.length_cons]
    omega
theorem numW_nat (n : Nat) : (numW (n : Int)).length = (digW n).length := by
  unfold numW
  rw [if_neg (by omega)]
  rfl
theorem numW_neg (n : Nat) : (numW (-(n : Int))).length ≤ (digW n).length + 1 := by
  unfold numW
  split
  · rw [List.length_cons, show (-(n : Int)).natAbs = n from by omega]
    exact Nat.le_refl _
  · have : n = 0 := by omega
    subst this
    show (digW 0).length ≤ _
    omega

def lt (s : RS) : Nat := letT s.rest
def FitS (s : RS) : Prop := ∀ q ∈ s.rest, TokK q.1
theorem fit_drop {s : RS} (h : FitS s) : FitS (dropR s) := fun q hq => h q (List.mem_of_mem_tail hq)
theorem lt_drop {s : RS} (h : s.rest ≠ []) : lt s = (headR s).1.len + lt (dropR s) := by
  unfold lt dropR headR
  cases hr : s.rest with
  | nil => exact absurd hr h
  | cons a r => rfl
theorem fit_head {s : RS} (h : FitS s) (hn : s.rest ≠ []) : TokK (headR s).1 := by
  apply h
  unfold headR
  cases hr : s.rest with
  | nil => exact absurd hr hn
  | cons a r => simp
theorem letv_drop (s : RS) : lt (dropR s) ≤ lt s := by
  by_cases h : s.rest = []
  · unfold lt dropR; rw [h]; exact Nat.le_refl _
  · rw [lt_drop h]; omega
theorem fit_takes {t : List UInt8} {s s' : RS} (h : FitS s) (ht : takesR t s = some s') : FitS s' ∧ lt s' + 1 ≤ lt s := by
  obtain ⟨e, hl⟩ := takes_lt ht
  subst e
  have hne : s.rest ≠ [] := by
    intro e
    rw [e] at hl
    simp at hl
  refine ⟨fit_drop h, ?_⟩
  have := (fit_head h hne).1
  rw [lt_drop hne]
  omega
def FitT (T : TFun) : Prop := ∀ most s p s', FitS s → T most s = some (p, s') → FitS s' ∧ wlT p.1 + 6 * lt s' + 1 ≤ 6 * lt s
theorem fit_items {T : TFun} (hT : FitT T) : ∀ f s l s', FitS s → itemsR T f s = some (l, s') → FitS s' ∧ wlL l + 5 * l.length + 6 * lt s' ≤ 6 * lt s + 5
  | 0, s, l, s', _, h => by cases h
  | f + 1, s, l, s', hs, h => by
    rw [itemsR] at h
    cases h1 : T 999 s with
    | none => rw [h1] at h; cases h
    | some q =>
      obtain ⟨p, s1⟩ := q
      obtain ⟨i1, e1⟩ := hT _ _ _ _ hs h1
      rw [h1] at h
      simp only at h e1
      cases h2 : takesR [44] s1 with
      | none =>
        rw [h2] at h
        cases h
        refine ⟨i1, ?_⟩
        rw [wlL, wlL, List.length_cons, List.length_nil]
        omega
      | some s2 =>
        obtain ⟨i2, e2⟩ := fit_takes i1 h2
        rw [h2] at h
        simp only at h
        cases h4 : itemsR T f s2 with
        | none => rw [h4] at h; cases h
        | some r =>
          obtain ⟨l', s3⟩ := r
          rw [h4] at h
          cases h
          obtain ⟨i3, e3⟩ := fit_items hT f s2 l' s' i2 h4
          refine ⟨i3, ?_⟩
          rw [wlL, List.length_cons]
          omega
theorem fit_loop {bet : List UInt8 → O × Bool} (hb : ∀ n, (bet n).2 = true → bl (bet n).1.n = n) {T : TFun} (hT : FitT T) (most : Int) (X : Nat) : ∀ f p s q s', FitS s → wlT p.1 + 6 * lt s + 1 ≤ X → loopR bet T most f p s = some (q, s') → FitS s' ∧ wlT q.1 + 6 * lt s' + 1 ≤ X
  | 0, p, s, q, s', _, _, h => by cases h
  | f + 1, p, s, q, s', hs, hp, h => by
    rw [loopR] at h
    split at h
    · cases h; exact ⟨hs, hp⟩
    · rename_i hc
      split at h
      · cases h
      · rename_i r s1 h1
        obtain ⟨i1, e1⟩ := hT _ _ _ _ (fit_drop hs) h1
        refine fit_loop hb hT most X f _ s1 q s' i1 ?_ h
        have hbt : (betweenR bet (headR s)).2 = true := by
          cases hx : (betweenR bet (headR s)).2 with
          | true => rfl
          | false => exact absurd (Or.inl hx) hc
        have hne := between_ne hbt
        have hk := fit_head hs hne
        have hd := lt_drop hne
        have hname : lenQ (betweenR bet (headR s)).1.n ≤ 2 * (headR s).1.len + 2 := by
          unfold betweenR at hbt ⊢
          split at hbt
          · rename_i ho
            rw [if_pos ho]
            have := quote_fit (headR s).1.text
            unfold lenQ
            rw [hb _ hbt]
            have := hk.2.1
            omega
          · cases hbt
        show wlT (.mk 2 0 _ [p.1, r.1]) + 6 * lt s1 + 1 ≤ X
        rw [wl_comp, wlL, wlL, wlL]
        have := hk.1
        omega
theorem fit_closed {T : TFun} (hT : FitT T) {t : List UInt8} {s s' : RS} {x : Tm} (hs : FitS s) (h : closedR T t s = some (x, s')) : FitS s' ∧ wlT x + 6 * lt s' + 7 ≤ 6 * lt s := by
  unfold closedR at h
  split at h
  · cases h
  · rename_i p s1 h1
    obtain ⟨i1, e1⟩ := hT _ _ _ _ hs h1
    split at h
    · cases h
    · rename_i s2 h2
      cases h
      obtain ⟨i2, e2⟩ := fit_takes i1 h2
      exact ⟨i2, by omega⟩
theorem fit_tail {T : TFun} (hT : FitT T) {s s' : RS} {x : Tm} (hs : FitS s) (h : tailR T s = some (x, s')) : FitS s' ∧ wlT x + 6 * lt s' ≤ 6 * lt s + 3 := by
  unfold tailR at h
  split at h
  · cases h
    refine ⟨hs, ?_⟩
    show wlT (.mk 2 0 (ba [91, 93]) []) + _ ≤ _
    rw [wl_comp, wlL, nil_len]
    omega
  · rename_i s1 h1
    obtain ⟨i1, e1⟩ := fit_takes hs h1
    split at h
    · cases h
    · rename_i p s2 h2
      cases h
      obtain ⟨i2, e2⟩ := hT _ _ _ _ i1 h2
      exact ⟨i2, by omega⟩
theorem fit_row {T : TFun} (hT : FitT T) {s s' : RS} {x : Tm} (hs : FitS s) (h : rowR T s = some (x, s')) : FitS s' ∧ wlT x + 6 * lt s' ≤ 6 * lt s + 5 := by
  unfold rowR at h
  split at h
  · cases h
  · rename_i l s1 h1
    obtain ⟨i1, e1⟩ := fit_items hT _ _ _ _ hs h1
    split at h
    · cases h
    · rename_i t s2 h2
      obtain ⟨i2, e2⟩ := fit_tail hT i1 h2
      split at h
      · cases h
      · rename_i s3 h3
        cases h
        obtain ⟨i3, e3⟩ := fit_takes i2 h3
        exact ⟨i3, by rw [wl_list]; omega⟩
theorem fit_bracket {T : TFun} (hT : FitT T) {b : List UInt8} {s s' : RS} {x : Tm} (hs : FitS s) (h : bracketR T b s = some (x, s')) : FitS s' ∧ wlT x + 6 * lt s' ≤ 6 * lt s + 5 := by
  unfold bracketR at h
  split at h
  · obtain ⟨i, e⟩ := fit_closed hT hs h
    exact ⟨i, by omega⟩
  · split at h
    · split at h
      · cases h
      · rename_i t s1 h1
        cases h
        obtain ⟨i1, e1⟩ := fit_closed hT hs h1
        refine ⟨i1, ?_⟩
        rw [wl_comp, wlL, wlL, curl_len]
        omega
    · split at h
      · exact fit_row hT hs h
      · cases h
theorem fit_args {T : TFun} (hT : FitT T) {n : List UInt8} {s s' : RS} {x : TL} (hs : FitS s) (h : argsR T n s = some (x, s')) : FitS s' ∧ wlT x.1 + 6 * lt s' ≤ 6 * lt s + lenQ (ba n) := by
  unfold argsR at h
  split at h
  · cases h
  · rename_i l s1 h1
    obtain ⟨i1, e1⟩ := fit_items hT _ _ _ _ hs h1
    split at h
    · cases h
    · rename_i s2 h2
      cases h
      obtain ⟨i2, e2⟩ := fit_takes i1 h2
      refine ⟨i2, ?_⟩
      show wlT (.mk 2 0 (ba n) l) + _ ≤ _
      rw [wl_comp]
      omega
theorem fit_ahead {T : TFun} (hT : FitT T) {n : List UInt8} {o : O} {s s' : RS} {x : TL} (hs : FitS s) (h : aheadR T n o s = some (x, s')) : FitS s' ∧ wlT x.1 + 6 * lt s' ≤ 6 * lt s + lenQ (ba n) + 1 := by
  unfold aheadR at h
  split at h
  · cases h
  · rename_i p s1 h1
    cases h
    obtain ⟨i1, e1⟩ := hT _ _ _ _ hs h1
    refine ⟨i1, ?_⟩
    show wlT (.mk 2 0 (ba n) [p.1]) + _ ≤ _
    rw [wl_comp, wlL, wlL]
    omega
theorem minus_ne {q x : TokP} (h : isMinusR q x = true) : x.1.kind = 4 := by
  unfold isMinusR at h
  simp only [Bool.and_eq_true, beq_iff_eq] at h
  exact h.2.2.1
theorem fit_atom (n : List UInt8) : wlT (aT n) = lenQ (ba n) + 1 := by
  show wlT (.mk 2 0 (ba n) []) = _
  rw [wl_comp, wlL]
theorem fit_named {pre bet : List UInt8 → O × Bool} {T : TFun} (hT : FitT T) {q : TokP} {most : Int} {s s' : RS} {x : TL} (hs : FitS s) (hq : TokK q.1) (h : namedR pre bet T q most s = some (x, s')) : FitS s' ∧ wlT x.1 + 6 * lt s' + 1 ≤ 6 * lt s + 6 * q.1.len := by
  have hl := lenQ_fit hq.2.1
  have h1 := hq.1
  unfold namedR at h
  split at h
  · rename_i hm
    cases h
    have hne := head_ne (s := s) (by rw [minus_ne hm]; omega)
    have hk := fit_head hs hne
    have hd := lt_drop hne
    refine ⟨fit_drop hs, ?_⟩
    show wlT (.mk 1 (-((headR s).1.n : Int)) _ []) + _ + _ ≤ _
    rw [wl_int]
    have := numW_neg (headR s).1.n
    have := hk.2.2
    omega
  · split at h
    · obtain ⟨i, e⟩ := fit_args hT (s := dropR s) (fit_drop hs) h
      have := letv_drop s
      exact ⟨i, by omega⟩
    · split at h
      · cases h
        refine ⟨hs, ?_⟩
        show wlT (aT _) + _ + _ ≤ _
        rw [fit_atom]
        omega
      · split at h
        · obtain ⟨i, e⟩ := fit_ahead hT hs h
          exact ⟨i, by omega⟩
        · split at h
          · cases h
            refine ⟨hs, ?_⟩
            show wlT (aT _) + _ + _ ≤ _
            rw [fit_atom]
            omega
          · cases h
theorem fit_prim {pre bet : List UInt8 → O × Bool} {T : TFun} (hT : FitT T) {most : Int} {s s' : RS} {x : TL} (hs : FitS s) (h : primR pre bet T most s = some (x, s')) : FitS s' ∧ wlT x.1 + 6 * lt s' + 1 ≤ 6 * lt s := by
  unfold primR at h
  by_cases h0 : (headR s).1.kind = 0
  · simp [h0] at h
  have hne := head_ne h0
  have hk := fit_head hs hne
  have hd := lt_drop hne
  have hk1 := hk.1
  split at h
  · obtain ⟨i, e⟩ := fit_named hT (s := dropR s) (fit_drop hs) hk h
    exact ⟨i, by omega⟩
  · split at h
    · cases h
      have hr : (varR (headR s).1.text (dropR s)).2.rest = (dropR s).rest := var_rest _ _
      refine ⟨fun q hq => ?_, ?_⟩
      · rw [hr] at hq
        exact fit_drop hs q hq
      · have e1 : wlT (varR (headR s).1.text (dropR s)).1 = 5 := by
          unfold varR
          split
          · exact wl_var _
          · exact wl_var _
        have e2 : lt (varR (headR s).1.text (dropR s)).2 = lt (dropR s) := by unfold lt; rw [hr]
        simp only
        rw [e1, e2]
        omega
    · split at h
      · cases h
        refine ⟨fit_drop hs, ?_⟩
        show wlT (.mk 1 ((headR s).1.n : Int) _ []) + _ + _ ≤ _
        rw [wl_int, numW_nat]
        have := hk.2.2
        omega
      · split at h
        · obtain ⟨i, e⟩ := fit_bracket hT (s := dropR s) (fit_drop hs) (zero_some h).1
          exact ⟨i, by omega⟩
        · cases h
theorem fit_termF {pre bet : List UInt8 → O × Bool} (hb : ∀ n, (bet n).2 = true → bl (bet n).1.n = n) : ∀ f, FitT (termF pre bet f)
  | 0, most, s, p, s', _, h => by cases h
  | f + 1, most, s, p, s', hs, h => by
    rw [termF] at h
    unfold termB at h
    split at h
    · cases h
    · rename_i q s1 h1
      obtain ⟨i1, e1⟩ := fit_prim (fit_termF hb f) hs h1
      exact fit_loop hb (fit_termF hb f) most (6 * lt s) _ _ _ _ _ i1 e1 h
theorem fit_one {pre bet : List UInt8 → O × Bool} (hb : ∀ n, (bet n).2 = true → bl (bet n).1.n = n) {l : List TokP} {p : Tm × List NmP} (hl : ∀ q ∈ l, TokK q.1) (h : oneR pre bet l = .ok p) : goodT p.1 = true ∧ wlT p.1 + 1 ≤ 6 * letT l := by
  unfold oneR at h
  split at h
  · cases h
  · rename_i t s hw
    split at h
    · split at h
      · rename_i hg
        cases h
        refine ⟨hg, ?_⟩
        unfold wholeR at hw
        split at hw
        · cases hw
        · rename_i r s1 h1
          have := (fit_termF hb _ _ _ _ _ (fun q hq => hl q hq) h1).2
          split at hw
          · cases hw
            have e : lt (anewR l) = letT l := rfl
            show wlT r.1 + 1 ≤ _
            omega
          · cases hw
      · cases h
    · cases h
/-- What is read from a text has at most six times its letters. -/
theorem read_fit {xs : List O} {s : List UInt8} {p : Tm × List NmP} (h : readB oneR xs s = .ok p) : goodT p.1 = true ∧ wlT p.1 + 1 ≤ 6 * s.length := by
  unfold readB at h
  split at h
  · split at h
    · rename_i l hc
      obtain ⟨h1, h2, h3⟩ := cutB_ok.1 hc
      obtain ⟨f1, f2⟩ := lex_fit _ _ _ _ h2
      obtain ⟨g1, g2⟩ := fit_one (fun n hn => (tab_of xs).bet1 n hn |>.1) f1 h
      exact ⟨g1, by omega⟩
    · cases h
  · cases h
end Go.Proofs.YtobdhcaoeholhaaGreatDoor
/- A term that was read has its variables numbered in the order of their first places: pure. -/
namespace Go.Proofs.YtobdhcaoeholhaaGreatDoor
set_option linter.unusedVariables false

def uptoI : Nat → List Int
  | 0 => []
  | n + 1 => uptoI n ++ [(n : Int)]
theorem uptoI_len : ∀ n, (uptoI n).length = n
  | 0 => rfl
  | n + 1 => by rw [uptoI, List.length_append, uptoI_len n]; rfl
theorem uptoI_mem : ∀ (n : Nat) (x : Int), x ∈ uptoI n ↔ 0 ≤ x ∧ x < n
  | 0, x => by simp only [uptoI, List.not_mem_nil, false_iff]; omega
  | n + 1, x => by
    rw [uptoI, List.mem_append, uptoI_mem n x, List.mem_singleton]
    omega
theorem uptoI_has {n k : Nat} (h : k < n) : (uptoI n).contains (k : Int) = true := by
  rw [List.contains_iff_mem, uptoI_mem]
  omega
theorem uptoI_not (n : Nat) : (uptoI n).contains (n : Int) = false := by
  cases h : (uptoI n).contains (n : Int) with
  | false => rfl
  | true => rw [List.contains_iff_mem, uptoI_mem] at h; omega

/-- Each number given is below the next. -/
def NmLt (s : RS) : Prop := ∀ p ∈ s.names, p.2 < s.next
def NumT (T : TFun) : Prop := ∀ most s p s', NmLt s → T most s = some (p, s') → NmLt s' ∧ varsT p.1 (uptoI s.next) = uptoI s'.next
theorem num_drop {s : RS} (h : NmLt s) : NmLt (dropR s) := h
theorem num_takes {t : List UInt8} {s s' : RS} (h : NmLt s) (ht : takesR t s = some s') : NmLt s' ∧ s'.next = s.next := by
  obtain ⟨rfl, _⟩ := takes_lt ht
  exact ⟨h, rfl⟩
theorem num_atom {k n : Int} {s : ByteArray} {l : List Int} (h : k ≠ 0) : varsT (.mk k n s []) l = l := by rw [varsT, if_neg h, varsL]
theorem num_comp {n : Int} {s : ByteArray} {ts : List Tm} {l : List Int} : varsT (.mk 2 n s ts) l = varsL ts l := by rw [varsT, if_neg (by decide)]
theorem num_list : ∀ (l : List Tm) (t : Tm) (a : List Int), varsT (listT l t) a = varsT t (varsL l a)
  | [], t, a => rfl
  | x :: r, t, a => by
    rw [listT, varsL]
    show varsT (.mk 2 0 _ [x, listT r t]) a = _
    rw [num_comp, varsL, varsL, varsL]
    exact num_list r t _
theorem num_var {s : RS} (h : NmLt s) (name : List UInt8) : NmLt (varR name s).2 ∧ varsT (varR name s).1 (uptoI s.next) = uptoI (varR name s).2.next := by
  unfold varR
  cases hf : s.names.find? (fun p => p.1 == name) with
  | some p =>
    refine ⟨h, ?_⟩
    have := h p (List.mem_of_find?_eq_some hf)
    show varsT (.mk 0 (p.2 : Int) _ []) _ = _
    rw [varsT, if_pos rfl, if_pos (uptoI_has this)]
  | none =>
    constructor
    · intro p hp
      show p.2 < s.next + 1
      simp only at hp
      split at hp
      · have := h p hp; omega
      · rcases List.mem_append.1 hp with hp | hp
        · have := h p hp; omega
        · rw [List.mem_singleton] at hp; subst hp; exact Nat.lt_succ_self _
    · show varsT (.mk 0 (s.next : Int) _ []) _ = uptoI (s.next + 1)
      rw [varsT, if_pos rfl, if_neg (by rw [uptoI_not]; decide), uptoI]
theorem num_items {T : TFun} (hT : NumT T) : ∀ f s l s', NmLt s → itemsR T f s = some (l, s') → NmLt s' ∧ varsL l (uptoI s.next) = uptoI s'.next
  | 0, s, l, s', _, h => by cases h
  | f + 1, s, l, s', hs, h => by
    rw [itemsR] at h
    cases h1 : T 999 s with
    | none => rw [h1] at h; cases h
    | some q =>
      obtain ⟨p, s1⟩ := q
      obtain ⟨i1, e1⟩ := hT _ _ _ _ hs h1
      rw [h1] at h
      simp only at h
      cases h2 : takesR [44] s1 with
      | none =>
        rw [h2] at h
        cases h
        exact ⟨i1, by rw [varsL, varsL]; exact e1⟩
      | some s2 =>
        obtain ⟨i2, e2⟩ := num_takes i1 h2
        rw [h2] at h
        simp only at h
        cases h4 : itemsR T f s2 with
        | none => rw [h4] at h; cases h
        | some r =>
          obtain ⟨l', s3⟩ := r
          rw [h4] at h
          cases h
          obtain ⟨i3, e3⟩ := num_items hT f s2 l' s' i2 h4
          refine ⟨i3, ?_⟩
          rw [varsL, e1, ← e2]
          exact e3
theorem num_loop {bet : List UInt8 → O × Bool} {T : TFun} (hT : NumT T) (most : Int) (n0 : Nat) : ∀ f p s q s', NmLt s → varsT p.1 (uptoI n0) = uptoI s.next → loopR bet T most f p s = some (q, s') → NmLt s' ∧ varsT q.1 (uptoI n0) = uptoI s'.next
  | 0, p, s, q, s', _, _, h => by cases h
  | f + 1, p, s, q, s', hs, hp, h => by
    rw [loopR] at h
    split at h
    · cases h; exact ⟨hs, hp⟩
    · split at h
      · cases h
      · rename_i r s1 h1
        obtain ⟨i1, e1⟩ := hT _ _ _ _ (num_drop hs) h1
        refine num_loop hT most n0 f _ s1 q s' i1 ?_ h
        show varsT (.mk 2 0 _ [p.1, r.1]) _ = _
        rw [num_comp, varsL, varsL, varsL, hp]
        exact e1
theorem num_closed {T : TFun} (hT : NumT T) {t : List UInt8} {s s' : RS} {x : Tm} (hs : NmLt s) (h : closedR T t s = some (x, s')) : NmLt s' ∧ varsT x (uptoI s.next) = uptoI s'.next := by
  unfold closedR at h
  split at h
  · cases h
  · rename_i p s1 h1
    obtain ⟨i1, e1⟩ := hT _ _ _ _ hs h1
    split at h
    · cases h
    · rename_i s2 h2
      cases h
      obtain ⟨i2, e2⟩ := num_takes i1 h2
      exact ⟨i2, by rw [e2]; exact e1⟩
theorem num_tail {T : TFun} (hT : NumT T) {s s' : RS} {x : Tm} (hs : NmLt s) (h : tailR T s = some (x, s')) : NmLt s' ∧ varsT x (uptoI s.next) = uptoI s'.next := by
  unfold tailR at h
  split at h
  · cases h
    exact ⟨hs, num_atom (by decide)⟩
  · rename_i s1 h1
    obtain ⟨i1, e1⟩ := num_takes hs h1
    split at h
    · cases h
    · rename_i p s2 h2
      cases h
      obtain ⟨i2, e2⟩ := hT _ _ _ _ i1 h2
      exact ⟨i2, by rw [← e1]; exact e2⟩
theorem num_row {T : TFun} (hT : NumT T) {s s' : RS} {x : Tm} (hs : NmLt s) (h : rowR T s = some (x, s')) : NmLt s' ∧ varsT x (uptoI s.next) = uptoI s'.next := by
  unfold rowR at h
  split at h
  · cases h
  · rename_i l s1 h1
    obtain ⟨i1, e1⟩ := num_items hT _ _ _ _ hs h1
    split at h
    · cases h
    · rename_i t s2 h2
      obtain ⟨i2, e2⟩ := num_tail hT i1 h2
      split at h
      · cases h
      · rename_i s3 h3
        cases h
        obtain ⟨i3, e3⟩ := num_takes i2 h3
        exact ⟨i3, by rw [num_list, e1, e2, e3]⟩
theorem num_bracket {T : TFun} (hT : NumT T) {b : List UInt8} {s s' : RS} {x : Tm} (hs : NmLt s) (h : bracketR T b s = some (x, s')) : NmLt s' ∧ varsT x (uptoI s.next) = uptoI s'.next := by
  unfold bracketR at h
  split at h
  · exact num_closed hT hs h
  · split at h
    · split at h
      · cases h
      · rename_i t s1 h1
        cases h
        obtain ⟨i1, e1⟩ := num_closed hT hs h1
        exact ⟨i1, by rw [num_comp, varsL, varsL]; exact e1⟩
    · split at h
      · exact num_row hT hs h
      · cases h
theorem num_args {T : TFun} (hT : NumT T) {n : List UInt8} {s s' : RS} {x : TL} (hs : NmLt s) (h : argsR T n s = some (x, s')) : NmLt s' ∧ varsT x.1 (uptoI s.next) = uptoI s'.next := by
  unfold argsR at h
  split at h
  · cases h
  · rename_i l s1 h1
    obtain ⟨i1, e1⟩ := num_items hT _ _ _ _ hs h1
    split at h
    · cases h
    · rename_i s2 h2
      cases h
      obtain ⟨i2, e2⟩ := num_takes i1 h2
      exact ⟨i2, by rw [num_comp, e1, e2]⟩
theorem num_ahead {T : TFun} (hT : NumT T) {n : List UInt8} {o : O} {s s' : RS} {x : TL} (hs : NmLt s) (h : aheadR T n o s = some (x, s')) : NmLt s' ∧ varsT x.1 (uptoI s.next) = uptoI s'.next := by
  unfold aheadR at h
  split at h
  · cases h
  · rename_i p s1 h1
    cases h
    obtain ⟨i1, e1⟩ := hT _ _ _ _ hs h1
    exact ⟨i1, by rw [num_comp, varsL, varsL]; exact e1⟩
theorem num_named {pre bet : List UInt8 → O × Bool} {T : TFun} (hT : NumT T) {q : TokP} {most : Int} {s s' : RS} {x : TL} (hs : NmLt s) (h : namedR pre bet T q most s = some (x, s')) : NmLt s' ∧ varsT x.1 (uptoI s.next) = uptoI s'.next := by
  unfold namedR at h
  split at h
  · cases h
    exact ⟨hs, num_atom (by decide)⟩
  · split at h
    · exact num_args hT (s := dropR s) hs h
    · split at h
      · cases h
        exact ⟨hs, num_atom (by decide)⟩
      · split at h
        · exact num_ahead hT hs h
        · split at h
          · cases h
            exact ⟨hs, num_atom (by decide)⟩
          · cases h
theorem num_prim {pre bet : List UInt8 → O × Bool} {T : TFun} (hT : NumT T) {most : Int} {s s' : RS} {x : TL} (hs : NmLt s) (h : primR pre bet T most s = some (x, s')) : NmLt s' ∧ varsT x.1 (uptoI s.next) = uptoI s'.next := by
  unfold primR at h
  split at h
  · exact num_named hT (s := dropR s) hs h
  · split at h
    · cases h
      exact num_var (num_drop hs) _
    · split at h
      · cases h
        exact ⟨hs, num_atom (by decide)⟩
      · split at h
        · exact num_bracket hT (s := dropR s) hs (zero_some h).1
        · cases h
theorem num_termF {pre bet : List UInt8 → O × Bool} : ∀ f, NumT (termF pre bet f)
  | 0, most, s, p, s', _, h => by cases h
  | f + 1, most, s, p, s', hs, h => by
    rw [termF] at h
    unfold termB at h
    split at h
    · cases h
    · rename_i q s1 h1
      obtain ⟨i1, e1⟩ := num_prim (num_termF f) hs h1
      exact num_loop (num_termF f) most s.next _ _ _ _ _ i1 e1 h
theorem num_TERM {pre bet : List UInt8 → O × Bool} : NumT (TERM pre bet) := fun most s p s' hs h => num_termF _ most s p s' hs h
theorem num_whole {pre bet : List UInt8 → O × Bool} {l : List TokP} {t : Tm} {s : RS} (h : wholeR pre bet l = some (t, s)) : varsT t [] = uptoI s.next := by
  unfold wholeR at h
  split at h
  · cases h
  · rename_i p s1 h1
    split at h
    · cases h
      exact (num_TERM _ _ _ _ (fun p hp => by cases hp) h1).2
    · cases h
theorem sv_num_one {pre bet : List UInt8 → O × Bool} {l : List TokP} {p : Tm × List NmP} (h : oneR pre bet l = .ok p) : ∃ n, varsT p.1 [] = uptoI n := by
  unfold oneR at h
  split at h
  · cases h
  · rename_i t s hw
    split at h
    · split at h
      · cases h
        exact ⟨_, num_whole hw⟩
      · cases h
    · cases h
end Go.Proofs.YtobdhcaoeholhaaGreatDoor
/- What was read is told by its variables' places as it stands: pure. -/
namespace Go.Proofs.YtobdhcaoeholhaaGreatDoor
set_option linter.unusedVariables false

theorem idx_pre {vs rest : List Int} {n : Int} (h : n ∈ vs) : idxW (vs ++ rest) n = idxW vs n := by
  obtain ⟨i, h1, h2, h3⟩ := idx_nat h
  unfold idxW
  rw [List.findIdx?_append, h1]
  rfl
theorem idx_uptoI : ∀ (n : Nat) {x : Int}, x ∈ uptoI n → idxW (uptoI n) x = x
  | 0, x, h => by cases h
  | n + 1, x, h => by
    rw [uptoI] at h ⊢
    by_cases hx : x ∈ uptoI n
    · rw [idx_pre hx]
      exact idx_uptoI n hx
    · rcases List.mem_append.1 h with h | h
      · exact absurd h hx
      · rw [List.mem_singleton] at h
        subst h
        have hn : (uptoI n).findIdx? (fun v => v == (n : Int)) = none := by
          rw [List.findIdx?_eq_none_iff]
          intro y hy
          cases hc : y == (n : Int) with
          | false => rfl
          | true => rw [beq_iff_eq] at hc; subst hc; exact absurd hy hx
        unfold idxW
        rw [List.findIdx?_append, hn, uptoI_len]
        simp
mutual
theorem ren_same {vs : List Int} (h : ∀ x ∈ vs, idxW vs x = x) : ∀ (t : Tm), inV vs t → renT vs t = t
  | .mk k n s ts, hi => by
    rw [inV] at hi
    rw [renT, rens_same h ts hi.2]
    by_cases hk : k = 0
    · rw [if_pos hk, h n (hi.1 hk)]
    · rw [if_neg hk]
theorem rens_same {vs : List Int} (h : ∀ x ∈ vs, idxW vs x = x) : ∀ (ts : List Tm), inVs vs ts → renL vs ts = ts
  | [], _ => rfl
  | x :: r, hi => by
    rw [inVs] at hi
    rw [renL, ren_same h x hi.1, rens_same h r hi.2]
end
/-- A good term whose variables stand in order is told by its places as it stands. -/
theorem ren_order {t : Tm} (hg : goodT t = true) {n : Nat} (h : varsT t [] = uptoI n) : renT (varsT t []) t = t := by
  have hi := inV_of t [] (good_parts hg).2.2 (fun n hn => hn)
  rw [h] at hi ⊢
  exact ren_same (fun x hx => idx_uptoI n hx) t hi
theorem read_order {xs : List O} {s : List UInt8} {p : Tm × List NmP} (h : readB oneR xs s = .ok p) : ∃ n, varsT p.1 [] = uptoI n := by
  unfold readB at h
  split at h
  · split at h
    · exact sv_num_one h
    · cases h
  · cases h
end Go.Proofs.YtobdhcaoeholhaaGreatDoor
/- A list of atoms, as it is written, and read where the end follows at once: pure. -/
namespace Go.Proofs.YtobdhcaoeholhaaGreatDoor
open Go.RowKit
set_option linter.unusedVariables false

/-- Cut one way only. -/
theorem lexTo_one {p : Nat} {s : List UInt8} {l : List (TokB × Nat)} (h : LexTo p s l) : ∀ {l'}, LexTo p s l' → l = l' := by
  induction h with
  | nil p => intro l' h'; cases h'; rfl
  | @skip p k c r l hn hl ih =>
    intro l' h'
    cases h' with
    | skip h1 h2 => rw [hn] at h1; cases h1; exact ih h2
    | tok h1 h2 => rw [hn] at h1; cases h1
  | @tok p t c r l hn hl ih =>
    intro l' h'
    cases h' with
    | skip h1 h2 => rw [hn] at h1; cases h1
    | tok h1 h2 => rw [hn] at h1; cases h1; rw [ih h2]
section
variable {xs : List O}
end
end Go.Proofs.YtobdhcaoeholhaaGreatDoor
/- A term without operators: its text tells it: pure. -/
namespace Go.Proofs.YtobdhcaoeholhaaGreatDoor
open Go.RowKit
set_option linter.unusedVariables false

def noO : List UInt8 → O × Bool := fun _ => zO
theorem tab_no : TabW noO noO := by
  constructor
  all_goals (intros; first | rfl | exact ⟨rfl, rfl⟩ | (rename_i h; cases h))
theorem plain_wrt {vs : List Int} (hv : vs.length < 10000000000000000000000000) : ∀ (N : Nat) (x : Tm), sizeN x ≤ N → formedT x = true → numsT x → inV vs x → ∃ lv clo beg, lv ≤ 0 ∧ Wrt noO noO vs x lv (-1) clo beg (PLAIN vs x)
  | 0, x, h, _, _, _ => by have := size_pos x; omega
  | N + 1, .mk k n s ts, hN, hf, hn, hi => by
    have ih : ∀ y ∈ ts, ∃ lv clo beg, lv ≤ 0 ∧ Wrt noO noO vs y lv (-1) clo beg (PLAIN vs y) := fun y hy => by
      rw [sizeN] at hN
      have := sizes_mem hy
      rw [formedT, Bool.and_eq_true] at hf
      rw [numsT] at hn
      rw [inV] at hi
      exact plain_wrt hv N y (by omega) (formed_mem hf.2 hy) (nums_mem hn.2 hy) (inVs_mem hi.2 hy)
    rw [formedT, Bool.and_eq_true] at hf
    have hp := hf.1
    unfold plainT at hp
    rw [PLAIN_eq]
    by_cases hk0 : k = 0
    · subst hk0
      rw [if_pos rfl] at hp
      simp only [Bool.and_eq_true, decide_eq_true_eq] at hp
      have hts : ts = [] := List.length_eq_zero_iff.1 hp.2
      subst hts
      have hs : s = ⟨#[]⟩ := bytes_eq (by simpa using hp.1.2)
      rw [inV] at hi
      have hb : calledW vs (PLAIN vs) (.mk 0 n s []) = 95 :: numW (idxW vs n) := by
        show (95 :: numW (idxW vs n)) ++ [] = _
        rw [List.append_nil]
      rw [hb]
      exact ⟨0, false, true, Int.le_refl _, wrt_var hs hv (hi.1 rfl)⟩
    rw [if_neg hk0] at hp
    by_cases hk1 : k = 1
    · subst hk1
      rw [if_pos rfl] at hp
      simp only [Bool.and_eq_true, decide_eq_true_eq] at hp
      have hts : ts = [] := List.length_eq_zero_iff.1 hp.2
      subst hts
      have hs : s = ⟨#[]⟩ := bytes_eq (by simpa using hp.1)
      subst hs
      rw [numsT] at hn
      have hb : calledW vs (PLAIN vs) (.mk 1 n ⟨#[]⟩ []) = numW n := by
        show numW n ++ [] = _
        rw [List.append_nil]
      rw [hb]
      exact ⟨0, false, _, Int.le_refl _, wrt_num (hn.1 rfl)⟩
    rw [if_neg hk1] at hp
    by_cases hk2 : k = 2
    · subst hk2
      rw [if_pos rfl] at hp
      simp only [Bool.and_eq_true, decide_eq_true_eq] at hp
      obtain ⟨⟨⟨hn0, hlen⟩, _⟩, hlet⟩ := hp
      subst hn0
      have hm : (bl s).all mayQ = true := may_letters hlet
      have hl64 : (bl s).length ≤ 64 := hlen
      match ts, ih with
      | [], _ =>
        have hb : calledW vs (PLAIN vs) (.mk 2 0 s []) = quoteB (bl s) := by
          show quoteB (bl s) ++ [] = _
          rw [List.append_nil]
        rw [hb]
        obtain ⟨lv, h1, h2⟩ := wrt_atom (vs := vs) tab_no hm hl64
        exact ⟨lv, _, _, h1, h2⟩
      | a :: r, ih =>
        refine ⟨0, false, true, Int.le_refl _, ?_⟩
        show Wrt noO noO vs (.mk 2 0 s (a :: r)) 0 (-1) false true (quoteB (bl s) ++ 40 :: (rowW (PLAIN vs) (a :: r) ++ [41]))
        refine wrt_comp tab_no hm hl64 (by simp) (fun y hy => ?_)
        obtain ⟨lv, clo, beg, h1, h2⟩ := ih y hy
        exact ⟨lv, -1, clo, beg, by omega, by omega, h2⟩
    rw [if_neg hk2] at hp
    cases hp
theorem plain_toks {x : Tm} (hx : goodT x = true) (hn : numsT x) : ∃ t, Pc 0 (PLAIN (varsT x []) x) t ∧ ∀ p, wholeR noO noO (t ++ [endTok p]) = some (renT (varsT x []) x, ⟨[], (varsT x []).length, nmsW (varsT x []).length⟩) := by
  obtain ⟨h1, h2, h3⟩ := good_parts hx
  have hl := wvars_len x []
  rw [List.length_nil] at hl
  obtain ⟨lv, clo, beg, l1, hw⟩ := plain_wrt (vs := varsT x []) (by omega) (sizeN x) x (Nat.le_refl _) h3 hn (inV_of x [] h3 (fun n hn => hn))
  obtain ⟨hd, tl, g1, g2, g3, g4⟩ := hw.toks 0
  refine ⟨hd :: tl, g1, fun p => ?_⟩
  have hfol : FolL noO 1200 [endTok p] := ⟨by show (6 : Nat) ≠ 4; omega, Or.inl rfl⟩
  have hr := g4 [] (List.prefix_refl _) 1200 (by omega) [endTok p] (hfol.le (by decide)) (fun _ => rfl)
  rw [fol_stop hfol] at hr
  unfold wholeR
  have e : anewR ((hd :: tl) ++ [endTok p]) = stW ((hd :: tl) ++ [endTok p]) [] := rfl
  rw [e, hr]
  rfl
/-- One text, one term. -/
theorem plain_one {x y : Tm} (hx : goodT x = true) (hnx : numsT x) (hy : goodT y = true) (hny : numsT y) (h : PLAIN (varsT x []) x = PLAIN (varsT y []) y) : renT (varsT x []) x = renT (varsT y []) y := by
  obtain ⟨t, h1, h2⟩ := plain_toks hx hnx
  obtain ⟨u, k1, k2⟩ := plain_toks hy hny
  rw [← h] at k1
  have hlx : ∀ t, Pc 0 (PLAIN (varsT x []) x) t → LexTo 0 (PLAIN (varsT x []) x ++ [32, 46]) (t ++ [endTok ((PLAIN (varsT x []) x).length + 1)]) := fun t ht => by
    refine ht [32, 46] _ (by show stopB 32 = true; decide) ?_
    rw [Nat.zero_add]
    exact blank_step (LexTo.tok (t := ⟨6, [], 0, 1, false⟩) rfl (LexTo.nil _))
  have he := List.append_cancel_right (lexTo_one (hlx t h1) (hlx u k1))
  subst he
  have h3 := h2 0
  rw [k2 0] at h3
  injection h3 with h3
  exact (congrArg Prod.fst h3).symm
end Go.Proofs.YtobdhcaoeholhaaGreatDoor
/- Without operators a term is written in no more letters: pure. -/
namespace Go.Proofs.YtobdhcaoeholhaaGreatDoor
open Go.RowKit
set_option linter.unusedVariables false

theorem var_wide {vs : List Int} (hv : vs.length ≤ 10000) {n : Int} (h : n ∈ vs) : (95 :: numW (idxW vs n)).length ≤ 5 := by
  obtain ⟨i, _, e, hi⟩ := idx_nat h
  rw [e, List.length_cons, numW_nat]
  have := digF_fit 25 i 4 (by decide) (by omega)
  unfold digW
  omega
theorem row_wide {W : Tm → List UInt8} : ∀ (a : Tm) (l : List Tm), (∀ x ∈ a :: l, (W x).length ≤ wlT x) → (rowW W (a :: l)).length + 1 ≤ wlL (a :: l)
  | a, [], h => by
    have := h a (by simp)
    show (W a).length + 1 ≤ _
    rw [wlL, wlL]
    omega
  | a, b :: r, h => by
    have h1 := h a (by simp)
    have h2 := row_wide b r (fun x hx => h x (List.mem_cons_of_mem _ hx))
    show (W a ++ 44 :: rowW W (b :: r)).length + 1 ≤ _
    rw [wlL, List.length_append, List.length_cons]
    omega
theorem plain_wide {vs : List Int} (hv : vs.length ≤ 10000) : ∀ (N : Nat) (x : Tm), sizeN x ≤ N → formedT x = true → inV vs x → (PLAIN vs x).length ≤ wlT x
  | 0, x, h, _, _ => by have := size_pos x; omega
  | N + 1, .mk k n s ts, hN, hf, hi => by
    have ih : ∀ y ∈ ts, (PLAIN vs y).length ≤ wlT y := fun y hy => by
      rw [sizeN] at hN
      have := sizes_mem hy
      rw [formedT, Bool.and_eq_true] at hf
      rw [inV] at hi
      exact plain_wide hv N y (by omega) (formed_mem hf.2 hy) (inVs_mem hi.2 hy)
    rw [formedT, Bool.and_eq_true] at hf
    have hp := hf.1
    unfold plainT at hp
    rw [PLAIN_eq]
    by_cases hk0 : k = 0
    · subst hk0
      rw [if_pos rfl] at hp
      simp only [Bool.and_eq_true, decide_eq_true_eq] at hp
      have hts : ts = [] := List.length_eq_zero_iff.1 hp.2
      subst hts
      rw [inV] at hi
      show ((95 :: numW (idxW vs n)) ++ []).length ≤ _
      rw [List.append_nil, wl_var n]
      exact var_wide hv (hi.1 rfl)
    rw [if_neg hk0] at hp
    by_cases hk1 : k = 1
    · subst hk1
      rw [if_pos rfl] at hp
      simp only [Bool.and_eq_true, decide_eq_true_eq] at hp
      have hts : ts = [] := List.length_eq_zero_iff.1 hp.2
      subst hts
      show (numW n ++ []).length ≤ _
      rw [List.append_nil, wl_int]
      exact Nat.le_refl _
    rw [if_neg hk1] at hp
    by_cases hk2 : k = 2
    · subst hk2
      rw [wl_comp]
      match ts, ih with
      | [], _ =>
        show (quoteB (bl s) ++ []).length ≤ _
        rw [List.append_nil]
        unfold lenQ
        omega
      | a :: r, ih =>
        show (quoteB (bl s) ++ 40 :: (rowW (PLAIN vs) (a :: r) ++ [41])).length ≤ _
        have := row_wide a r ih
        rw [List.length_append, List.length_cons, List.length_append, List.length_singleton]
        unfold lenQ
        omega
    rw [if_neg hk2] at hp
    cases hp
/-- All that is wanted of two terms that were read. -/
theorem settle_short {xs : List O} {s : List UInt8} (hs : s.length ≤ 602) {p : Tm × List NmP} (h : readB oneR xs s = .ok p) : (PLAIN (varsT p.1 []) p.1).length ≤ 4096 := by
  obtain ⟨h1, h2⟩ := read_fit h
  obtain ⟨g1, g2, g3⟩ := good_parts h1
  have hl := wvars_len p.1 []
  rw [List.length_nil] at hl
  have := plain_wide (vs := varsT p.1 []) (by omega) _ p.1 (Nat.le_refl _) g3 (inV_of p.1 [] g3 (fun n hn => hn))
  omega
theorem settle_ren {xs : List O} {s : List UInt8} {p : Tm × List NmP} (h : readB oneR xs s = .ok p) : renT (varsT p.1 []) p.1 = p.1 := by
  obtain ⟨n, hn⟩ := read_order h
  exact ren_order (read_fit h).1 hn
theorem settle_plain {xs : List O} {s r : List UInt8} {p q : Tm × List NmP} (h : readB oneR xs s = .ok p) (h' : readB oneR xs r = .ok q) (hn : numsT p.1) (hn' : numsT q.1) : PLAIN (varsT p.1 []) p.1 = PLAIN (varsT q.1 []) q.1 ↔ p.1 = q.1 := by
  constructor
  · intro e
    have := plain_one (read_fit h).1 hn (read_fit h').1 hn' e
    rw [settle_ren h, settle_ren h'] at this
    exact this
  · intro e; rw [e]
theorem settle_write {xs : List O} (hg : goodB xs = true) {s r : List UInt8} {p q : Tm × List NmP} (h : readB oneR xs s = .ok p) (h' : readB oneR xs r = .ok q) (hn : numsT p.1) (hn' : numsT q.1) : writeT xs p.1 = writeT xs q.1 ↔ p.1 = q.1 := by
  constructor
  · intro e
    obtain ⟨t, h1, h2⟩ := write_toks (xs := xs) (read_fit h).1 hn
    obtain ⟨u, k1, k2⟩ := write_toks (xs := xs) (read_fit h').1 hn'
    have l1 := write_lex h1
    have l2 := write_lex k1
    rw [← e] at l2
    have he := List.append_cancel_right (lexTo_one l1 l2)
    subst he
    have h3 := h2 0
    rw [k2 0] at h3
    injection h3 with h3
    have := congrArg Prod.fst h3
    simp only at this
    rw [settle_ren h, settle_ren h'] at this
    exact this.symm
  · intro e; rw [e]
/-- Written, and read again: the same term, or too much. -/
theorem settle_read {xs : List O} (hg : goodB xs = true) {s : List UInt8} {p : Tm × List NmP} (h : readB oneR xs s = .ok p) (hn : numsT p.1) :
    (∃ l, cutB (writeT xs p.1 ++ [32, 46]) = .ok l ∧ readB oneR xs (writeT xs p.1 ++ [32, 46]) = .ok (p.1, nmsW (varsT p.1 []).length)) ∨ ∃ q, cutB (writeT xs p.1 ++ [32, 46]) = .bad q true := by
  have := write_read hg (read_fit h).1 hn
  rw [settle_ren h] at this
  exact this
end Go.Proofs.YtobdhcaoeholhaaGreatDoor
