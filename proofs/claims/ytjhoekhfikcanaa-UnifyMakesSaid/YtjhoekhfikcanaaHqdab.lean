import Derived.Test.YtjhoekhfikcanaaHqdaa
import Derived.WalkKit
import Derived.WalkSpells
import Derived.WalkLawsBesides
import Derived.Lib.Hide
import Derived.ProofKit
import Derived.OpenShut
import Derived.SizedLaws
import Derived.SliceStrings
import Derived.Carry
import Derived.Stop.Joined
import Derived.Maps.AppendAt
import Derived.Deep.Upon
import Derived.Deep.AppendSrc
import Derived.Laws.CopyOwn
import Derived.Laws.CopyRow
import Derived.Laws.Pointers
import Derived.Deep.OwnRows
import Derived.Deep.QuietTactic
import Derived.BigQuiet
import Derived.OwnWalk
import Derived.Test.YtjhoekhfikcanaaRows
import Derived.Deep.Slices
set_option linter.unusedVariables false
set_option linter.unusedSimpArgs false
/- Making alike, either way round; terms that are alike but for names. Nothing here is walked. -/
namespace Go.Proofs.Ytjhoekhfikcanaa

/-- Where a number stands first. -/
def posI : List Int → Int → Nat
  | [], _ => 0
  | x :: r, m => if x = m then 0 else posI r m + 1
/-- Its variables, numbered by where they first stand. -/
def renV (l : List Int) (base : Int) : Int → Tm := fun m => varV (base + (posI l m : Int))
def renT (base : Int) (t : Tm) : Tm := subT (renV (varsT t []) base) t
theorem posI_map {a : Int → Int} {m : Int} : ∀ l : List Int, (∀ x ∈ l, a x = a m → x = m) → posI (l.map a) (a m) = posI l m
  | [], _ => rfl
  | x :: r, h => by
    rw [List.map_cons, posI, posI, posI_map r fun y hy => h y (by simp [hy])]
    by_cases e : x = m
    · rw [if_pos e, if_pos (by rw [e])]
    · rw [if_neg e, if_neg (fun q => e (h x (by simp) q))]
theorem contains_map {a : Int → Int} {l : List Int} {m : Int} (h : ∀ x ∈ l, a x = a m → x = m) : (l.map a).contains (a m) = l.contains m := by
  rw [Bool.eq_iff_iff]
  simp only [List.contains_iff_mem, List.mem_map]
  constructor
  · rintro ⟨x, hx, e⟩
    rw [← h x hx e]; exact hx
  · intro hm
    exact ⟨m, hm, rfl⟩
mutual
theorem vars_map {a : Int → Int} {D : Int → Prop} (inj : ∀ x y, D x → D y → a x = a y → x = y) : ∀ (t : Tm) (l : List Int), (∀ m ∈ occT t, D m) → (∀ m ∈ l, D m) → varsT (subT (fun m => varV (a m)) t) (l.map a) = (varsT t l).map a ∧ ∀ m ∈ varsT t l, D m
  | .mk k n s ts, l, ht, hl => by
    by_cases hk : k = 0
    · subst hk
      have hn := ht n (by rw [occ_var]; simp)
      rw [sub_var]
      unfold varV
      rw [varsT, varsT, if_pos rfl, if_pos rfl, contains_map fun x hx e => inj x n (hl x hx) hn e]
      by_cases hc : l.contains n = true
      · rw [if_pos hc, if_pos hc]; exact ⟨rfl, hl⟩
      · rw [if_neg hc, if_neg hc]
        refine ⟨by simp, fun m hm => ?_⟩
        rcases List.mem_append.1 hm with hm | hm
        · exact hl m hm
        · simp at hm; subst hm; exact hn
    · rw [sub_not _ hk, varsT, varsT, if_neg hk, if_neg hk]
      rw [occ_not hk] at ht
      exact varss_map inj ts l ht hl
theorem varss_map {a : Int → Int} {D : Int → Prop} (inj : ∀ x y, D x → D y → a x = a y → x = y) : ∀ (ts : List Tm) (l : List Int), (∀ m ∈ occL ts, D m) → (∀ m ∈ l, D m) → varsL (subL (fun m => varV (a m)) ts) (l.map a) = (varsL ts l).map a ∧ ∀ m ∈ varsL ts l, D m
  | [], l, _, hl => by rw [subL, varsL, varsL]; exact ⟨rfl, hl⟩
  | x :: r, l, ht, hl => by
    rw [occL] at ht
    obtain ⟨h1, h2⟩   := vars_map inj x l (fun m hm => ht m (by simp [hm])) hl
    obtain ⟨h3, h4⟩   := varss_map inj r (varsT x l) (fun m hm => ht m (by simp [hm])) h2
    rw [subL, varsL, varsL, h1]
    exact ⟨h3, h4⟩
end
mutual
theorem mem_vars2 {n : Int} : ∀ (t : Tm) (l : List Int), n ∈ varsT t l ↔ n ∈ l ∨ n ∈ occT t
  | .mk k m s ts, l => by
    rw [varsT, occT]
    by_cases hk : k = 0
    · rw [if_pos hk, if_pos hk]
      by_cases hm : l.contains m = true
      · rw [if_pos hm]
        have hm' : m ∈ l := by simpa using hm
        constructor
        · exact Or.inl
        · rintro (h | h)
          · exact h
          · simp at h; subst h; exact hm'
      · rw [if_neg hm]
        simp
    · rw [if_neg hk, if_neg hk]
      exact mem_varss2 ts l
theorem mem_varss2 {n : Int} : ∀ (ts : List Tm) (l : List Int), n ∈ varsL ts l ↔ n ∈ l ∨ n ∈ occL ts
  | [], l => by simp [varsL, occL]
  | x :: r, l => by
    rw [varsL, occL, mem_varss2 r, mem_vars2 x, List.mem_append, or_assoc]
end
mutual
theorem back_var {A B : Int → Tm} : ∀ t : Tm, formedT t = true → subT B (subT A t) = t → ∀ m ∈ occT t, subT B (A m) = varV m
  | .mk k n s ts, hf, h, m, hm => by
    by_cases hk : k = 0
    · subst hk
      rw [occ_var] at hm
      simp at hm
      subst hm
      rw [sub_var] at h
      rw [h]
      exact (formed_var hf).1
    · rw [occ_not hk] at hm
      rw [sub_not _ hk, sub_not _ hk] at h
      injection h with _ _ _ h
      rw [formedT, Bool.and_eq_true] at hf
      exact backs_var ts hf.2 h m hm
theorem backs_var {A B : Int → Tm} : ∀ ts : List Tm, formedL ts = true → subL B (subL A ts) = ts → ∀ m ∈ occL ts, subT B (A m) = varV m
  | [], hf, h, m, hm => by simp [occL] at hm
  | x :: r, hf, h, m, hm => by
    rw [formedL, Bool.and_eq_true] at hf
    rw [subL, subL] at h
    injection h with h1 h2
    rw [occL, List.mem_append] at hm
    rcases hm with hm | hm
    · exact back_var x hf.1 h1 m hm
    · exact backs_var r hf.2 h2 m hm
end
mutual
theorem sub_formed_at {A : Int → Tm} : ∀ t : Tm, formedT (subT A t) = true → ∀ m ∈ occT t, formedT (A m) = true
  | .mk k n s ts, hf, m, hm => by
    by_cases hk : k = 0
    · subst hk
      rw [occ_var] at hm
      simp at hm
      subst hm
      rw [sub_var] at hf
      exact hf
    · rw [occ_not hk] at hm
      rw [sub_not _ hk, formedT, Bool.and_eq_true] at hf
      exact subs_formed_at ts hf.2 m hm
theorem subs_formed_at {A : Int → Tm} : ∀ ts : List Tm, formedL (subL A ts) = true → ∀ m ∈ occL ts, formedT (A m) = true
  | [], hf, m, hm => by simp [occL] at hm
  | x :: r, hf, m, hm => by
    rw [subL, formedL, Bool.and_eq_true] at hf
    rw [occL, List.mem_append] at hm
    rcases hm with hm | hm
    · exact sub_formed_at x hf.1 m hm
    · exact subs_formed_at r hf.2 m hm
end
mutual
theorem size_same {A : Int → Tm} : ∀ t : Tm, formedT t = true → (∀ m ∈ occT t, ∃ j, A m = varV j) → sizeN (subT A t) = sizeN t ∧ depthN (subT A t) = depthN t
  | .mk k n s ts, hf, h => by
    by_cases hk : k = 0
    · subst hk
      obtain ⟨j, hj⟩ := h n (by rw [occ_var]; simp)
      rw [sub_var, hj, (formed_var hf).1]
      unfold varV
      rw [sizeN, sizeN, depthN, depthN]
      exact ⟨rfl, rfl⟩
    · rw [formedT, Bool.and_eq_true] at hf
      rw [occ_not hk] at h
      obtain ⟨e1, e2⟩ := sizes_same ts hf.2 h
      rw [sub_not _ hk, sizeN, sizeN, depthN, depthN, e1, e2]
      exact ⟨rfl, rfl⟩
theorem sizes_same {A : Int → Tm} : ∀ ts : List Tm, formedL ts = true → (∀ m ∈ occL ts, ∃ j, A m = varV j) → sizesN (subL A ts) = sizesN ts ∧ depthsN (subL A ts) = depthsN ts
  | [], _, _ => by rw [subL]; exact ⟨rfl, rfl⟩
  | x :: r, hf, h => by
    rw [formedL, Bool.and_eq_true] at hf
    rw [occL] at h
    obtain ⟨e1, e2⟩ := size_same x hf.1 fun m hm => h m (by simp [hm])
    obtain ⟨e3, e4⟩ := sizes_same r hf.2 fun m hm => h m (by simp [hm])
    rw [subL, sizesN, sizesN, depthsN, depthsN, e1, e2, e3, e4]
    exact ⟨rfl, rfl⟩
end
/-- Each made of the other: alike but for names. -/
theorem variants {A B : Int → Tm} {s u : Tm} (hs : formedT s = true) (hu : formedT u = true) (h1 : subT A s = u) (h2 : subT B u = s) : renT 0 s = renT 0 u ∧ goodT s = goodT u := by
  have hb := back_var (A := A) (B := B) s hs (by rw [h1, h2])
  have hf := sub_formed_at (A := A) s (by rw [h1]; exact hu)
  have hA : ∀ m ∈ occT s, A m = varV (A m).n ∧ B (A m).n = varV m := fun m hm => by
    have e := hb m hm
    have f := hf m hm
    generalize A m = z at *
    obtain ⟨k, n, s', ts⟩ := z
    by_cases hk : k = 0
    · subst hk
      rw [sub_var] at e
      exact ⟨(formed_var f).1, e⟩
    · rw [sub_not _ hk] at e
      unfold varV at e
      injection e with e
      exact absurd e hk
  have hu' : u = subT (fun m => varV (A m).n) s := by rw [← h1]; exact sub_congr s fun m hm => (hA m hm).1
  have hinj : ∀ x y, x ∈ occT s → y ∈ occT s → (A x).n = (A y).n → x = y := fun x y hx hy e => by
    have e1 := (hA x hx).2
    rw [e, (hA y hy).2] at e1
    unfold varV at e1
    injection e1 with _ e2
    exact e2.symm
  have hv := vars_map (a := fun m => (A m).n) (D := fun m => m ∈ occT s) hinj s [] (fun m hm => hm) (fun m hm => by cases hm)
  have hv1 : varsT u [] = (varsT s []).map fun m => (A m).n := by rw [hu']; exact hv.1
  constructor
  · unfold renT
    rw [hv1]
    conv => rhs; rw [hu', sub_sub]
    refine sub_congr s fun m hm => ?_
    rw [sub_varV]
    unfold renV
    rw [posI_map (a := fun m => (A m).n) (m := m) _ fun x hx e => hinj x m (hv.2 x hx) hm e]
  · obtain ⟨e1, e2⟩ := size_same (A := A) s hs fun m hm => ⟨_, (hA m hm).1⟩
    rw [h1] at e1 e2
    unfold goodT
    rw [e1, e2, hs, hu]
/-- Either way round it is the same, but for names. -/
theorem uni_swap {N : Nat} (hN : N ≤ 65536) {x y : Tm} (hx : InN N x) (hy : InN N y) (h1 : (uniT 2000 [] x y 0).cost ≤ 2000) (h2 : (uniT 2000 [] y x 0).cost ≤ 2000) :
    (uniT 2000 [] x y 0).ok = (uniT 2000 [] y x 0).ok ∧ ((uniT 2000 [] x y 0).ok = true → subT (fullB (uniT 2000 [] x y 0).set) x = subT (fullB (uniT 2000 [] x y 0).set) y ∧
      renT 0 (subT (fullB (uniT 2000 [] x y 0).set) x) = renT 0 (subT (fullB (uniT 2000 [] y x 0).set) x) ∧ goodT (subT (fullB (uniT 2000 [] x y 0).set) x) = goodT (subT (fullB (uniT 2000 [] y x 0).set) x)) := by
  have p1 := uni_post 2000 [] x y 0 (OkS.nil hN) hx hy (by omega) (by omega)
  have p2 := uni_post 2000 [] y x 0 (OkS.nil hN) hy hx (by omega) (by omega)
  have hr : ∀ A : Int → Tm, Resp N A (fullB []) := fun A m _ _ => by rw [fullB, sub_varV]
  have k1 : (uniT 2000 [] x y 0).ok = true → (uniT 2000 [] y x 0).ok = true ∧ Resp N (fullB (uniT 2000 [] x y 0).set) (fullB (uniT 2000 [] y x 0).set) := fun h => p2.most _ (hr _) (p1.made h).1.symm h2
  have k2 : (uniT 2000 [] y x 0).ok = true → (uniT 2000 [] x y 0).ok = true ∧ Resp N (fullB (uniT 2000 [] y x 0).set) (fullB (uniT 2000 [] x y 0).set) := fun h => p1.most _ (hr _) (p2.made h).1.symm h1
  refine ⟨by rw [Bool.eq_iff_iff]; exact ⟨fun h => (k1 h).1, fun h => (k2 h).1⟩, fun h => ⟨(p1.made h).1, ?_⟩⟩
  obtain ⟨g1, g2⟩ := k1 h
  exact variants (A := fullB (uniT 2000 [] y x 0).set) (B := fullB (uniT 2000 [] x y 0).set) (p1.oks.inN hx).1 (p2.oks.inN hx).1 ((k2 g1).2.at hx.2) (g2.at hx.2)
end Go.Proofs.Ytjhoekhfikcanaa
/- Small facts of ours about endings, byte strings and slices of strings in memory; nothing here speaks of one program. -/
namespace Go.Proofs.Ytjhoekhfikcanaa
open Go.RowKit

theorem ret_bool {a b : Bool} (h : a = b) : Ending.returned (.bool a) = .returned (.bool b) := by rw [h]
theorem ret_int {k : IntKind} {a b : Int} (h : a = b) : Ending.returned (.int k a) = .returned (.int k b) := by rw [h]
/-- Whatever lay in W lies in w as it lay. -/
abbrev Ext (W w : World) : Prop := Below W.heap.size W w
theorem Ext.trans' {a b c : World} (h : Below a.heap.size a b) (k : Below b.heap.size b c) : Below a.heap.size a c := h.trans (k.mono h.size)
end Go.Proofs.Ytjhoekhfikcanaa
/- How the arguments of a law are opened: from the form's reading to our own predicates. Nothing here speaks of one program. -/
namespace Go.Proofs.Ytjhoekhfikcanaa
open Go.RowKit Go.ChangeShapes Go.WideShapes Go.ChangeAt

section
variable {H : Type} {enc : TypeId × Value → H} {P : Program} {W : World}

theorem weights_ok {ts : List TypeId} {ds : List (DataW H)} (h : (DataW.weightsEach P ts ds).all (· ≤ reachBytes) = true) {j : Nat} {t : TypeId} {d : DataW H} (ht : ts[j]? = some t) (hd : ds[j]? = some d) :
    ∀ n ∈ d.weights P t, n ≤ 140737488351232 := fun n hn => by
  have := List.all_eq_true.1 h n (DataW.weights_mem_each ht hd n hn)
  have e : reachBytes = 140737488351232 := by decide
  simpa [e] using this
theorem weights_all_mem {e : TypeId} : ∀ {l : List (DataW H)} {d : DataW H}, d ∈ l → ∀ n ∈ d.weights P e, n ∈ DataW.weightsAll P e l
  | a :: r, d, h, n, hn => by
    simp only [DataW.weightsAll, List.mem_append]
    rcases List.mem_cons.1 h with rfl | h
    · exact Or.inl hn
    · exact Or.inr (weights_all_mem h n hn)

theorem lt_of_trod {t : TypeId} {v : Value} {d : DataW H} {ps : List MemPlace} (h : DataW.Trod enc P W 0 (fun _ => true) true t v d ps) : ∀ x ∈ ps, x.block < W.heap.size := by
  obtain ⟨m, hm⟩ := h; exact DataW.trod_lt m _ _ _ hm

theorem add_plain (b o i : Nat) : (⟨b, o, none⟩ : Addr).add i = ⟨b, o + i, none⟩ := by
  unfold Addr.add; split
  · rename_i h; rw [h]; rfl
  · rfl
theorem spot_of_cell {w : World} {x : Addr} {v : Value} (h : w.cell? (x.add 0) = some v) : x.spot = none := by
  rcases x with ⟨xb, xo, xs⟩
  cases xs with
  | none => rfl
  | some q =>
    exfalso
    rw [show (⟨xb, xo, some q⟩ : Addr).add 0 = ⟨xb, xo, some q⟩ from rfl] at h
    unfold World.cell? at h
    split at h <;> simp at h
end
end Go.Proofs.Ytjhoekhfikcanaa
/- append of whatever slice to a row of the call's own: also of nothing. Nothing here speaks of one program. -/
namespace Go.Proofs.Ytjhoekhfikcanaa
open Go.RowKit

theorem row_form {w : World} {b e sz n : Nat} {v : Value} {xs : List Value} (h : w.ownsRow b e sz v n xs) : ∃ a c, v = .slice a n c ∧ n ≤ c := by
  rcases h.2 with ⟨rfl, h0⟩ | ⟨g, cap, cur, rfl, _, _, h1, _⟩
  · exact ⟨none, 0, by rw [h0], by omega⟩
  · exact ⟨_, cap, rfl, h1⟩
section
variable {P : Program}
theorem run_append_any (w : World) (base : Nat) (t ty e : TypeId) (i : TypeInfo) (z : Value) (bytes : Nat) (ht : P.underlying t = some (.slice e)) (hi : P.info? e = some i) (hz : i.zero = some z) (hsize : i.size = 1) (hby : i.bytes = bytes) (hzs : z.cells.size = 1)
    (v : Value) (n : Nat) (xs : List Value) (hown : w.ownsRow base e 1 v n xs) (ao : Option Addr) (m c : Nat) (news : List Value) (hl : news.length = m)
    (hsrc : m = 0 ∨ ∃ ad, ao = some ad ∧ ∀ j u, news[j]? = some u → w.cell? (ad.add j) = some u) (h1 : ∀ u ∈ news, u.oneCell' = true)
    (h63 : n + m ≤ maxLen) (hbytes : (n + m) * bytes ≤ 140737488355328) (hbase : base ≤ w.heap.size) :
    ∃ v' w', (Builtin.append_ #[t, t] ty #[v, .slice ao m c]).run P w = .ok v' w' ∧ w'.ownsRow base e 1 v' (n + m) (xs ++ news) ∧ w.grownBy w' v.ownBlock ∧ (v'.ownBlock = v.ownBlock ∨ v'.ownBlock = some w.heap.size) := by
  by_cases hm : m = 0
  · subst hm
    obtain rfl : news = [] := List.length_eq_zero_iff.1 hl
    obtain ⟨a, cc, rfl, hle⟩ := row_form hown
    have hs : Src P i.size t (.slice ao 0 c) 0 [] w := by
      refine ⟨Or.inl ⟨e, ht⟩, fun w' => rfl, ?_, ?_, by simp, by simp⟩
      · cases ao with
        | none => rfl
        | some ad => exact run_firstCells_some w i.size 0 ad 0 c [] (by simp) (by simp)
      · cases ao with
        | none => rfl
        | some ad => exact run_firstCells_some w.drew i.size 0 ad 0 c [] (by simp) (by simp)
    exact ⟨_, w, run_append_nothing w t t ty e i ht hi a n cc hle _ hs, by simpa using hown, ⟨rfl, rfl, rfl, Nat.le_refl _, fun _ _ _ => rfl⟩, Or.inl rfl⟩
  · rcases hsrc with h0 | ⟨ad, rfl, hc⟩
    · exact absurd h0 hm
    obtain ⟨v', w', r1, r2, r3, _, r5⟩ := run_append_own_at (P := P) w base t ty e i z 1 bytes ht hi hz hsize hby hzs (by omega) v n xs hown ad m c news (by omega) hc h1 h63 hbytes hbase
    exact ⟨v', w', r1, r2, r3, r5⟩
theorem wp_append_any {w : World} {o : Oper} {a : Act} {K : Act → World → Prop} {Q : Exit → Act → World → Prop} (s x : Operand) (t : TypeId)
    (ho : o.op = .call { callee := .builtin .append, args := #[s, x], argTypes := #[t, t] })
    (base : Nat) (e : TypeId) (i : TypeInfo) (z : Value) (bytes : Nat) (ht : P.underlying t = some (.slice e)) (hi : P.info? e = some i) (hz : i.zero = some z) (hsize : i.size = 1) (hby : i.bytes = bytes) (hzs : z.cells.size = 1)
    (v : Value) (n : Nat) (xs : List Value) (hs : a.eval s = v) (hown : w.ownsRow base e 1 v n xs) (ao : Option Addr) (m c : Nat) (news : List Value) (hx : a.eval x = .slice ao m c) (hl : news.length = m)
    (hsrc : m = 0 ∨ ∃ ad, ao = some ad ∧ ∀ j u, news[j]? = some u → w.cell? (ad.add j) = some u) (h1 : ∀ u ∈ news, u.oneCell' = true)
    (h63 : n + m ≤ maxLen) (hbytes : (n + m) * bytes ≤ 140737488355328) (hbase : base ≤ w.heap.size) (N : Nat) (L : List Value) (hN : N = n + m) (hL : L = xs ++ news)
    (h : ∀ (a' : Option Addr) (c' : Nat) (w' : World), w'.ownsRow base e 1 (.slice a' N c') N L → w.grownBy w' v.ownBlock → ((Value.slice a' N c').ownBlock = v.ownBlock ∨ (Value.slice a' N c').ownBlock = some w.heap.size) → K (a.put o.dst (.slice a' N c')) w') : o.wp P a w K Q := by
  subst hN hL
  obtain ⟨v', w', hr, h2, h3, h4⟩ := run_append_any (P := P) w base t o.type e i z bytes ht hi hz hsize hby hzs v n xs hown ao m c news hl hsrc h1 h63 hbytes hbase
  obtain ⟨a', c', rfl, _⟩ := row_form h2
  unfold Oper.wp execOp
  simp only [ho, resolve, invoke, builtin, Sem.run_bind, Sem.run_pure, Result.andThen_ok, List.map_toArray, List.map_cons, List.map_nil, hs, hx, hr]
  exact h a' c' w' h2 h3 h4
theorem wpList_append_any {w : World} {ops : Array Oper} {rest : List Oper} {o : Oper} {a : Act} {Q : Exit → Act → World → Prop} (hgd : o.guard = none) (s x : Operand) (t : TypeId)
    (ho : o.op = .call { callee := .builtin .append, args := #[s, x], argTypes := #[t, t] })
    (base : Nat) (e : TypeId) (i : TypeInfo) (z : Value) (bytes : Nat) (ht : P.underlying t = some (.slice e)) (hi : P.info? e = some i) (hz : i.zero = some z) (hsize : i.size = 1) (hby : i.bytes = bytes) (hzs : z.cells.size = 1)
    (v : Value) (n : Nat) (xs : List Value) (hs : a.eval s = v) (hown : w.ownsRow base e 1 v n xs) (ao : Option Addr) (m c : Nat) (news : List Value) (hx : a.eval x = .slice ao m c) (hl : news.length = m)
    (hsrc : m = 0 ∨ ∃ ad, ao = some ad ∧ ∀ j u, news[j]? = some u → w.cell? (ad.add j) = some u) (h1 : ∀ u ∈ news, u.oneCell' = true)
    (h63 : n + m ≤ maxLen) (hbytes : (n + m) * bytes ≤ 140737488355328) (hbase : base ≤ w.heap.size) (N : Nat) (L : List Value) (hN : N = n + m) (hL : L = xs ++ news)
    (h : ∀ (a' : Option Addr) (c' : Nat) (w' : World), w'.ownsRow base e 1 (.slice a' N c') N L → w.grownBy w' v.ownBlock → ((Value.slice a' N c').ownBlock = v.ownBlock ∨ (Value.slice a' N c').ownBlock = some w.heap.size) → wpList P ops Q rest (a.put o.dst (.slice a' N c')) w') :
    wpList P ops Q (o :: rest) a w := by
  refine wpList_plain hgd fun K hK => ?_
  exact wp_append_any s x t ho base e i z bytes ht hi hz hsize hby hzs v n xs hs hown ao m c news hx hl hsrc h1 h63 hbytes hbase N L hN hL (fun a' c' w' h2 h3 h4 => hK _ _ (h a' c' w' h2 h3 h4))
end
end Go.Proofs.Ytjhoekhfikcanaa
/- A stack in memory: its block, its row. -/
namespace Go.Proofs.Ytjhoekhfikcanaa
open Go.RowKit

/-- Of the old blocks none has turned but those of F. -/
structure Touch (F : List Nat) (w w' : World) : Prop where
  os : w'.os = w.os
  tape : w'.tape = w.tape
  output : w'.output = w.output
  size : w.heap.size ≤ w'.heap.size
  block : ∀ k, k < w.heap.size → k ∉ F → w'.heap[k]? = w.heap[k]?
theorem Touch.refl' (F : List Nat) (w : World) : Touch F w w := ⟨rfl, rfl, rfl, Nat.le_refl _, fun _ _ _ => rfl⟩
theorem Touch.of_below {w w' : World} (h : Below w.heap.size w w') (F : List Nat) : Touch F w w' := ⟨h.os, h.tape, h.output, h.size, fun k hk _ => h.block k hk⟩
theorem Touch.below {F : List Nat} {w w' : World} (h : Touch F w w') {B : Nat} (hB : B ≤ w.heap.size) (hF : ∀ k ∈ F, B ≤ k) : Below B w w' :=
  ⟨h.os, h.tape, h.output, h.size, fun k hk => h.block k (by omega) (fun hm => by have := hF k hm; omega)⟩
theorem Touch.trans {F F' : List Nat} {a b c : World} (h : Touch F a b) (h' : Touch F' b c) (hF : ∀ k ∈ F', k ∈ F ∨ a.heap.size ≤ k) : Touch F a c :=
  ⟨h'.os.trans h.os, h'.tape.trans h.tape, h'.output.trans h.output, Nat.le_trans h.size h'.size, fun k hk hn =>
    (h'.block k (Nat.lt_of_lt_of_le hk h.size) (fun hm => by rcases hF k hm with h1 | h1; exact hn h1; omega)).trans (h.block k hk hn)⟩
theorem Touch.sub {F F' : List Nat} {a b : World} (h : Touch F a b) (hs : ∀ k ∈ F, k ∈ F') : Touch F' a b := ⟨h.os, h.tape, h.output, h.size, fun k hk hn => h.block k hk (fun hm => hn (hs k hm))⟩
theorem belN {B : Nat} {a w : World} (h : Below B a w) (n : Nat) : Below B a (w.drewN n) := ⟨h.os, h.tape, h.output, h.size, h.block⟩
theorem blk_cell {w : World} {b t : Nat} {cs : Array Value} {fz : Nat × Nat} (h : w.heap[b]? = some (.cells cs t fz)) (i : Nat) : w.cell? ⟨b, i, none⟩ = cs[i]? := by simp [World.cell?, h]
theorem blk_froz {w : World} {b t : Nat} {cs : Array Value} (h : w.heap[b]? = some (.cells cs t (0, 0))) (i : Nat) : w.frozen? ⟨b, i, none⟩ = false := by simp [World.frozen?, h]
theorem blk_set {w : World} {b t : Nat} {x y : Value} (h : w.heap[b]? = some (.cells #[x, y] t (0, 0))) (u : Value) : (w.setCell ⟨b, 1, none⟩ u).heap[b]? = some (.cells #[x, u] t (0, 0)) := by
  simp [World.setCell, Array.getElem?_modify, h]
theorem heap_set_other (w : World) (a : Addr) (u : Value) (k : Nat) (h : k ≠ a.block) : (w.setCell a u).heap[k]? = w.heap[k]? := Below.heap_setCell w a u k h
theorem touch_set {w : World} {bt : Nat} {F : List Nat} {u : Value} : Touch (bt :: F) w (w.setCell ⟨bt, 1, none⟩ u) :=
  ⟨rfl, rfl, rfl, by simp [World.setCell], fun k _ hn => heap_set_other _ _ _ _ (fun e => hn (by simp [e]))⟩
theorem owns_row_block {w w' : World} {base e size n : Nat} {v : Value} {xs : List Value} (h : w.ownsRow base e size v n xs) (hb : ∀ k, v.ownBlock = some k → w'.heap[k]? = w.heap[k]?) : w'.ownsRow base e size v n xs := by
  refine ⟨h.1, ?_⟩
  rcases h.2 with h2 | ⟨g, cap, cur, rfl, h3, h4, h5⟩
  · exact Or.inl h2
  · exact Or.inr ⟨g, cap, cur, rfl, h3, (hb g rfl).trans h4, h5⟩
theorem row_cells {w : World} {e : TypeId} {v : Value} {xs : List Value} (hr : w.ownsRow 0 e 1 v xs.length xs) :
    (v = .slice none 0 0 ∧ xs = []) ∨ ∃ g c cur, v = .slice (some ⟨g, 0, none⟩) xs.length c ∧ w.heap[g]? = some (.cells cur e (0, 0)) ∧ xs.length ≤ c ∧ c ≤ maxLen ∧ cur.size = c ∧ cur.toList.take xs.length = xs := by
  rcases hr.2 with ⟨rfl, h0⟩ | ⟨g, cap, cur, rfl, hg, hh, hc1, hc2, hc3, hc4⟩
  · exact Or.inl ⟨rfl, List.length_eq_zero_iff.1 h0⟩
  · exact Or.inr ⟨g, cap, cur, rfl, hh, hc1, hc2, by simpa using hc3, by simpa using hc4⟩
theorem cells_row {w : World} {e : TypeId} {g c : Nat} {cur : Array Value} {xs : List Value} (hh : w.heap[g]? = some (.cells cur e (0, 0))) (h1 : xs.length ≤ c) (h2 : c ≤ maxLen) (h3 : cur.size = c) (h4 : cur.toList.take xs.length = xs) :
    w.ownsRow 0 e 1 (.slice (some ⟨g, 0, none⟩) xs.length c) xs.length xs := ⟨by simp, Or.inr ⟨g, c, cur, rfl, Nat.zero_le _, hh, h1, h2, by simpa using h3, by simpa using h4⟩⟩
theorem cur_at {cur : Array Value} {xs : List Value} (h4 : cur.toList.take xs.length = xs) {i : Nat} {x : Value} (hx : xs[i]? = some x) : cur[i]? = some x := by
  have hi := (List.getElem?_eq_some_iff.1 hx).1
  have h5 : (cur.toList.take xs.length)[i]? = some x := by rw [h4]; exact hx
  rw [List.getElem?_take, if_pos hi] at h5
  simpa using h5

/-- p is a stack at w: room for R, these on it, the first first; F: its blocks. -/
def IsStk (e tb : TypeId) (F : List Nat) (w : World) (p : Value) (R : Nat) (xs : List Value) : Prop :=
  ∃ bt v, p = .pointer (some ⟨bt, 0, none⟩) ∧ v.ownBlock ≠ some bt ∧ F = bt :: v.ownBlock.toList ∧ w.heap[bt]? = some (.cells #[.int .i64 (R : Int), v] tb (0, 0)) ∧ w.ownsRow 0 e 1 v xs.length xs ∧
    (∀ x ∈ xs, x.oneCell' = true) ∧ 1 ≤ R ∧ R ≤ 65536 ∧ xs.length ≤ R
section
variable {e tb : TypeId} {F : List Nat} {w : World} {p : Value} {R : Nat} {xs : List Value}
theorem IsStk.lt (h : IsStk e tb F w p R xs) : ∀ k ∈ F, k < w.heap.size := by
  obtain ⟨bt, v, rfl, h1, rfl, hb, hr, _⟩ := h
  intro k hk
  simp only [List.mem_cons, Option.mem_toList] at hk
  rcases hk with rfl | hk
  · exact (Array.getElem?_eq_some_iff.1 hb).1
  · exact (hr.lt k hk).2
theorem IsStk.keep {w' : World} (h : IsStk e tb F w p R xs) (hb : ∀ k ∈ F, w'.heap[k]? = w.heap[k]?) : IsStk e tb F w' p R xs := by
  obtain ⟨bt, v, rfl, h1, rfl, hbt, hr, hN⟩ := h
  exact ⟨bt, v, rfl, h1, rfl, (hb bt (by simp)).trans hbt, owns_row_block hr (fun k hk => hb k (by simp [hk])), hN⟩
theorem IsStk.ext {w' : World} (h : IsStk e tb F w p R xs) (hb : Below w.heap.size w w') : IsStk e tb F w' p R xs := h.keep (fun k hk => hb.block k (h.lt k hk))
theorem IsStk.room (h : IsStk e tb F w p R xs) : 1 ≤ R ∧ R ≤ 65536 ∧ xs.length ≤ R := by obtain ⟨bt, v, rfl, h1, rfl, hbt, hr, hN, h3⟩ := h; exact h3
end
section
variable {e tb : TypeId} {W w : World} {p : Value} {R : Nat} {xs : List Value} {G : List Nat}
end
theorem run_clear_row {P : Program} (w : World) (t e ty : TypeId) (z : Value) (ht : P.underlying t = some (.slice e)) (hv : ∀ w, (zeroValue e).run P w = .ok z w) (hz : z.cells = #[z]) (h1 : z.oneCell' = true) (g o n c : Nat) (cur : Array Value) (tt : TypeId)
    (hg : w.heap[g]? = some (.cells cur tt (0, 0))) (hn : 0 < n) (hfit : o + n ≤ cur.size) :
    (Builtin.clear_ #[t] ty #[.slice (some ⟨g, o, none⟩) n c]).run P w = .ok (.tuple #[]) (w.setRow g (cur.toList.take o ++ List.replicate n z ++ cur.toList.drop (o + n)).toArray) := by
  have hzc : (Builtin.zeroCells z.cells n).toList = List.replicate n z := by
    rw [hz]
    simp [Builtin.zeroCells]
    apply List.ext_getElem
    · simp
    · intro i h1 h2
      simp [Nat.mod_one]
  have hst := run_storeCells_at P g o tt (List.replicate n z) 0 cur w hg (by simpa using hfit) (by intro v hv'; rw [List.eq_of_mem_replicate hv']; exact h1)
  simp only [Nat.add_zero, List.length_replicate] at hst
  obtain ⟨m, rfl⟩ : ∃ m, n = m + 1 := ⟨n - 1, by omega⟩
  simp [Builtin.clear_, run_underlying ht, hv, hzc, hst]
theorem run_clear_none {P : Program} (w : World) (t e ty : TypeId) (ht : P.underlying t = some (.slice e)) (a : Option Addr) (c : Nat) :
    (Builtin.clear_ #[t] ty #[.slice a 0 c]).run P w = .ok (.tuple #[]) w := by
  cases a <;> simp [Builtin.clear_, run_underlying ht]
end Go.Proofs.Ytjhoekhfikcanaa
/- Stacks of int64: New, Mark, At, Top, cut, Pop. -/
namespace Go.Proofs.Ytjhoekhfikcanaa
open Go.RowKit

/-- p is a stack. -/
abbrev StkL (F : List Nat) (w : World) (p : Value) (R : Nat) (xs : List Value) : Prop := IsStk 2 115 F w p R xs
theorem infoL : (Try.prog.info? 2).map (fun i => (i.zero, i.size, i.bytes)) = some (some (.int .i64 0), 1, 8) := by kernel_rfl

theorem new_doneL (w : World) {R : Nat} {x : Int} (hx : x = R) (hR : 1 ≤ R ∧ R ≤ 65536) :
    StkL [w.heap.size] (w.alloc (.cells #[.int .i64 x, .slice none 0 0] 115)) (.pointer (some ⟨w.heap.size, 0, none⟩)) R [] ∧
      Below w.heap.size w (w.alloc (.cells #[.int .i64 x, .slice none 0 0] 115)) ∧ ∀ k ∈ [w.heap.size], w.heap.size ≤ k := by
  subst hx
  exact ⟨⟨w.heap.size, .slice none 0 0, rfl, by simp [Value.ownBlock], rfl, heap_alloc_new w _, World.ownsRow_nil _ _ _ _, by simp, hR.1, hR.2, by simp⟩, (Below.refl _ _).alloc (Nat.le_refl _) _, by simp⟩
theorem newL (m : Int) (R : Nat) (hR : (R : Int) = max 1 (min m 65536)) (w : World) :
    Calls Try.prog 59 #[.int .i64 m] w fun e w' => ∃ p, e = .returned p ∧ ∃ F, StkL F w' p R [] ∧ Below w.heap.size w w' ∧ ∀ k ∈ F, w.heap.size ≤ k := by
  go_enter Try.func59, Try.ntmps59
  go_wp2
  all_goals go_ret
  all_goals exact ⟨_, rfl, _, new_doneL (R := R) w (by omega) (by omega)⟩

section
variable {F : List Nat} {w : World} {p : Value} {R : Nat} {xs : List Value}
theorem markL (h : StkL F w p R xs) : Calls Try.prog 65 #[p] w fun e w' => e = .returned (.int .i64 xs.length) ∧ w = w' := by
  obtain ⟨bt, v, rfl, h1, rfl, hbt, hr, hN, hR⟩ := h
  have c1 : w.cell? ⟨bt, 1, none⟩ = some v := by simp [blk_cell hbt]
  obtain ⟨a, c, rfl, _⟩ := row_form hr
  clear hbt hN hr h1
  go_enter Try.func65, Try.ntmps65
  go_wp2
  go_ret
  exact ⟨rfl, rfl⟩
theorem storedL {bt g c n : Nat} {v : Value} {ys : List Value} (hb : w.heap[bt]? = some (.cells #[.int .i64 (R : Int), v] 115 (0, 0))) (hn : ys.length = n)
    (hr : w.ownsRow 0 2 1 (.slice (some ⟨g, 0, none⟩) ys.length c) ys.length ys) (hgb : g ≠ bt) (h1 : ∀ x ∈ ys, x.oneCell' = true) (hR : 1 ≤ R ∧ R ≤ 65536 ∧ ys.length ≤ R) :
    StkL [bt, g] (w.setCell ⟨bt, 1, none⟩ (.slice (some ⟨g, 0, none⟩) n c)) (.pointer (some ⟨bt, 0, none⟩)) R ys := by
  subst hn
  exact ⟨bt, _, rfl, by simpa [Value.ownBlock] using hgb, rfl, blk_set hb _, owns_row_block hr (fun k hk => heap_set_other _ _ _ _ (fun e => by simp [Value.ownBlock] at hk; simp at e; omega)), h1, hR⟩

set_option maxHeartbeats 400000 in
theorem cutL (h : StkL F w p R xs) (n : Nat) (hn : n ≤ xs.length) :
    Calls Try.prog 73 #[p, .int .i64 n] w fun e w' => e = .returned (.tuple #[]) ∧ StkL F w' p R (xs.take n) ∧ Touch F w w' := by
  have hroom := h.room
  obtain ⟨bt, v, rfl, h1, rfl, hbt, hr, hN, hR⟩ := h
  have c1 : w.cell? ⟨bt, 1, none⟩ = some v := by simp [blk_cell hbt]
  have f1 : w.frozen? ⟨bt, 1, none⟩ = false := blk_froz hbt 1
  have hl : (xs.take n).length = n := by simp; omega
  have hcl0 := fun w ty => run_clear_none (P := Try.prog) w 51 2 ty Try.underlying51
  rcases row_cells hr with ⟨rfl, rfl⟩ | ⟨g, c, cur, rfl, hg, hc1, hc2, hc3, hc4⟩
  · obtain rfl : n = 0 := by simpa using hn
    have HB := Lib.hid hbt
    clear hbt hN hr h1
    go_enter Try.func73, Try.ntmps73
    go_wp2
    all_goals go_end0
    all_goals exact ⟨rfl, ⟨bt, _, rfl, by simp [Value.ownBlock], rfl, blk_set HB.out _, World.ownsRow_nil _ _ _ _, by simp, hR.1, hR.2.1, by simp⟩, touch_set⟩
  have hgb : g ≠ bt := fun e => h1 (by rw [e]; rfl)
  have HB := Lib.hid hbt
  have HG := Lib.hid hg
  have H4 := Lib.hid hc4
  have HN := Lib.hid hN
  clear hbt hN hr h1 hg hc4
  unfold maxLen at hc2
  by_cases hlt : n < xs.length
  · have hcl : ∀ ty c', (Builtin.clear_ #[51] ty #[.slice (some ⟨g, n, none⟩) (xs.length - n) c']).run Try.prog w = .ok (.tuple #[]) (w.setRow g (cur.toList.take n ++ List.replicate (xs.length - n) (.int .i64 0 : Value) ++ cur.toList.drop (n + (xs.length - n))).toArray) :=
      fun ty c' => run_clear_row w _ _ ty _ Try.underlying51 (fun w => by kernel_rfl) rfl rfl g n (xs.length - n) c' cur 2 HG.out (by omega) (by omega)
    generalize hcur : (cur.toList.take n ++ List.replicate (xs.length - n) (.int .i64 0 : Value) ++ cur.toList.drop (n + (xs.length - n))).toArray = cur' at hcl
    have hb2 : (w.setRow g cur').heap[bt]? = some (.cells #[.int .i64 (R : Int), .slice (some ⟨g, 0, none⟩) xs.length c] 115 (0, 0)) := (setRow_other w g bt cur' (fun e => hgb e.symm)).trans HB.out
    have hg2 : (w.setRow g cur').heap[g]? = some (.cells cur' 2 (0, 0)) := setRow_heap w g _ _ _ _ HG.out
    have hT : Touch [bt, g] w (w.setRow g cur') := ⟨rfl, rfl, rfl, by simp [World.setRow], fun k _ hn => setRow_other w g k cur' (by simp at hn; exact hn.2)⟩
    have hsz : cur'.size = c := by rw [← hcur, List.size_toArray]; simp; omega
    have htk : cur'.toList.take n = xs.take n := by
      rw [← hcur, List.append_assoc, List.take_append_of_le_length (by simp; omega), List.take_take, Nat.min_self]
      have := congrArg (List.take n) H4.out
      rw [List.take_take, Nat.min_eq_left (by omega)] at this
      exact this
    have c1' : (w.setRow g cur').cell? ⟨bt, 1, none⟩ = some (.slice (some ⟨g, 0, none⟩) xs.length c) := by simp [blk_cell hb2]
    have f1' : (w.setRow g cur').frozen? ⟨bt, 1, none⟩ = false := blk_froz hb2 1
    have HD := Lib.hid (And.intro (storedL (n := n) hb2 hl (cells_row (xs := xs.take n) hg2 (by omega) (by unfold maxLen; omega) hsz (by rw [hl]; exact htk)) hgb (fun x hx => HN.out x (List.mem_of_mem_take hx)) ⟨hR.1, hR.2.1, by omega⟩) hT)
    clear hb2 hg2 hT hsz htk hcl0
    have hlt' : ¬ (xs.length < n) := by omega
    go_enter Try.func73, Try.ntmps73
    go_wp2
    all_goals go_end0
    all_goals exact ⟨rfl, HD.out.1, HD.out.2.trans (F' := [bt]) touch_set (fun k hk => Or.inl (by simp at hk; simp [hk]))⟩
  · obtain rfl : n = xs.length := by omega
    have HD := Lib.hid (storedL (n := xs.length) HB.out (by simp) (cells_row (xs := xs) HG.out hc1 (by unfold maxLen; omega) hc3 H4.out) hgb HN.out ⟨hR.1, hR.2.1, by omega⟩)
    rw [List.take_length]
    by_cases hcap : c = xs.length
    · subst hcap
      go_enter Try.func73, Try.ntmps73
      go_wp2
      all_goals go_end0
      all_goals exact ⟨rfl, HD.out, touch_set⟩
    have hcap' : xs.length < c := by omega
    go_enter Try.func73, Try.ntmps73
    go_wp2
    all_goals go_end0
    all_goals exact ⟨rfl, HD.out, touch_set⟩
end
end Go.Proofs.Ytjhoekhfikcanaa
/- A slice of whatever elements that came in, opened element by element. Nothing here speaks of one program. -/
namespace Go.Proofs.Ytjhoekhfikcanaa
open Go.RowKit Go.ChangeShapes Go.WideShapes Go.ChangeAt Go.Deep

/-- The value reads as these elements, of S cells each. -/
def Elems {α : Type} (S : Nat) (cells : α → List Value) (w : World) (v : Value) (xs : List α) : Prop :=
  ∃ (a : Option Addr) (cap : Nat), v = .slice a xs.length cap ∧ xs.length ≤ cap ∧ cap ≤ maxLen ∧
    (xs = [] ∨ ∃ b off, a = some ⟨b, off, none⟩ ∧ b < w.heap.size ∧ ∀ (i : Nat) (x : α), xs[i]? = some x → ∀ (j : Nat) (u : Value), (cells x)[j]? = some u → w.cell? ⟨b, off + (i * S + j), none⟩ = some u)
theorem Elems.ext {α : Type} {S : Nat} {cells : α → List Value} {w w' : World} {v : Value} {xs : List α} (h : Elems S cells w v xs) (hb : Below w.heap.size w w') : Elems S cells w' v xs := by
  obtain ⟨a, cap, h1, h2, h3, h6⟩ := h
  refine ⟨a, cap, h1, h2, h3, ?_⟩
  rcases h6 with h6 | ⟨b, off, e1, e2, e3⟩
  · exact Or.inl h6
  · exact Or.inr ⟨b, off, e1, Nat.lt_of_lt_of_le e2 hb.size, fun i x hx j u hu => cell_later hb (e3 i x hx j u hu)⟩

theorem list_choose {α : Type} {Q : Nat → α → Prop} : ∀ n : Nat, (∀ i, i < n → ∃ x, Q i x) → ∃ xs : List α, xs.length = n ∧ ∀ i x, xs[i]? = some x → Q i x
  | 0, _ => ⟨[], rfl, by simp⟩
  | n + 1, h => by
    obtain ⟨xs, hl, hx⟩ := list_choose n (fun i hi => h i (by omega))
    obtain ⟨y, hy⟩ := h n (by omega)
    refine ⟨xs ++ [y], by simp [hl], fun i x hi => ?_⟩
    by_cases hlt : i < xs.length
    · rw [List.getElem?_append_left hlt] at hi; exact hx i x hi
    · rw [List.getElem?_append_right (by omega)] at hi
      have hm := (List.getElem?_eq_some_iff.1 hi).1
      simp at hm
      have e : i = n := by omega
      subst e
      rw [hl, Nat.sub_self] at hi
      simp at hi; subst hi; exact hy

section
variable {H : Type} {enc : TypeId × Value → H} {P : Program} {W : World}
end
end Go.Proofs.Ytjhoekhfikcanaa
/- Terms in memory. Nothing here speaks of one program. -/
namespace Go.Proofs.Ytjhoekhfikcanaa
open Go.RowKit

abbrev BIG : Nat := 140737488351232
def I64 (n : Int) : Prop := -9223372036854775808 ≤ n ∧ n ≤ 9223372036854775807
mutual
/-- The value reads as this term. -/
def TmV (w : World) : Tm → Value → Prop
  | .mk k n s ts, v => ∃ (a : Option Addr) (c : Nat), v = .agg #[.int .i64 k, .int .i64 n, .string s, .slice a ts.length c] ∧ ts.length ≤ c ∧ c ≤ maxLen ∧ ts.length * 56 ≤ BIG ∧ s.size ≤ BIG ∧ I64 k ∧ I64 n ∧
      (ts = [] ∨ ∃ b off, a = some ⟨b, off, none⟩ ∧ b < w.heap.size ∧ TmRow w ts b off)
/-- These terms lie there, one behind the other. -/
def TmRow (w : World) : List Tm → Nat → Nat → Prop
  | [], _, _ => True
  | x :: r, b, off => (∃ c0 c1 c2 c3, w.cell? ⟨b, off, none⟩ = some c0 ∧ w.cell? ⟨b, off + 1, none⟩ = some c1 ∧ w.cell? ⟨b, off + 2, none⟩ = some c2 ∧ w.cell? ⟨b, off + 3, none⟩ = some c3 ∧ TmV w x (.agg #[c0, c1, c2, c3])) ∧ TmRow w r b (off + 4)
end
/-- The value reads as these terms. -/
def Tms (w : World) (v : Value) (l : List Tm) : Prop :=
  ∃ (a : Option Addr) (c : Nat), v = .slice a l.length c ∧ l.length ≤ c ∧ c ≤ maxLen ∧ l.length * 56 ≤ BIG ∧ (l = [] ∨ ∃ b off, a = some ⟨b, off, none⟩ ∧ b < w.heap.size ∧ TmRow w l b off)
theorem tmV_iff {w : World} {k n : Int} {s : ByteArray} {ts : List Tm} {v : Value} : TmV w (.mk k n s ts) v ↔ ∃ u, v = .agg #[.int .i64 k, .int .i64 n, .string s, u] ∧ s.size ≤ BIG ∧ I64 k ∧ I64 n ∧ Tms w u ts := by
  rw [TmV]
  constructor
  · rintro ⟨a, c, h1, h2, h3, h4, h5, h6, h7, h8⟩
    exact ⟨_, h1, h5, h6, h7, a, c, rfl, h2, h3, h4, h8⟩
  · rintro ⟨u, h1, h5, h6, h7, a, c, rfl, h2, h3, h4, h8⟩
    exact ⟨a, c, h1, h2, h3, h4, h5, h6, h7, h8⟩
theorem TmRow.get {w : World} : ∀ {l : List Tm} {b off : Nat}, TmRow w l b off → ∀ (i : Nat) (x : Tm), l[i]? = some x →
    ∃ c0 c1 c2 c3, w.cell? ⟨b, off + i * 4, none⟩ = some c0 ∧ w.cell? ⟨b, off + i * 4 + 1, none⟩ = some c1 ∧ w.cell? ⟨b, off + i * 4 + 2, none⟩ = some c2 ∧ w.cell? ⟨b, off + i * 4 + 3, none⟩ = some c3 ∧ TmV w x (.agg #[c0, c1, c2, c3])
  | [], b, off, _, i, x, hx => by simp at hx
  | y :: r, b, off, h, 0, x, hx => by
    simp at hx
    subst hx
    rw [TmRow] at h
    rw [Nat.zero_mul, Nat.add_zero]
    exact h.1
  | y :: r, b, off, h, i + 1, x, hx => by
    rw [TmRow] at h
    have := TmRow.get h.2 i x (by simpa using hx)
    rw [show off + (i + 1) * 4 = off + 4 + i * 4 by omega]
    exact this
theorem TmRow.mk {w : World} : ∀ {l : List Tm} {b off : Nat}, (∀ (i : Nat) (x : Tm), l[i]? = some x →
    ∃ c0 c1 c2 c3, w.cell? ⟨b, off + i * 4, none⟩ = some c0 ∧ w.cell? ⟨b, off + i * 4 + 1, none⟩ = some c1 ∧ w.cell? ⟨b, off + i * 4 + 2, none⟩ = some c2 ∧ w.cell? ⟨b, off + i * 4 + 3, none⟩ = some c3 ∧ TmV w x (.agg #[c0, c1, c2, c3])) → TmRow w l b off
  | [], b, off, _ => by rw [TmRow]; trivial
  | y :: r, b, off, h => by
    rw [TmRow]
    refine ⟨?_, TmRow.mk fun i x hx => ?_⟩
    · have := h 0 y rfl
      rw [Nat.zero_mul, Nat.add_zero] at this
      exact this
    · have := h (i + 1) x (by simpa using hx)
      rw [show off + (i + 1) * 4 = off + 4 + i * 4 by omega] at this
      exact this
mutual
theorem TmV.ext {w w' : World} (hb : Below w.heap.size w w') : ∀ (x : Tm) (v : Value), TmV w x v → TmV w' x v
  | .mk k n s ts, v, h => by
    rw [TmV] at h ⊢
    obtain ⟨a, c, h1, h2, h3, h4, h5, h6, h7, h8⟩ := h
    refine ⟨a, c, h1, h2, h3, h4, h5, h6, h7, ?_⟩
    rcases h8 with h8 | ⟨b, off, e1, e2, e3⟩
    · exact Or.inl h8
    · exact Or.inr ⟨b, off, e1, Nat.lt_of_lt_of_le e2 hb.size, TmRow.ext hb ts b off e3⟩
theorem TmRow.ext {w w' : World} (hb : Below w.heap.size w w') : ∀ (l : List Tm) (b off : Nat), TmRow w l b off → TmRow w' l b off
  | [], b, off, _ => by rw [TmRow]; trivial
  | x :: r, b, off, h => by
    rw [TmRow] at h ⊢
    obtain ⟨⟨c0, c1, c2, c3, h0, h1, h2, h3, h4⟩, h5⟩ := h
    exact ⟨⟨c0, c1, c2, c3, cell_later hb h0, cell_later hb h1, cell_later hb h2, cell_later hb h3, TmV.ext hb x _ h4⟩, TmRow.ext hb r b (off + 4) h5⟩
end
theorem Tms.ext {w w' : World} {v : Value} {l : List Tm} (h : Tms w v l) (hb : Below w.heap.size w w') : Tms w' v l := by
  obtain ⟨a, c, h1, h2, h3, h4, h5⟩ := h
  refine ⟨a, c, h1, h2, h3, h4, ?_⟩
  rcases h5 with h5 | ⟨b, off, e1, e2, e3⟩
  · exact Or.inl h5
  · exact Or.inr ⟨b, off, e1, Nat.lt_of_lt_of_le e2 hb.size, TmRow.ext hb l b off e3⟩
theorem Tms.nil (w : World) : Tms w (.slice none 0 0) [] := ⟨none, 0, rfl, Nat.le_refl _, Nat.zero_le _, by simp, Or.inl rfl⟩
/-- The i-th of them. -/
theorem Tms.get {w : World} {a : Option Addr} {m c : Nat} {l : List Tm} (h : Tms w (.slice a m c) l) {i : Nat} {x : Tm} (hx : l[i]? = some x) :
    ∃ b off k n s u, a = some ⟨b, off, none⟩ ∧ b < w.heap.size ∧ x.k = k ∧ x.n = n ∧ x.s = s ∧ w.cell? ⟨b, off + i * 4, none⟩ = some (.int .i64 k) ∧ w.cell? ⟨b, off + i * 4 + 1, none⟩ = some (.int .i64 n) ∧ w.cell? ⟨b, off + i * 4 + 2, none⟩ = some (.string s) ∧ w.cell? ⟨b, off + i * 4 + 3, none⟩ = some u ∧ Tms w u x.args ∧
      TmV w x (.agg #[.int .i64 k, .int .i64 n, .string s, u]) := by
  obtain ⟨a', c', e, h1, h2, h3, h4⟩ := h
  cases e
  rcases h4 with rfl | ⟨b, off, rfl, hb, hr⟩
  · simp at hx
  · obtain ⟨c0, c1, c2, c3, d0, d1, d2, d3, d4⟩ := hr.get i x hx
    cases x with
    | mk k n s ts =>
      obtain ⟨u, hu, g1, g2, g3, g4⟩ := tmV_iff.1 d4
      simp only [Value.agg.injEq] at hu
      have hu' := congrArg Array.toList hu
      simp only [List.cons.injEq, and_true] at hu'
      obtain ⟨rfl, rfl, rfl, rfl⟩ := hu'
      exact ⟨b, off, k, n, s, _, rfl, hb, rfl, rfl, rfl, d0, d1, d2, d3, g4, d4⟩
theorem Tms.len {w : World} {v : Value} {l : List Tm} (h : Tms w v l) : ∃ a c, v = .slice a l.length c ∧ l.length ≤ c ∧ c ≤ maxLen ∧ l.length * 56 ≤ BIG := by
  obtain ⟨a, c, h1, h2, h3, h4, _⟩ := h
  exact ⟨a, c, h1, h2, h3, h4⟩
end Go.Proofs.Ytjhoekhfikcanaa
/- append of whatever slice to a row of the call's own, of elements of however many cells: also of nothing. Nothing here speaks of one program. -/
namespace Go.Proofs.Ytjhoekhfikcanaa
open Go.RowKit

theorem row_formk {w : World} {b e sz n : Nat} {v : Value} {xs : List Value} (h : w.ownsRow b e sz v n xs) : ∃ a c, v = .slice a n c ∧ n ≤ c := by
  rcases h.2 with ⟨rfl, h0⟩ | ⟨g, cap, cur, rfl, _, _, h1, _⟩
  · exact ⟨none, 0, by rw [h0], by omega⟩
  · exact ⟨_, cap, rfl, h1⟩
section
variable {P : Program}
theorem run_append_k (w : World) (base : Nat) (t ty e : TypeId) (i : TypeInfo) (z : Value) (size bytes : Nat) (ht : P.underlying t = some (.slice e)) (hi : P.info? e = some i) (hz : i.zero = some z) (hsize : i.size = size) (hpos : 0 < size) (hby : i.bytes = bytes) (hzs : z.cells.size = size)
    (v : Value) (n : Nat) (xs : List Value) (hown : w.ownsRow base e size v n xs) (ao : Option Addr) (m c : Nat) (news : List Value) (hl : news.length = m * size)
    (hsrc : m = 0 ∨ ∃ ad, ao = some ad ∧ ∀ j u, news[j]? = some u → w.cell? (ad.add j) = some u) (h1 : ∀ u ∈ news, u.oneCell' = true)
    (h63 : n + m ≤ maxLen) (hbytes : (n + m) * bytes ≤ 140737488355328) (hbase : base ≤ w.heap.size) :
    ∃ v' w', (Builtin.append_ #[t, t] ty #[v, .slice ao m c]).run P w = .ok v' w' ∧ w'.ownsRow base e size v' (n + m) (xs ++ news) ∧ w.grownBy w' v.ownBlock ∧ (v'.ownBlock = v.ownBlock ∨ v'.ownBlock = some w.heap.size) := by
  by_cases hm : m = 0
  · subst hm
    obtain rfl : news = [] := List.length_eq_zero_iff.1 (by simpa using hl)
    obtain ⟨a, cc, rfl, hle⟩ := row_formk hown
    have hs : Src P i.size t (.slice ao 0 c) 0 [] w := by
      refine ⟨Or.inl ⟨e, ht⟩, fun w' => rfl, ?_, ?_, by simp, by simp⟩
      · cases ao with
        | none => rfl
        | some ad => exact run_firstCells_some w i.size 0 ad 0 c [] (by simp) (by simp)
      · cases ao with
        | none => rfl
        | some ad => exact run_firstCells_some w.drew i.size 0 ad 0 c [] (by simp) (by simp)
    exact ⟨_, w, run_append_nothing w t t ty e i ht hi a n cc hle _ hs, by simpa using hown, ⟨rfl, rfl, rfl, Nat.le_refl _, fun _ _ _ => rfl⟩, Or.inl rfl⟩
  · rcases hsrc with h0 | ⟨ad, rfl, hc⟩
    · exact absurd h0 hm
    obtain ⟨v', w', r1, r2, r3, _, r5⟩ := run_append_own_at (P := P) w base t ty e i z size bytes ht hi hz hsize hby hzs hpos v n xs hown ad m c news (by omega) hc h1 h63 hbytes hbase
    exact ⟨v', w', r1, r2, r3, r5⟩
theorem wp_append_k {w : World} {o : Oper} {a : Act} {K : Act → World → Prop} {Q : Exit → Act → World → Prop} (s x : Operand) (t : TypeId)
    (ho : o.op = .call { callee := .builtin .append, args := #[s, x], argTypes := #[t, t] })
    (base : Nat) (e : TypeId) (i : TypeInfo) (z : Value) (size bytes : Nat) (ht : P.underlying t = some (.slice e)) (hi : P.info? e = some i) (hz : i.zero = some z) (hsize : i.size = size) (hpos : 0 < size) (hby : i.bytes = bytes) (hzs : z.cells.size = size)
    (v : Value) (n : Nat) (xs : List Value) (hs : a.eval s = v) (hown : w.ownsRow base e size v n xs) (ao : Option Addr) (m c : Nat) (news : List Value) (hx : a.eval x = .slice ao m c) (hl : news.length = m * size)
    (hsrc : m = 0 ∨ ∃ ad, ao = some ad ∧ ∀ j u, news[j]? = some u → w.cell? (ad.add j) = some u) (h1 : ∀ u ∈ news, u.oneCell' = true)
    (h63 : n + m ≤ maxLen) (hbytes : (n + m) * bytes ≤ 140737488355328) (hbase : base ≤ w.heap.size) (N : Nat) (L : List Value) (hN : N = n + m) (hL : L = xs ++ news)
    (h : ∀ (a' : Option Addr) (c' : Nat) (w' : World), w'.ownsRow base e size (.slice a' N c') N L → w.grownBy w' v.ownBlock → ((Value.slice a' N c').ownBlock = v.ownBlock ∨ (Value.slice a' N c').ownBlock = some w.heap.size) → K (a.put o.dst (.slice a' N c')) w') : o.wp P a w K Q := by
  subst hN hL
  obtain ⟨v', w', hr, h2, h3, h4⟩ := run_append_k (P := P) w base t o.type e i z size bytes ht hi hz hsize hpos hby hzs v n xs hown ao m c news hl hsrc h1 h63 hbytes hbase
  obtain ⟨a', c', rfl, _⟩ := row_formk h2
  unfold Oper.wp execOp
  simp only [ho, resolve, invoke, builtin, Sem.run_bind, Sem.run_pure, Result.andThen_ok, List.map_toArray, List.map_cons, List.map_nil, hs, hx, hr]
  exact h a' c' w' h2 h3 h4
theorem step_append_k {w : World} {ops : Array Oper} {o : Oper} {a : Act} {K : Act → World → Prop} {Q : Exit → Act → World → Prop} {E : Prop} (hgd : o.guard = none) (s x : Operand) (t : TypeId)
    (ho : o.op = .call { callee := .builtin .append, args := #[s, x], argTypes := #[t, t] })
    (base : Nat) (e : TypeId) (i : TypeInfo) (z : Value) (size bytes : Nat) (ht : P.underlying t = some (.slice e)) (hi : P.info? e = some i) (hz : i.zero = some z) (hsize : i.size = size) (hpos : 0 < size) (hby : i.bytes = bytes) (hzs : z.cells.size = size)
    (v : Value) (n : Nat) (xs : List Value) (hs : a.eval s = v) (hown : w.ownsRow base e size v n xs) (ao : Option Addr) (m c : Nat) (news : List Value) (hx : a.eval x = .slice ao m c) (hl : news.length = m * size)
    (hsrc : m = 0 ∨ ∃ ad, ao = some ad ∧ ∀ j u, news[j]? = some u → w.cell? (ad.add j) = some u) (h1 : ∀ u ∈ news, u.oneCell' = true)
    (h63 : n + m ≤ maxLen) (hbytes : (n + m) * bytes ≤ 140737488355328) (hbase : base ≤ w.heap.size) (N : Nat) (L : List Value) (hN : N = n + m) (hL : L = xs ++ news)
    (h : ∀ (a' : Option Addr) (c' : Nat) (w' : World), w'.ownsRow base e size (.slice a' N c') N L → w.grownBy w' v.ownBlock → ((Value.slice a' N c').ownBlock = v.ownBlock ∨ (Value.slice a' N c').ownBlock = some w.heap.size) → K (a.put o.dst (.slice a' N c')) w') :
    if Region.wanted o (yielded ops a.tmps) = true then Oper.wp P o a w K Q else E := by
  have hw : Region.wanted o (yielded ops a.tmps) = true := by simp [Region.wanted, hgd]
  rw [if_pos hw]
  exact wp_append_k s x t ho base e i z size bytes ht hi hz hsize hpos hby hzs v n xs hs hown ao m c news hx hl hsrc h1 h63 hbytes hbase N L hN hL h
theorem wpList_append_k {w : World} {ops : Array Oper} {rest : List Oper} {o : Oper} {a : Act} {Q : Exit → Act → World → Prop} (hgd : o.guard = none) (s x : Operand) (t : TypeId)
    (ho : o.op = .call { callee := .builtin .append, args := #[s, x], argTypes := #[t, t] })
    (base : Nat) (e : TypeId) (i : TypeInfo) (z : Value) (size bytes : Nat) (ht : P.underlying t = some (.slice e)) (hi : P.info? e = some i) (hz : i.zero = some z) (hsize : i.size = size) (hpos : 0 < size) (hby : i.bytes = bytes) (hzs : z.cells.size = size)
    (v : Value) (n : Nat) (xs : List Value) (hs : a.eval s = v) (hown : w.ownsRow base e size v n xs) (ao : Option Addr) (m c : Nat) (news : List Value) (hx : a.eval x = .slice ao m c) (hl : news.length = m * size)
    (hsrc : m = 0 ∨ ∃ ad, ao = some ad ∧ ∀ j u, news[j]? = some u → w.cell? (ad.add j) = some u) (h1 : ∀ u ∈ news, u.oneCell' = true)
    (h63 : n + m ≤ maxLen) (hbytes : (n + m) * bytes ≤ 140737488355328) (hbase : base ≤ w.heap.size) (N : Nat) (L : List Value) (hN : N = n + m) (hL : L = xs ++ news)
    (h : ∀ (a' : Option Addr) (c' : Nat) (w' : World), w'.ownsRow base e size (.slice a' N c') N L → w.grownBy w' v.ownBlock → ((Value.slice a' N c').ownBlock = v.ownBlock ∨ (Value.slice a' N c').ownBlock = some w.heap.size) → wpList P ops Q rest (a.put o.dst (.slice a' N c')) w') :
    wpList P ops Q (o :: rest) a w := by
  refine wpList_plain hgd fun K hK => ?_
  exact wp_append_k s x t ho base e i z size bytes ht hi hz hsize hpos hby hzs v n xs hs hown ao m c news hx hl hsrc h1 h63 hbytes hbase N L hN hL (fun a' c' w' h2 h3 h4 => hK _ _ (h a' c' w' h2 h3 h4))
end
end Go.Proofs.Ytjhoekhfikcanaa
/- A row of the call's own, of elements of S cells each, reads as its elements; what is appended to it. Nothing here speaks of one program. -/
namespace Go.Proofs.Ytjhoekhfikcanaa
open Go.RowKit

section
variable {α : Type} {S : Nat} {cells : α → List Value}
theorem flat_len (hc : ∀ x, (cells x).length = S) (L : List α) : (L.flatMap cells).length = L.length * S := by
  induction L with
  | nil => simp
  | cons a r ih => rw [List.flatMap_cons, List.length_append, ih, hc, List.length_cons, Nat.add_mul, Nat.one_mul, Nat.add_comm]
theorem flat_get (hc : ∀ x, (cells x).length = S) : ∀ (L : List α) (i : Nat) (x : α), L[i]? = some x → ∀ j, j < S → (L.flatMap cells)[i * S + j]? = (cells x)[j]?
  | [], i, x, h, _, _ => by simp at h
  | a :: r, 0, x, h, j, hj => by
    simp at h
    subst h
    rw [List.flatMap_cons, Nat.zero_mul, Nat.zero_add, List.getElem?_append_left (by rw [hc]; exact hj)]
  | a :: r, i + 1, x, h, j, hj => by
    have e : (i + 1) * S + j = S + (i * S + j) := by rw [Nat.add_mul, Nat.one_mul]; omega
    rw [List.flatMap_cons, List.getElem?_append_right (by rw [hc, e]; omega), hc, e, Nat.add_sub_cancel_left]
    exact flat_get hc r i x (by simpa using h) j hj
/-- What the call owns reads as these. -/
theorem Elems.owned (hc : ∀ x, (cells x).length = S) {w : World} {B : Nat} {e : TypeId} {v : Value} {L : List α} (h : w.ownsRow B e S v L.length (L.flatMap cells)) : Elems S cells w v L := by
  rcases h.2 with ⟨rfl, h0⟩ | ⟨g, cap, cur, rfl, _, hg, h1, h2, h3, h4⟩
  · obtain rfl := List.length_eq_zero_iff.1 h0
    exact ⟨none, 0, rfl, Nat.le_refl _, Nat.zero_le _, Or.inl rfl⟩
  · refine ⟨_, cap, rfl, h1, h2, Or.inr ⟨g, 0, rfl, (Array.getElem?_eq_some_iff.1 hg).1, fun i x hx j u hu => ?_⟩⟩
    have hj : j < S := by have := (List.getElem?_eq_some_iff.1 hu).1; rwa [hc] at this
    have hi := (List.getElem?_eq_some_iff.1 hx).1
    have h5 := flat_get hc L i x hx j hj
    have hle : i * S + S ≤ L.length * S := by
      have : (i + 1) * S ≤ L.length * S := Nat.mul_le_mul_right _ hi
      rwa [Nat.add_mul, Nat.one_mul] at this
    rw [← h4, List.getElem?_take, if_pos (by omega), hu] at h5
    rw [Nat.zero_add, World.cell?, hg]
    simpa using h5
end
theorem cell_new (w : World) (cs : Array Value) (ty : TypeId) (j : Nat) (u : Value) (h : cs.toList[j]? = some u) : (w.alloc (.cells cs ty)).cell? ((⟨w.heap.size, 0, none⟩ : Addr).add j) = some u := by
  have h1 : (w.alloc (.cells cs ty)).heap[w.heap.size]? = some (.cells cs ty) := by
    show (w.heap.push _)[w.heap.size]? = _
    simp
  rw [add_plain, Nat.zero_add, World.cell?, h1]
  simpa using h
end Go.Proofs.Ytjhoekhfikcanaa
/- Small facts of ours on worlds: what is laid anew, what is drawn, a row that stays. Nothing here speaks of one program. -/
namespace Go.Proofs.Ytjhoekhfikcanaa
open Go.RowKit
theorem bel1' (w : World) (o : Obj) : Below w.heap.size w (w.alloc o) := (Below.refl _ _).alloc (Nat.le_refl _) o
theorem bel_drewN {B : Nat} {a w : World} (h : Below B a w) (n : Nat) : Below B a (w.drewN n) := ⟨h.os, h.tape, h.output, h.size, h.block⟩
theorem row_ext {w w' : World} {B k n : Nat} {e : TypeId} {v : Value} {xs : List Value} (h : w.ownsRow B e k v n xs) (hb : Below w.heap.size w w') : w'.ownsRow B e k v n xs := by
  obtain ⟨h0, h1⟩ := h
  refine ⟨h0, ?_⟩
  rcases h1 with h1 | ⟨g, cap, cur, rfl, hg, hh, h2⟩
  · exact Or.inl h1
  · exact Or.inr ⟨g, cap, cur, rfl, hg, by rw [hb.block g (Array.getElem?_eq_some_iff.1 hh).1]; exact hh, h2⟩
end Go.Proofs.Ytjhoekhfikcanaa
/- A row of terms of the call's own; a term's fields. Nothing here speaks of one program. -/
namespace Go.Proofs.Ytjhoekhfikcanaa
open Go.RowKit
set_option linter.unusedVariables false

theorem TmV.full {w : World} {x : Tm} {v : Value} (h : TmV w x v) : ∃ k n s a m c, v = .agg #[.int .i64 k, .int .i64 n, .string s, .slice a m c] := by
  cases x with
  | mk k n s ts =>
    obtain ⟨u, rfl, _, _, _, hu⟩ := tmV_iff.1 h
    obtain ⟨a, c, rfl, _⟩ := hu.len
    exact ⟨_, _, _, _, _, _, rfl⟩
/-- A term beside the value of its Args. -/
abbrev TmP := Tm × Value
def pCells (p : TmP) : List Value := [.int .i64 p.1.k, .int .i64 p.1.n, .string p.1.s, p.2]
def pVal (p : TmP) : Value := .agg #[.int .i64 p.1.k, .int .i64 p.1.n, .string p.1.s, p.2]
theorem pCells_len (p : TmP) : (pCells p).length = 4 := rfl
theorem TmV.pair {w : World} {x : Tm} {v : Value} (h : TmV w x v) : ∃ u, v = pVal (x, u) := by
  cases x with
  | mk k n s ts =>
    obtain ⟨u, rfl, _⟩ := tmV_iff.1 h
    exact ⟨u, rfl⟩
theorem pCells_one (L : List TmP) {w : World} (h : ∀ p ∈ L, TmV w p.1 (pVal p)) : ∀ u ∈ L.flatMap pCells, u.oneCell' = true := by
  intro u hu
  obtain ⟨p, hp, hx⟩ := List.mem_flatMap.1 hu
  have hv := h p hp
  obtain ⟨x, q⟩ := p
  cases x with
  | mk k n s ts =>
    obtain ⟨u', hu', _, _, _, hq⟩ := tmV_iff.1 hv
    have : u' = q := by
      simp only [pVal, Value.agg.injEq] at hu'
      have h2 := congrArg Array.toList hu'
      simp only [List.cons.injEq, and_true] at h2
      exact h2.2.2.2.symm
    subst this
    obtain ⟨a, c, rfl, _⟩ := hq.len
    simp [pCells] at hx
    rcases hx with rfl | rfl | rfl | rfl <;> rfl
def RowP (w : World) (base : Nat) (ty : TypeId) (v : Value) (ps : List TmP) : Prop := w.ownsRow base ty 4 v ps.length (ps.flatMap pCells)
/-- What the call owns reads as these terms. -/
theorem RowP.terms {w : World} {base : Nat} {ty : TypeId} {v : Value} {ps : List TmP} (h : RowP w base ty v ps) (hp : ∀ p ∈ ps, TmV w p.1 (pVal p)) (hl : ps.length * 56 ≤ BIG) : Tms w v (ps.map (·.1)) := by
  obtain ⟨a, c, rfl, h1, h2, h3⟩ := Elems.owned pCells_len h
  refine ⟨a, c, by rw [List.length_map], by rw [List.length_map]; exact h1, h2, by rw [List.length_map]; exact hl, ?_⟩
  rcases h3 with rfl | ⟨b, off, rfl, hb, hc⟩
  · left; rfl
  · refine Or.inr ⟨b, off, rfl, hb, TmRow.mk fun i x hx => ?_⟩
    rw [List.getElem?_map] at hx
    obtain ⟨p, hpi, rfl⟩ := Option.map_eq_some_iff.1 hx
    have hv := hp p (List.mem_of_getElem? hpi)
    exact ⟨_, _, _, _, hc i p hpi 0 _ rfl, by rw [Nat.add_assoc]; exact hc i p hpi 1 _ rfl, by rw [Nat.add_assoc]; exact hc i p hpi 2 _ rfl, by rw [Nat.add_assoc]; exact hc i p hpi 3 _ rfl, hv⟩
end Go.Proofs.Ytjhoekhfikcanaa
