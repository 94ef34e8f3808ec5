import Derived.Test.YtchbbaehdcmcfaaHsoaa
set_option linter.unusedVariables false
set_option linter.unusedSimpArgs false
/- Making alike, either way round; terms that are alike but for names. Nothing here is walked. -/
namespace Go.Proofs.Ytchbbaehdcmcfaa
def posI : List Int → Int → Nat
 | [], _ => 0
 | x :: r, m => if x = m then 0 else posI r m + 1
def renV (l : List Int) (base : Int) : Int → Tm := fun m => varV (base + (posI l m : Int))
def renT (base : Int) (t : Tm) : Tm := subT (renV (varsT t []) base) t
theorem posI_map {a : Int → Int} {m : Int} : ∀ l : List Int, (∀ x ∈ l, a x = a m → x = m) → posI (l.map a) (a m) = posI l m
 | [], _ => rfl
 | x :: r, h => by
  rw [List.map_cons, posI, posI, posI_map r fun y hy => h y (by simp [hy])]
  by_cases e : x = m
  ·rw [if_pos e, if_pos (by rw [e])]
  ·rw [if_neg e, if_neg (fun q => e (h x (by simp) q))]
theorem contains_map {a : Int → Int} {l : List Int} {m : Int} (h : ∀ x ∈ l, a x = a m → x = m) : (l.map a).contains (a m) = l.contains m := by
 rw [Bool.eq_iff_iff]
 simp only [List.contains_iff_mem, List.mem_map]
 constructor
 ·rintro ⟨x, hx, e⟩
  rw [← h x hx e]; exact hx
 ·intro hm
  exact ⟨m, hm, rfl⟩
mutual
theorem vars_map {a : Int → Int} {D : Int → Prop} (inj : ∀ x y, D x → D y → a x = a y → x = y) : ∀ (t : Tm) (l : List Int), (∀ m ∈ occT t, D m) → (∀ m ∈ l, D m) → varsT (subT (fun m => varV (a m)) t) (l.map a) = (varsT t l).map a ∧ ∀ m ∈ varsT t l, D m
 | .mk k n s ts, l, ht, hl => by
  by_cases hk : k = 0
  ·subst hk
   have hn := ht n (by rw [occ_var]; simp)
   rw [sub_var]
   unfold varV
   rw [varsT, varsT, if_pos rfl, if_pos rfl, contains_map fun x hx e => inj x n (hl x hx) hn e]
   by_cases hc : l.contains n = true
   ·rw [if_pos hc, if_pos hc]; exact ⟨rfl, hl⟩
   ·rw [if_neg hc, if_neg hc]
    refine ⟨by simp, fun m hm => ?_⟩
    rcases List.mem_append.1 hm with hm | hm
    ·exact hl m hm
    ·simp at hm; subst hm; exact hn
  ·rw [sub_not _ hk, varsT, varsT, if_neg hk, if_neg hk]
   rw [occ_not hk] at ht
   exact varss_map inj ts l ht hl
theorem varss_map {a : Int → Int} {D : Int → Prop} (inj : ∀ x y, D x → D y → a x = a y → x = y) : ∀ (ts : List Tm) (l : List Int), (∀ m ∈ occL ts, D m) → (∀ m ∈ l, D m) → varsL (subL (fun m => varV (a m)) ts) (l.map a) = (varsL ts l).map a ∧ ∀ m ∈ varsL ts l, D m
 | [], l, _, hl => by rw [subL, varsL, varsL]; exact ⟨rfl, hl⟩
 | x :: r, l, ht, hl => by
  rw [occL] at ht
  obtain ⟨h1, h2⟩   := vars_map inj x l (fun m hm => ht m (by simp [hm])) hl
  obtain ⟨h3, h4⟩   := varss_map inj r (varsT x l) (fun m hm => ht m (by simp [hm])) h2
  rw [subL, varsL, varsL, h1]
  exact ⟨h3, h4⟩
end
mutual
theorem mem_vars2 {n : Int} : ∀ (t : Tm) (l : List Int), n ∈ varsT t l ↔ n ∈ l ∨ n ∈ occT t
 | .mk k m s ts, l => by
  rw [varsT, occT]
  by_cases hk : k = 0
  ·rw [if_pos hk, if_pos hk]
   by_cases hm : l.contains m = true
   ·rw [if_pos hm]
    have hm' : m ∈ l := by simpa using hm
    constructor
    ·exact Or.inl
    ·rintro (h | h)
     ·exact h
     ·simp at h; subst h; exact hm'
   ·rw [if_neg hm]
    simp
  ·rw [if_neg hk, if_neg hk]
   exact mem_varss2 ts l
theorem mem_varss2 {n : Int} : ∀ (ts : List Tm) (l : List Int), n ∈ varsL ts l ↔ n ∈ l ∨ n ∈ occL ts
 | [], l => by simp [varsL, occL]
 | x :: r, l => by
  rw [varsL, occL, mem_varss2 r, mem_vars2 x, List.mem_append, or_assoc]
end
mutual
theorem back_var {A B : Int → Tm} : ∀ t : Tm, formedT t = true → subT B (subT A t) = t → ∀ m ∈ occT t, subT B (A m) = varV m
 | .mk k n s ts, hf, h, m, hm => by
  by_cases hk : k = 0
  ·subst hk
   rw [occ_var] at hm
   simp at hm
   subst hm
   rw [sub_var] at h
   rw [h]
   exact (formed_var hf).1
  ·rw [occ_not hk] at hm
   rw [sub_not _ hk, sub_not _ hk] at h
   injection h with _ _ _ h
   rw [formedT, Bool.and_eq_true] at hf
   exact backs_var ts hf.2 h m hm
theorem backs_var {A B : Int → Tm} : ∀ ts : List Tm, formedL ts = true → subL B (subL A ts) = ts → ∀ m ∈ occL ts, subT B (A m) = varV m
 | [], hf, h, m, hm => by simp [occL] at hm
 | x :: r, hf, h, m, hm => by
  rw [formedL, Bool.and_eq_true] at hf
  rw [subL, subL] at h
  injection h with h1 h2
  rw [occL, List.mem_append] at hm
  rcases hm with hm | hm
  ·exact back_var x hf.1 h1 m hm
  ·exact backs_var r hf.2 h2 m hm
end
mutual
theorem sub_formed_at {A : Int → Tm} : ∀ t : Tm, formedT (subT A t) = true → ∀ m ∈ occT t, formedT (A m) = true
 | .mk k n s ts, hf, m, hm => by
  by_cases hk : k = 0
  ·subst hk
   rw [occ_var] at hm
   simp at hm
   subst hm
   rw [sub_var] at hf
   exact hf
  ·rw [occ_not hk] at hm
   rw [sub_not _ hk, formedT, Bool.and_eq_true] at hf
   exact subs_formed_at ts hf.2 m hm
theorem subs_formed_at {A : Int → Tm} : ∀ ts : List Tm, formedL (subL A ts) = true → ∀ m ∈ occL ts, formedT (A m) = true
 | [], hf, m, hm => by simp [occL] at hm
 | x :: r, hf, m, hm => by
  rw [subL, formedL, Bool.and_eq_true] at hf
  rw [occL, List.mem_append] at hm
  rcases hm with hm | hm
  ·exact sub_formed_at x hf.1 m hm
  ·exact subs_formed_at r hf.2 m hm
end
mutual
theorem size_same {A : Int → Tm} : ∀ t : Tm, formedT t = true → (∀ m ∈ occT t, ∃ j, A m = varV j) → sizeN (subT A t) = sizeN t ∧ depthN (subT A t) = depthN t
 | .mk k n s ts, hf, h => by
  by_cases hk : k = 0
  ·subst hk
   obtain ⟨j, hj⟩ := h n (by rw [occ_var]; simp)
   rw [sub_var, hj, (formed_var hf).1]
   unfold varV
   rw [sizeN, sizeN, depthN, depthN]
   exact ⟨rfl, rfl⟩
  ·rw [formedT, Bool.and_eq_true] at hf
   rw [occ_not hk] at h
   obtain ⟨e1, e2⟩ := sizes_same ts hf.2 h
   rw [sub_not _ hk, sizeN, sizeN, depthN, depthN, e1, e2]
   exact ⟨rfl, rfl⟩
theorem sizes_same {A : Int → Tm} : ∀ ts : List Tm, formedL ts = true → (∀ m ∈ occL ts, ∃ j, A m = varV j) → sizesN (subL A ts) = sizesN ts ∧ depthsN (subL A ts) = depthsN ts
 | [], _, _ => by rw [subL]; exact ⟨rfl, rfl⟩
 | x :: r, hf, h => by
  rw [formedL, Bool.and_eq_true] at hf
  rw [occL] at h
  obtain ⟨e1, e2⟩ := size_same x hf.1 fun m hm => h m (by simp [hm])
  obtain ⟨e3, e4⟩ := sizes_same r hf.2 fun m hm => h m (by simp [hm])
  rw [subL, sizesN, sizesN, depthsN, depthsN, e1, e2, e3, e4]
  exact ⟨rfl, rfl⟩
end
theorem variants {A B : Int → Tm} {s u : Tm} (hs : formedT s = true) (hu : formedT u = true) (h1 : subT A s = u) (h2 : subT B u = s) : renT 0 s = renT 0 u ∧ goodT s = goodT u := by
 have hb := back_var (A := A) (B := B) s hs (by rw [h1, h2])
 have hf := sub_formed_at (A := A) s (by rw [h1]; exact hu)
 have hA : ∀ m ∈ occT s, A m = varV (A m).n ∧ B (A m).n = varV m := fun m hm => by
  have e := hb m hm
  have f := hf m hm
  generalize A m = z at *
  obtain ⟨k, n, s', ts⟩ := z
  by_cases hk : k = 0
  ·subst hk
   rw [sub_var] at e
   exact ⟨(formed_var f).1, e⟩
  ·rw [sub_not _ hk] at e
   unfold varV at e
   injection e with e
   exact absurd e hk
 have hu' : u = subT (fun m => varV (A m).n) s := by rw [← h1]; exact sub_congr s fun m hm => (hA m hm).1
 have hinj : ∀ x y, x ∈ occT s → y ∈ occT s → (A x).n = (A y).n → x = y := fun x y hx hy e => by
  have e1 := (hA x hx).2
  rw [e, (hA y hy).2] at e1
  unfold varV at e1
  injection e1 with _ e2
  exact e2.symm
 have hv := vars_map (a := fun m => (A m).n) (D := fun m => m ∈ occT s) hinj s [] (fun m hm => hm) (fun m hm => by cases hm)
 have hv1 : varsT u [] = (varsT s []).map fun m => (A m).n := by rw [hu']; exact hv.1
 constructor
 ·unfold renT
  rw [hv1]
  conv => rhs; rw [hu', sub_sub]
  refine sub_congr s fun m hm => ?_
  rw [sub_varV]
  unfold renV
  rw [posI_map (a := fun m => (A m).n) (m := m) _ fun x hx e => hinj x m (hv.2 x hx) hm e]
 ·obtain ⟨e1, e2⟩ := size_same (A := A) s hs fun m hm => ⟨_, (hA m hm).1⟩
  rw [h1] at e1 e2
  unfold goodT
  rw [e1, e2, hs, hu]
end Go.Proofs.Ytchbbaehdcmcfaa
/- What says more than another, as chapter 13 says it: a term with terms in place of its variables. Nothing here is walked. -/
namespace Go.Proofs.Ytchbbaehdcmcfaa
theorem pos_at {n : Int} : ∀ {l : List Int}, n ∈ l → l[posI l n]? = some n
 | x :: r, h => by
  rw [posI]
  by_cases e : x = n
  ·rw [if_pos e]; simp [e]
  ·rw [if_neg e]
   have hr : n ∈ r := by
    rcases List.mem_cons.1 h with h | h
    ·exact absurd h.symm e
    ·exact h
   simpa using pos_at hr
theorem pos_lt {n : Int} {l : List Int} (h : n ∈ l) : posI l n < l.length := by
 have := pos_at h
 exact (List.getElem?_eq_some_iff.1 this).1
def backV (l : List Int) (base : Int) : Int → Tm := fun m => varV ((l[(m - base).toNat]?).getD 0)
theorem back_ren {t : Tm} (hf : formedT t = true) (base : Int) : subT (backV (varsT t []) base) (renT base t) = t := by
 unfold renT
 rw [sub_sub]
 refine sub_id t hf fun m hm => ?_
 unfold renV
 rw [sub_varV]
 unfold backV
 rw [show (base + (posI (varsT t []) m : Int) - base).toNat = posI (varsT t []) m by omega, pos_at ((mem_vars2 t []).2 (Or.inr hm))]
 rfl
mutual
theorem vars_nodup : ∀ (t : Tm) (l : List Int), l.Nodup → (varsT t l).Nodup
 | .mk k n s ts, l, h => by
  rw [varsT]
  by_cases hk : k = 0
  ·rw [if_pos hk]
   by_cases hc : l.contains n = true
   ·rw [if_pos hc]; exact h
   ·rw [if_neg hc]
    have hc' : ¬ n ∈ l := by simpa using hc
    rw [List.nodup_append]
    exact ⟨h, by simp, fun a ha b hb => by simp at hb; subst hb; exact fun e => hc' (e ▸ ha)⟩
  ·rw [if_neg hk]
   exact varss_nodup ts l h
theorem varss_nodup : ∀ (ts : List Tm) (l : List Int), l.Nodup → (varsL ts l).Nodup
 | [], l, h => by rw [varsL]; exact h
 | x :: r, l, h => by rw [varsL]; exact varss_nodup r _ (vars_nodup x l h)
end
theorem pos_row : ∀ {l : List Int}, l.Nodup → ∀ (base : Int), l.map (fun m => base + (posI l m : Int)) = (List.range l.length).map (fun (i : Nat) => base + (i : Int)) := by
 intro l h base
 apply List.ext_getElem?
 intro i
 simp only [List.getElem?_map]
 by_cases hi : i < l.length
 ·rw [List.getElem?_eq_getElem hi, List.getElem?_range hi]
  simp only [Option.map_some, Option.some.injEq]
  have hm := pos_at (List.getElem_mem hi)
  have hii : posI l l[i] = i := (List.getElem?_inj (i := posI l l[i]) (j := i) (pos_lt (List.getElem_mem hi)) h).1 (by rw [hm, List.getElem?_eq_getElem hi])
  omega
 ·rw [List.getElem?_eq_none (by omega), List.getElem?_eq_none (by simp; omega)]
  rfl
theorem ren_formed {t : Tm} (hf : formedT t = true) {base : Int} (h0 : 0 ≤ base) (h1 : base + ((varsT t []).length : Int) ≤ 2147483648) : formedT (renT base t) = true := by
 unfold renT
 refine formed_sub t hf fun m hm => ?_
 have := pos_lt ((mem_vars2 t []).2 (Or.inr hm))
 exact var_formed (by omega) (by omega)
theorem ren_same {t : Tm} (hf : formedT t = true) {base : Int} (h0 : 0 ≤ base) (h1 : base + ((varsT t []).length : Int) ≤ 2147483648) : renT 0 (renT base t) = renT 0 t ∧ goodT (renT base t) = goodT t := by
 obtain ⟨e1, e2⟩ := variants (A := renV (varsT t []) base) (B := backV (varsT t []) base) hf (ren_formed hf h0 h1) rfl (back_ren hf base)
 exact ⟨e1.symm, e2.symm⟩
end Go.Proofs.Ytchbbaehdcmcfaa
/- The term of a variable 0, a name (of chapter 14's pure text nothing else is wanted here). Nothing here is walked. -/
namespace Go.Proofs.Ytchbbaehdcmcfaa
def nameT (s : ByteArray) (ts : List Tm) : Tm := .mk 2 0 s ts
end Go.Proofs.Ytchbbaehdcmcfaa
/- Chapter 15, what a head's steps are and that they make the head again. Nothing here is walked. -/
namespace Go.Proofs.Ytchbbaehdcmcfaa
set_option linter.unusedVariables false
structure InsM where
 op : ByteArray
 a : Int
 b : Int
 c : Int
 n : Int
 s : ByteArray
structure CodeM where
 ar : Int
 sl : Int
 rg : Int
 l : List InsM
def opVar : ByteArray := ⟨#[118, 97, 114]⟩
def opVal : ByteArray := ⟨#[118, 97, 108]⟩
def opInt : ByteArray := ⟨#[105, 110, 116]⟩
def opAtom : ByteArray := ⟨#[97, 116, 111, 109]⟩
def opComp : ByteArray := ⟨#[99, 111, 109, 112]⟩
def stepI (vs seen : List Int) (i next : Nat) (t : Tm) : InsM :=
 if t.k = 0 then ⟨if seen.contains t.n then opVal else opVar, i, (posI vs t.n : Nat), 0, 0, ⟨#[]⟩⟩
 else if t.k = 1 then ⟨opInt, i, 0, 0, t.n, ⟨#[]⟩⟩
 else if t.args.length = 0 then ⟨opAtom, i, 0, 0, 0, t.s⟩
 else ⟨opComp, i, (t.args.length : Nat), (next : Nat), 0, t.s⟩
def seenI (seen : List Int) (t : Tm) : List Int := if t.k = 0 then (if seen.contains t.n then seen else seen ++ [t.n]) else seen
def flatI (vs : List Int) : Nat → List Tm → Nat → Nat → List Int → List InsM
 | 0, _, _, _, _ => []
 | _ + 1, [], _, _, _ => []
 | K + 1, t :: q, i, next, seen => stepI vs seen i next t :: flatI vs K (q ++ t.args) (i + 1) (next + t.args.length) (seenI seen t)
def headC (t : Tm) : CodeM := ⟨(t.args.length : Nat), ((varsT t []).length : Nat), (sizesN t.args : Nat), flatI (varsT t []) (sizesN t.args) t.args 0 t.args.length []⟩
def zeroC : CodeM := ⟨0, 0, 0, []⟩
def headCE (t : Tm) : CodeM × Int := if goodT t = true ∧ t.k = 2 then (headC t, 0) else (zeroC, 1)
theorem sizes_app : ∀ a b : List Tm, sizesN (a ++ b) = sizesN a + sizesN b
 | [], b => by rw [List.nil_append, sizesN]; omega
 | x :: r, b => by rw [List.cons_append, sizesN, sizesN, sizes_app r b]; omega
theorem size_kids (t : Tm) : sizeN t = sizesN t.args + 1 := by cases t; rw [sizeN]; rfl
theorem cflat_size : ∀ (vs : List Int) (K : Nat) (q : List Tm) (i next : Nat) (seen : List Int), sizesN q ≤ K → (flatI vs K q i next seen).length = sizesN q
 | vs, 0, q, i, next, seen, h => by rw [flatI, List.length_nil]; omega
 | vs, K + 1, [], i, next, seen, h => by rw [flatI, sizesN]; rfl
 | vs, K + 1, t :: q, i, next, seen, h => by
  have hk := size_kids t
  rw [sizesN] at h
  rw [flatI, List.length_cons, cflat_size vs K _ _ _ _ (by rw [sizes_app]; omega), sizes_app, sizesN]
  omega
theorem formed_kids {t : Tm} (h : formedT t = true) : (t.k = 0 ∧ t = varV t.n) ∨ (t.k = 1 ∧ t = .mk 1 t.n ⟨#[]⟩ []) ∨ (t.k = 2 ∧ t = nameT t.s t.args) := by
 obtain ⟨k, n, s, ts⟩ := t
 rw [formedT, Bool.and_eq_true] at h
 have hp := h.1
 unfold plainT at hp
 by_cases h0 : k = 0
 ·rw [if_pos h0] at hp
  simp only [Bool.and_eq_true, decide_eq_true_eq, List.isEmpty_iff] at hp
  left
  refine ⟨h0, ?_⟩
  subst h0
  obtain rfl : ts = [] := List.length_eq_zero_iff.1 hp.2
  obtain rfl : s = ⟨#[]⟩ := bytes_eq hp.1.2
  rfl
 ·rw [if_neg h0] at hp
  by_cases h1 : k = 1
  ·rw [if_pos h1] at hp
   simp only [Bool.and_eq_true, decide_eq_true_eq, List.isEmpty_iff] at hp
   right; left
   refine ⟨h1, ?_⟩
   subst h1
   obtain rfl : ts = [] := List.length_eq_zero_iff.1 hp.2
   obtain rfl : s = ⟨#[]⟩ := bytes_eq hp.1
   rfl
  ·rw [if_neg h1] at hp
   by_cases h2 : k = 2
   ·rw [if_pos h2] at hp
    simp only [Bool.and_eq_true, decide_eq_true_eq] at hp
    right; right
    refine ⟨h2, ?_⟩
    subst h2
    obtain rfl : n = 0 := hp.1.1.1
    rfl
   ·rw [if_neg h2] at hp; cases hp
theorem formedL_app : ∀ (a b : List Tm), formedL (a ++ b) = (formedL a && formedL b)
 | [], b => by rw [List.nil_append, formedL]; rfl
 | x :: r, b => by rw [List.cons_append, formedL, formedL, formedL_app r b, Bool.and_assoc]
theorem formed_argsL {t : Tm} (h : formedT t = true) : formedL t.args = true := by
 obtain ⟨k, n, s, ts⟩ := t
 rw [formedT, Bool.and_eq_true] at h
 exact h.2
theorem sub_name (A : Int → Tm) (s : ByteArray) (ts : List Tm) : subT A (nameT s ts) = nameT s (ts.map (subT A)) := by
 unfold nameT
 rw [sub_not _ (by omega), subL_map]
end Go.Proofs.Ytchbbaehdcmcfaa
/- Chapter 15, what steps may be; a head's steps may be. Nothing here is walked. -/
namespace Go.Proofs.Ytchbbaehdcmcfaa
set_option linter.unusedVariables false
def nmOk (s : ByteArray) : Bool := plainT 2 0 s.data.toList 0
def noS (s : ByteArray) : Bool := s.data.toList.isEmpty
def insOk (sl : Int) (i next : Nat) (seen : List Int) (x : InsM) : Bool :=
 x.a == (i : Int) && (if x.op = opVar then decide (0 ≤ x.b) && decide (x.b < sl) && !seen.contains x.b && x.c == 0 && x.n == 0 && noS x.s
  else if x.op = opVal then seen.contains x.b && x.c == 0 && x.n == 0 && noS x.s
  else if x.op = opInt then x.b == 0 && x.c == 0 && noS x.s
  else if x.op = opAtom then x.b == 0 && x.c == 0 && x.n == 0 && nmOk x.s
  else if x.op = opComp then decide (1 ≤ x.b) && decide (x.b ≤ 8) && x.c == (next : Int) && x.n == 0 && nmOk x.s
  else false)
def goC (sl : Int) : List InsM → Nat → Nat → List Int → Option (Nat × List Int)
 | [], _, next, seen => some (next, seen)
 | x :: r, i, next, seen => if insOk sl i next seen x = true then goC sl r (i + 1) (if x.op = opComp then next + x.b.toNat else next) (if x.op = opVar then seen ++ [x.b] else seen) else none
def goodC (c : CodeM) : Bool := decide (0 ≤ c.ar) && decide (c.ar ≤ 8) && decide (c.rg ≤ 2000) && ((c.l.length : Nat) : Int) == c.rg && (match goC c.sl c.l 0 c.ar.toNat [] with
 | some (next, seen) => ((next : Nat) : Int) == c.rg && ((seen.length : Nat) : Int) == c.sl
 | none => false)
def seenF : Nat → List Tm → List Int → List Int
 | 0, _, seen => seen
 | _ + 1, [], seen => seen
 | K + 1, t :: q, seen => seenF K (q ++ t.args) (seenI seen t)
theorem mem_seenI {seen : List Int} {t : Tm} {n : Int} : n ∈ seenI seen t ↔ n ∈ seen ∨ (t.k = 0 ∧ n = t.n) := by
 unfold seenI
 by_cases h0 : t.k = 0
 ·rw [if_pos h0]
  by_cases hc : seen.contains t.n = true
  ·rw [if_pos hc]
   exact ⟨Or.inl, fun h => h.elim id (fun h => by rw [h.2]; simpa using hc)⟩
  ·rw [if_neg hc, List.mem_append, List.mem_singleton]
   exact ⟨fun h => h.imp id (fun h => ⟨h0, h⟩), fun h => h.imp id (fun h => h.2)⟩
 ·rw [if_neg h0]
  exact ⟨Or.inl, fun h => h.elim id (fun h => absurd h.1 h0)⟩
theorem nodup_seenI {seen : List Int} {t : Tm} (h : seen.Nodup) : (seenI seen t).Nodup := by
 unfold seenI
 by_cases h0 : t.k = 0
 ·rw [if_pos h0]
  by_cases hc : seen.contains t.n = true
  ·rw [if_pos hc]; exact h
  ·rw [if_neg hc]
   have hm : t.n ∉ seen := fun hm => hc (by simpa using hm)
   exact List.nodup_append.2 ⟨h, by simp, fun a ha b hb => by simp at hb; subst hb; exact fun e => hm (e ▸ ha)⟩
 ·rw [if_neg h0]; exact h
theorem occL_app : ∀ a b : List Tm, occL (a ++ b) = occL a ++ occL b
 | [], b => by rw [List.nil_append, occL, List.nil_append]
 | x :: r, b => by rw [List.cons_append, occL, occL, occL_app r b, List.append_assoc]
theorem occ_kids {t : Tm} (h : formedT t = true) {n : Int} : n ∈ occT t ↔ (t.k = 0 ∧ n = t.n) ∨ n ∈ occL t.args := by
 rcases formed_kids h with ⟨h0, e⟩ | ⟨h1, e⟩ | ⟨h2, e⟩
 ·rw [e]
  unfold varV
  rw [occ_var]
  simp [Tm.k, Tm.n, Tm.args, occL]
 ·have : occT t = occL t.args := by rw [e, occ_not (by decide)]; rfl
  rw [this]
  exact ⟨Or.inr, fun h => h.elim (fun h => by omega) id⟩
 ·have : occT t = occL t.args := by
   have h3 : occT (nameT t.s t.args) = occL t.args := by unfold nameT; rw [occ_not (by decide)]
   rw [← e] at h3
   exact h3
  rw [this]
  exact ⟨Or.inr, fun h => h.elim (fun h => by omega) id⟩
theorem seenF_mem : ∀ (K : Nat) (q : List Tm) (seen : List Int) (n : Int), sizesN q ≤ K → formedL q = true → (n ∈ seenF K q seen ↔ n ∈ seen ∨ n ∈ occL q)
 | 0, q, seen, n, h, hf => by
  cases q with
  | nil => rw [seenF, occL]; simp
  | cons t q => rw [sizesN] at h; have := size_pos t; omega
 | K + 1, [], seen, n, h, hf => by rw [seenF, occL]; simp
 | K + 1, t :: q, seen, n, h, hf => by
  have hk := size_kids t
  rw [sizesN] at h
  rw [formedL, Bool.and_eq_true] at hf
  rw [seenF, seenF_mem K _ _ n (by rw [sizes_app]; omega) (by rw [formedL_app, hf.2, formed_argsL hf.1]; rfl), mem_seenI, occL_app, List.mem_append, occL, List.mem_append, occ_kids hf.1]
  constructor
  ·rintro ((h | h) | h | h)
   ·exact Or.inl h
   ·exact Or.inr (Or.inl (Or.inl h))
   ·exact Or.inr (Or.inr h)
   ·exact Or.inr (Or.inl (Or.inr h))
  ·rintro (h | (h | h) | h)
   ·exact Or.inl (Or.inl h)
   ·exact Or.inl (Or.inr h)
   ·exact Or.inr (Or.inr h)
   ·exact Or.inr (Or.inl h)
theorem seenF_nodup : ∀ (K : Nat) (q : List Tm) (seen : List Int), seen.Nodup → (seenF K q seen).Nodup
 | 0, q, seen, h => by rw [seenF]; exact h
 | K + 1, [], seen, h => by rw [seenF]; exact h
 | K + 1, t :: q, seen, h => by rw [seenF]; exact seenF_nodup K _ _ (nodup_seenI h)
theorem pos_inj {l : List Int} {x y : Int} (hx : x ∈ l) (hy : y ∈ l) (h : posI l x = posI l y) : x = y := by
 have h1 := pos_at hx
 have h2 := pos_at hy
 rw [h, h2] at h1
 injection h1 with h1
 exact h1.symm
def slotI (vs : List Int) (n : Int) : Int := (posI vs n : Nat)
theorem slot_contains {vs seen : List Int} (hs : ∀ x ∈ seen, x ∈ vs) {n : Int} (hn : n ∈ vs) : (seen.map (slotI vs)).contains (slotI vs n) = seen.contains n := by
 rw [Bool.eq_iff_iff]
 simp only [List.contains_iff_mem, List.mem_map]
 constructor
 ·rintro ⟨x, hx, e⟩
  have : x = n := pos_inj (hs x hx) hn (by unfold slotI at e; omega)
  rw [← this]; exact hx
 ·intro h; exact ⟨n, h, rfl⟩
theorem plain_kids {t : Tm} (h : formedT t = true) (hk : t.k = 2) : nmOk t.s = true ∧ t.args.length ≤ 8 := by
 obtain ⟨k, n, s, ts⟩ := t
 obtain rfl : k = 2 := hk
 rw [formedT, Bool.and_eq_true] at h
 have hp := h.1
 unfold plainT at hp
 rw [if_neg (by decide), if_neg (by decide), if_pos rfl] at hp
 simp only [Bool.and_eq_true, decide_eq_true_eq] at hp
 refine ⟨?_, hp.1.2⟩
 show plainT 2 0 s.data.toList 0 = true
 unfold plainT
 rw [if_neg (by decide), if_neg (by decide), if_pos rfl]
 simp only [Bool.and_eq_true, decide_eq_true_eq]
 exact ⟨⟨⟨trivial, hp.1.1.2⟩, by omega⟩, hp.2⟩
theorem go_flat (vs : List Int) : ∀ (K : Nat) (q : List Tm) (i next : Nat) (seen : List Int), sizesN q ≤ K → next = i + q.length → formedL q = true → (∀ n ∈ occL q, n ∈ vs) → (∀ n ∈ seen, n ∈ vs) →
  goC (vs.length : Nat) (flatI vs K q i next seen) i next (seen.map (slotI vs)) = some (i + sizesN q, (seenF K q seen).map (slotI vs))
 | 0, q, i, next, seen, h, hn, hf, ho, hs => by
  cases q with
  | nil => rw [flatI, goC, seenF, sizesN, hn]; rfl
  | cons t q => rw [sizesN] at h; have := size_pos t; omega
 | K + 1, [], i, next, seen, h, hn, hf, ho, hs => by rw [flatI, goC, seenF, sizesN, hn]; rfl
 | K + 1, t :: q, i, next, seen, h, hn, hf, ho, hs => by
  have hk := size_kids t
  rw [sizesN] at h
  rw [formedL, Bool.and_eq_true] at hf
  have hoc : ∀ n, n ∈ occT t ∨ n ∈ occL q → n ∈ vs := fun n h => ho n (by rw [occL, List.mem_append]; exact h)
  have ih := go_flat vs K (q ++ t.args) (i + 1) (next + t.args.length) (seenI seen t) (by rw [sizes_app]; omega) (by rw [hn, List.length_cons, List.length_append]; omega) (by rw [formedL_app, hf.2, formed_argsL hf.1]; rfl)
   (fun n h => by
    rw [occL_app, List.mem_append] at h
    rcases h with h | h
    ·exact hoc n (Or.inr h)
    ·exact hoc n (Or.inl ((occ_kids hf.1).2 (Or.inr h))))
   (fun n h => by
    rcases mem_seenI.1 h with h | h
    ·exact hs n h
    ·exact hoc n (Or.inl ((occ_kids hf.1).2 (Or.inl h))))
  have hsum : i + 1 + sizesN (q ++ t.args) = i + sizesN (t :: q) := by rw [sizes_app, sizesN]; omega
  rw [hsum] at ih
  rw [flatI, goC, seenF]
  rcases formed_kids hf.1 with ⟨h0, e⟩ | ⟨h1, e⟩ | ⟨h2, e⟩
  ·have hv : t.n ∈ vs := hoc _ (Or.inl ((occ_kids hf.1).2 (Or.inl ⟨h0, rfl⟩)))
   have hlt : slotI vs t.n < (vs.length : Nat) := by have := pos_lt hv; unfold slotI; omega
   have hge : 0 ≤ slotI vs t.n := by unfold slotI; omega
   have hal : t.args.length = 0 := by rw [e]; rfl
   rw [hal, Nat.add_zero] at ih
   by_cases hc : seen.contains t.n = true
   ·have hst : stepI vs seen i next t = ⟨opVal, i, slotI vs t.n, 0, 0, ⟨#[]⟩⟩ := by unfold stepI; rw [if_pos h0, if_pos hc]; rfl
    have hok : insOk (vs.length : Nat) i next (seen.map (slotI vs)) ⟨opVal, i, slotI vs t.n, 0, 0, ⟨#[]⟩⟩ = true := by
     show ((i : Int) == (i : Int) && (if opVal = opVar then _ else if opVal = opVal then ((seen.map (slotI vs)).contains (slotI vs t.n) && (0 : Int) == 0 && (0 : Int) == 0 && noS ⟨#[]⟩) else _)) = true
     rw [if_neg (by decide), if_pos rfl, slot_contains hs hv, hc]
     simp [noS]
    rw [hst, if_pos hok]
    show goC _ _ (i + 1) (if opVal = opComp then _ else next) (if opVal = opVar then _ else _) = _
    rw [if_neg (by decide), if_neg (by decide), hal, Nat.add_zero]
    have hsi : seenI seen t = seen := by unfold seenI; rw [if_pos h0, if_pos hc]
    rw [hsi] at ih ⊢
    exact ih
   ·have hcf : seen.contains t.n = false := by simpa using hc
    have hst : stepI vs seen i next t = ⟨opVar, i, slotI vs t.n, 0, 0, ⟨#[]⟩⟩ := by unfold stepI; rw [if_pos h0, if_neg hc]; rfl
    have hok : insOk (vs.length : Nat) i next (seen.map (slotI vs)) ⟨opVar, i, slotI vs t.n, 0, 0, ⟨#[]⟩⟩ = true := by
     show ((i : Int) == (i : Int) && (if opVar = opVar then (decide (0 ≤ slotI vs t.n) && decide (slotI vs t.n < (vs.length : Nat)) && !(seen.map (slotI vs)).contains (slotI vs t.n) && (0 : Int) == 0 && (0 : Int) == 0 && noS ⟨#[]⟩) else _)) = true
     rw [if_pos rfl, slot_contains hs hv, hcf]
     simp [noS, hge, hlt]
    rw [hst, if_pos hok]
    show goC _ _ (i + 1) (if opVar = opComp then _ else next) (if opVar = opVar then _ else _) = _
    rw [if_neg (by decide), if_pos rfl, hal, Nat.add_zero]
    have hsi : seenI seen t = seen ++ [t.n] := by unfold seenI; rw [if_pos h0, if_neg hc]
    rw [hsi] at ih ⊢
    rw [List.map_append] at ih
    exact ih
  ·have k0 : ¬ t.k = 0 := by rw [h1]; decide
   have hal : t.args.length = 0 := by rw [e]; rfl
   rw [hal, Nat.add_zero] at ih
   have hst : stepI vs seen i next t = ⟨opInt, i, 0, 0, t.n, ⟨#[]⟩⟩ := by unfold stepI; rw [if_neg k0, if_pos h1]
   have hok : insOk (vs.length : Nat) i next (seen.map (slotI vs)) ⟨opInt, i, 0, 0, t.n, ⟨#[]⟩⟩ = true := by
    show ((i : Int) == (i : Int) && (if opInt = opVar then _ else if opInt = opVal then _ else if opInt = opInt then ((0 : Int) == 0 && (0 : Int) == 0 && noS ⟨#[]⟩) else _)) = true
    rw [if_neg (by decide), if_neg (by decide), if_pos rfl]
    simp [noS]
   rw [hst, if_pos hok]
   show goC _ _ (i + 1) (if opInt = opComp then _ else next) (if opInt = opVar then _ else _) = _
   rw [if_neg (by decide), if_neg (by decide), hal, Nat.add_zero]
   have hsi : seenI seen t = seen := by unfold seenI; rw [if_neg k0]
   rw [hsi] at ih ⊢
   exact ih
  ·have k0 : ¬ t.k = 0 := by rw [h2]; decide
   have k1 : ¬ t.k = 1 := by rw [h2]; decide
   have hsi : seenI seen t = seen := by unfold seenI; rw [if_neg k0]
   obtain ⟨hnm, h8⟩ := plain_kids hf.1 h2
   rw [hsi] at ih ⊢
   by_cases ha : t.args.length = 0
   ·have hst : stepI vs seen i next t = ⟨opAtom, i, 0, 0, 0, t.s⟩ := by unfold stepI; rw [if_neg k0, if_neg k1, if_pos ha]
    have hok : insOk (vs.length : Nat) i next (seen.map (slotI vs)) ⟨opAtom, i, 0, 0, 0, t.s⟩ = true := by
     show ((i : Int) == (i : Int) && (if opAtom = opVar then _ else if opAtom = opVal then _ else if opAtom = opInt then _ else if opAtom = opAtom then ((0 : Int) == 0 && (0 : Int) == 0 && (0 : Int) == 0 && nmOk t.s) else _)) = true
     rw [if_neg (by decide), if_neg (by decide), if_neg (by decide), if_pos rfl, hnm]
     simp
    rw [ha, Nat.add_zero] at ih
    rw [hst, if_pos hok]
    show goC _ _ (i + 1) (if opAtom = opComp then _ else next) (if opAtom = opVar then _ else _) = _
    rw [if_neg (by decide), if_neg (by decide), ha, Nat.add_zero]
    exact ih
   ·have hst : stepI vs seen i next t = ⟨opComp, i, (t.args.length : Nat), (next : Nat), 0, t.s⟩ := by unfold stepI; rw [if_neg k0, if_neg k1, if_neg ha]
    have hok : insOk (vs.length : Nat) i next (seen.map (slotI vs)) ⟨opComp, i, (t.args.length : Nat), (next : Nat), 0, t.s⟩ = true := by
     show ((i : Int) == (i : Int) && (if opComp = opVar then _ else if opComp = opVal then _ else if opComp = opInt then _ else if opComp = opAtom then _ else if opComp = opComp then (decide ((1 : Int) ≤ (t.args.length : Nat)) && decide (((t.args.length : Nat) : Int) ≤ 8) && ((next : Nat) : Int) == (next : Int) && (0 : Int) == 0 && nmOk t.s) else false)) = true
     rw [if_neg (by decide), if_neg (by decide), if_neg (by decide), if_neg (by decide), if_pos rfl, hnm]
     have h1 : (1 : Int) ≤ (t.args.length : Nat) := by omega
     have h3 : ((t.args.length : Nat) : Int) ≤ 8 := by omega
     simp only [decide_eq_true h1, decide_eq_true h3]
     simp
    rw [hst, if_pos hok]
    show goC _ _ (i + 1) (if opComp = opComp then next + ((t.args.length : Nat) : Int).toNat else next) (if opComp = opVar then _ else _) = _
    rw [if_pos rfl, if_neg (by decide), Int.toNat_natCast]
    exact ih
theorem head_good {t : Tm} (hg : goodT t = true) (hk : t.k = 2) : goodC (headC t) = true := by
 obtain ⟨g1, _, hf⟩ := good_parts hg
 obtain ⟨_, h8⟩ := plain_kids hf hk
 have hsz := size_kids t
 have hlen : (flatI (varsT t []) (sizesN t.args) t.args 0 t.args.length []).length = sizesN t.args := cflat_size _ _ _ _ _ _ (Nat.le_refl _)
 have hocc : ∀ n, n ∈ occL t.args ↔ n ∈ varsT t [] := fun n => by
  rw [mem_vars2, occ_kids hf]
  constructor
  ·exact fun h => Or.inr (Or.inr h)
  ·rintro (h | h | h)
   ·cases h
   ·omega
   ·exact h
 have hgo := go_flat (varsT t []) (sizesN t.args) t.args 0 t.args.length [] (Nat.le_refl _) (by omega) (formed_argsL hf) (fun n h => (hocc n).1 h) (fun n h => by cases h)
 have hperm : (seenF (sizesN t.args) t.args []).Perm (varsT t []) := by
  rw [List.perm_ext_iff_of_nodup (seenF_nodup _ _ _ List.nodup_nil) (vars_nodup t [] List.nodup_nil)]
  intro n
  rw [seenF_mem _ _ _ n (Nat.le_refl _) (formed_argsL hf), ← hocc n]
  simp
 have hl := hperm.length_eq
 show (decide (0 ≤ ((t.args.length : Nat) : Int)) && decide (((t.args.length : Nat) : Int) ≤ 8) && decide (((sizesN t.args : Nat) : Int) ≤ 2000) && (((flatI (varsT t []) (sizesN t.args) t.args 0 t.args.length []).length : Nat) : Int) == ((sizesN t.args : Nat) : Int) &&
  (match goC ((varsT t []).length : Nat) (flatI (varsT t []) (sizesN t.args) t.args 0 t.args.length []) 0 ((t.args.length : Nat) : Int).toNat [] with
   | some (next, seen) => ((next : Nat) : Int) == ((sizesN t.args : Nat) : Int) && ((seen.length : Nat) : Int) == (((varsT t []).length : Nat) : Int)
   | none => false)) = true
 rw [List.map_nil] at hgo
 rw [Int.toNat_natCast, hgo, hlen]
 have a1 : (0 : Int) ≤ (t.args.length : Nat) := by omega
 have a2 : ((t.args.length : Nat) : Int) ≤ 8 := by omega
 have a3 : ((sizesN t.args : Nat) : Int) ≤ 2000 := by omega
 simp only [decide_eq_true a1, decide_eq_true a2, decide_eq_true a3, List.length_map, hl, Nat.zero_add]
 simp
end Go.Proofs.Ytchbbaehdcmcfaa
/- Chapter 15, what Match leaves, beside what making alike leaves. Nothing here is walked. -/
namespace Go.Proofs.Ytchbbaehdcmcfaa
set_option linter.unusedVariables false
def slotA (S : List (Int × Tm)) (sl : List Tm) : Int → Tm := fun v => subT (fullB S) ((sl[v.toNat]?).getD (varV v))
structure MYes (S0 : List (Int × Tm)) (N : Nat) (args hargs : List Tm) (K N' : Nat) (S : List (Int × Tm)) (sl : List Tm) : Prop where
 len : sl.length = K
 le : N ≤ N'
 oks : OkS N' S
 resp : Resp N (fullB S) (fullB S0)
 inn : ∀ x ∈ sl, InN N' x
 made : subL (fullB S) args = subL (slotA S sl) hargs
 most : ∀ A ρ : Int → Tm, Resp N A (fullB S0) → subL A args = subL ρ hargs → ∃ A', (∀ m : Int, 0 ≤ m → m < N → A' m = A m) ∧ Resp N' A' (fullB S) ∧ ∀ (i : Nat) (x : Tm), sl[i]? = some x → subT A' x = ρ i
def MNo (S0 : List (Int × Tm)) (N : Nat) (args hargs : List Tm) : Prop := ∀ A ρ : Int → Tm, Resp N A (fullB S0) → ¬ subL A args = subL ρ hargs
theorem resp_nil (N : Nat) (A : Int → Tm) : Resp N A (fullB []) := fun m _ _ => by rw [fullB, sub_varV]
def InNs (N : Nat) (ts : List Tm) : Prop := ∀ x ∈ ts, InN N x
theorem InNs.occ {N : Nat} {ts : List Tm} (h : InNs N ts) : ∀ m ∈ occL ts, 0 ≤ m ∧ m < (N : Int) := by
 induction ts with
 | nil => intro m hm; rw [occL] at hm; cases hm
 | cons x r ih =>
  intro m hm
  rw [occL, List.mem_append] at hm
  rcases hm with hm | hm
  ·exact (h x (by simp)).2 m hm
  ·exact ih (fun y hy => h y (by simp [hy])) m hm
def upV (b : Int) : Int → Tm := fun m => varV (b + m)
theorem sub_up {A : Int → Tm} {b : Int} (ts : List Tm) : subL A (subL (upV b) ts) = subL (fun m => A (b + m)) ts := by
 rw [subs_sub]
 exact subs_congr ts fun m _ => by unfold upV; rw [sub_varV]
theorem name_inj {s s' : ByteArray} {a b : List Tm} (h : nameT s a = nameT s' b) : a = b := by
 unfold nameT at h
 injection h
theorem sub_nameL (A : Int → Tm) (s : ByteArray) (ts : List Tm) : subT A (nameT s ts) = nameT s (subL A ts) := by rw [sub_name, subL_map]
theorem match_alike {K N' : Nat} {args hargs : List Tm} {S : List (Int × Tm)} {sl : List Tm} {s : ByteArray} (hK : 8 + K ≤ 65536) (ha : InNs 8 args) (hh : InNs K hargs) (hp : InN (8 + K) (nameT s (subL (upV 8) hargs))) (hc : InN (8 + K) (nameT s args))
  (hcost : (uniT 2000 [] (nameT s (subL (upV 8) hargs)) (nameT s args) 0).cost ≤ 2000) (h : MYes [] 8 args hargs K N' S sl) :
  (uniT 2000 [] (nameT s (subL (upV 8) hargs)) (nameT s args) 0).ok = true ∧ ∃ A B : Int → Tm,
   (∀ x ∈ args, subT A (subT (fullB (uniT 2000 [] (nameT s (subL (upV 8) hargs)) (nameT s args) 0).set) x) = subT (fullB S) x ∧ subT B (subT (fullB S) x) = subT (fullB (uniT 2000 [] (nameT s (subL (upV 8) hargs)) (nameT s args) 0).set) x) ∧
   (∀ (i : Nat) (x : Tm), sl[i]? = some x → subT A (fullB (uniT 2000 [] (nameT s (subL (upV 8) hargs)) (nameT s args) 0).set (8 + i)) = subT (fullB S) x ∧ subT B (subT (fullB S) x) = fullB (uniT 2000 [] (nameT s (subL (upV 8) hargs)) (nameT s args) 0).set (8 + i)) := by
 have p1 := uni_post (N := 8 + K) 2000 [] _ _ 0 (OkS.nil hK) hp hc (by omega) (by omega)
 obtain ⟨r, hr⟩ : ∃ r, uniT 2000 [] (nameT s (subL (upV 8) hargs)) (nameT s args) 0 = r := ⟨_, rfl⟩
 rw [hr] at p1 hcost ⊢
 have hr0 : ∀ A : Int → Tm, Resp (8 + K) A (fullB []) := fun A m _ _ => by rw [fullB, sub_varV]
 obtain ⟨A0, hA0⟩ : ∃ A0 : Int → Tm, A0 = fun m => if m < 8 then fullB S m else slotA S sl (m - 8) := ⟨_, rfl⟩
 have hlow : ∀ m : Int, m < 8 → A0 m = fullB S m := fun m hm => by rw [hA0]; exact if_pos hm
 have hup : ∀ m : Int, 0 ≤ m → A0 (8 + m) = slotA S sl m := fun m hm => by
  rw [hA0]
  show (if 8 + m < 8 then _ else slotA S sl (8 + m - 8)) = _
  rw [if_neg (by omega), show 8 + m - 8 = m by omega]
 have e1 : subL A0 args = subL (fullB S) args := subs_congr args fun m hm => hlow m (ha.occ m hm).2
 have e2 : subL (fun m => A0 (8 + m)) hargs = subL (slotA S sl) hargs := subs_congr hargs fun m hm => hup m (hh.occ m hm).1
 have hE : subT A0 (nameT s (subL (upV 8) hargs)) = subT A0 (nameT s args) := by rw [sub_nameL, sub_nameL, sub_up, e1, e2, h.made]
 obtain ⟨hok, hresp⟩ := p1.most A0 (hr0 A0) hE hcost
 refine ⟨hok, ?_⟩
 have hm := (p1.made hok).1
 have hm' : subL (fullB r.set) args = subL (fun m => fullB r.set (8 + m)) hargs := by
  rw [sub_nameL, sub_nameL, sub_up] at hm
  exact (name_inj hm).symm
 obtain ⟨A', a1, a2, a3⟩ := h.most (fullB r.set) (fun m => fullB r.set (8 + m)) (resp_nil _ _) hm'
 refine ⟨A0, A', fun x hx => ⟨?_, ?_⟩, fun i x hx => ⟨?_, ?_⟩⟩
 ·rw [hresp.at (fun m hm => by have := (ha x hx).2 m hm; omega)]
  exact sub_congr x fun m hm => hlow m ((ha x hx).2 m hm).2
 ·rw [a2.at (fun m hm => by have := (ha x hx).2 m hm; have := h.le; omega)]
  exact sub_congr x fun m hm => a1 m ((ha x hx).2 m hm).1 (by have := ((ha x hx).2 m hm).2; omega)
 ·have hi : i < K := by rw [← h.len]; exact (List.getElem?_eq_some_iff.1 hx).1
  rw [hresp (8 + i) (by omega) (by omega), hup i (by omega)]
  unfold slotA
  rw [Int.toNat_natCast, hx]
  rfl
 ·rw [a2.at (fun m hm => (h.inn x (List.mem_of_getElem? hx)).2 m hm), a3 i x hx]
theorem match_no {K : Nat} {args hargs : List Tm} {s : ByteArray} (hK : 8 + K ≤ 65536) (hp : InN (8 + K) (nameT s (subL (upV 8) hargs))) (hc : InN (8 + K) (nameT s args)) (h : MNo [] 8 args hargs) : (uniT 2000 [] (nameT s (subL (upV 8) hargs)) (nameT s args) 0).ok = false := by
 have p1 := uni_post (N := 8 + K) 2000 [] _ _ 0 (OkS.nil hK) hp hc (by omega) (by omega)
 cases hok : (uniT 2000 [] (nameT s (subL (upV 8) hargs)) (nameT s args) 0).ok with
 | false => rfl
 | true =>
  have hm := (p1.made hok).1
  rw [sub_nameL, sub_nameL, sub_up] at hm
  exact absurd (name_inj hm).symm (h _ _ (resp_nil _ _))
theorem lists_alike {A B : Int → Tm} {xs ys : List Tm} {e : Tm} (he : ∀ A : Int → Tm, subT A e = e) (hx : formedT (listT xs e) = true) (hy : formedT (listT ys e) = true) (h1 : xs.map (subT A) = ys) (h2 : ys.map (subT B) = xs) : renT 0 (listT xs e) = renT 0 (listT ys e) ∧ goodT (listT xs e) = goodT (listT ys e) := by
 have key : ∀ (A : Int → Tm) (l : List Tm), subT A (listT l e) = listT (l.map (subT A)) e := fun A l => by
  induction l with
  | nil => exact he A
  | cons x r ih =>
   rw [listT, List.map_cons, listT, ← ih]
   unfold consT
   rw [sub_not _ (by decide), subL, subL, subL]
 exact variants hx hy (by rw [key, h1]) (by rw [key, h2])
end Go.Proofs.Ytchbbaehdcmcfaa
/- Chapter 15, CodeMatch's lists; Back's answer for a head's steps. Nothing here is walked. -/
namespace Go.Proofs.Ytchbbaehdcmcfaa
set_option linter.unusedVariables false
mutual
theorem cvars_len : ∀ (t : Tm) (l : List Int), (varsT t l).length ≤ l.length + sizeN t
 | .mk k n s ts, l => by
  rw [varsT, sizeN]
  by_cases hk : k = 0
  ·rw [if_pos hk]
   split
   ·omega
   ·simp
  ·rw [if_neg hk]
   have := cvarss_len ts l
   omega
theorem cvarss_len : ∀ (ts : List Tm) (l : List Int), (varsL ts l).length ≤ l.length + sizesN ts
 | [], l => by rw [varsL, sizesN]; omega
 | x :: r, l => by
  rw [varsL, sizesN]
  have h1 := cvars_len x l
  have h2 := cvarss_len r (varsT x l)
  omega
end
def alikeQ (x y : Tm) : Bool := goodT x && goodT y && sameT (renT 0 x) (renT 0 y)
theorem ren_up (b : Int) (t : Tm) : renT b t = subT (upV b) (renT 0 t) := by
 unfold renT
 rw [sub_sub]
 refine sub_congr t fun m _ => ?_
 unfold renV upV
 rw [sub_varV, Int.zero_add]
theorem ren_name {t : Tm} (hg : goodT t = true) (hk : t.k = 2) (b : Int) : renT b t = nameT t.s (subL (upV b) (renT 0 t).args) := by
 have hf := (good_parts hg).2.2
 have he : t = nameT t.s t.args := by
  rcases formed_kids hf with ⟨h, _⟩ | ⟨h, _⟩ | ⟨_, h⟩
  ·omega
  ·omega
  ·exact h
 have h0 : renT 0 t = nameT t.s (renT 0 t).args := by
  have h2 := sub_nameL (renV (varsT t []) 0) t.s t.args
  rw [← he] at h2
  unfold renT
  rw [h2]
  rfl
 rw [ren_up b t]
 conv => lhs; rw [h0]
 exact sub_nameL _ _ _
def nilT : Tm := nameT ⟨#[91, 93]⟩ []
theorem clist_formed (e : Tm) (he : formedT e = true) : ∀ l : List Tm, formedT (listT l e) = formedL l
 | [] => by rw [listT, formedL, he]
 | x :: r => by
  rw [listT, formedL, ← clist_formed e he r]
  unfold consT
  rw [formedT, formedL, formedL, formedL, Bool.and_true]
  have : plainT 2 0 dotS.data.toList [x, listT r e].length = true := by rfl
  rw [this, Bool.true_and]
theorem formedL_iff : ∀ {l : List Tm}, formedL l = true ↔ ∀ x ∈ l, formedT x = true
 | [] => by rw [formedL]; simp
 | x :: r => by rw [formedL, Bool.and_eq_true, formedL_iff]; simp
theorem code_lists {K N' : Nat} {args hargs : List Tm} {S : List (Int × Tm)} {sl : List Tm} {s : ByteArray} (hK : 8 + K ≤ 65536) (ha : InNs 8 args) (hh : InNs K hargs) (hp : InN (8 + K) (nameT s (subL (upV 8) hargs))) (hc : InN (8 + K) (nameT s args))
  {r : URes} (hr : uniT 2000 [] (nameT s (subL (upV 8) hargs)) (nameT s args) 0 = r) (hcost : r.cost ≤ 2000) (h : MYes [] 8 args hargs K N' S sl) :
  r.ok = true ∧ (goodT (listT (args.map (subT (fullB S)) ++ sl.map (subT (fullB S))) nilT) = true → alikeQ (listT (args.map (subT (fullB S)) ++ sl.map (subT (fullB S))) nilT) (listT (args.map (subT (fullB r.set)) ++ (List.range K).map (fun (i : Nat) => fullB r.set (8 + (i : Int)))) nilT) = true) := by
 have p1 := uni_post (N := 8 + K) 2000 [] _ _ 0 (OkS.nil hK) hp hc (by omega) (by omega)
 subst hr
 obtain ⟨hok, A, B, h1, h2⟩ := match_alike hK ha hh hp hc hcost h
 refine ⟨hok, fun hg => ?_⟩
 generalize uniT 2000 [] (nameT s (subL (upV 8) hargs)) (nameT s args) 0 = r at *
 have hnil : formedT nilT = true := by rfl
 have hx : formedT (listT (args.map (subT (fullB S)) ++ sl.map (subT (fullB S))) nilT) = true := (good_parts hg).2.2
 have hy : formedT (listT (args.map (subT (fullB r.set)) ++ (List.range K).map (fun (i : Nat) => fullB r.set (8 + (i : Int)))) nilT) = true := by
  rw [clist_formed _ hnil, formedL_iff]
  intro x hx
  rcases List.mem_append.1 hx with hx | hx
  ·obtain ⟨y, hy, rfl⟩ := List.mem_map.1 hx
   exact (p1.oks.inN (N := 8 + K) ⟨(ha y hy).1, fun m hm => by have := (ha y hy).2 m hm; omega⟩).1
  ·obtain ⟨i, hi, rfl⟩ := List.mem_map.1 hx
   have := List.mem_range.1 hi
   exact p1.oks.formed _ (by omega) (by omega)
 have hlen : sl.length = K := h.len
 have e1 : (args.map (subT (fullB r.set)) ++ (List.range K).map (fun (i : Nat) => fullB r.set (8 + (i : Int)))).map (subT A) = args.map (subT (fullB S)) ++ sl.map (subT (fullB S)) := by
  rw [List.map_append, List.map_map, List.map_map]
  congr 1
  ·exact List.map_congr_left fun x hx => (h1 x hx).1
  ·apply List.ext_getElem?
   intro i
   rw [List.getElem?_map, List.getElem?_map]
   by_cases hi : i < K
   ·have hs : sl[i]? = some sl[i] := List.getElem?_eq_getElem (by omega)
    rw [List.getElem?_range hi, hs]
    show some _ = some _
    rw [← (h2 i _ hs).1]
    rfl
   ·rw [List.getElem?_eq_none (by rw [List.length_range]; omega), List.getElem?_eq_none (by omega)]
    rfl
 have e2 : (args.map (subT (fullB S)) ++ sl.map (subT (fullB S))).map (subT B) = args.map (subT (fullB r.set)) ++ (List.range K).map (fun (i : Nat) => fullB r.set (8 + (i : Int))) := by
  rw [List.map_append, List.map_map, List.map_map]
  congr 1
  ·exact List.map_congr_left fun x hx => (h1 x hx).2
  ·apply List.ext_getElem?
   intro i
   rw [List.getElem?_map, List.getElem?_map]
   by_cases hi : i < K
   ·have hs : sl[i]? = some sl[i] := List.getElem?_eq_getElem (by omega)
    rw [List.getElem?_range hi, hs]
    show some (subT B (subT (fullB S) sl[i])) = some (fullB r.set (8 + (i : Int)))
    rw [(h2 i _ hs).2]
   ·rw [List.getElem?_eq_none (by omega), List.getElem?_eq_none (by rw [List.length_range]; omega)]
    rfl
 have hne : ∀ A : Int → Tm, subT A nilT = nilT := fun A => by unfold nilT; rw [sub_nameL, subL]
 obtain ⟨q1, q2⟩ := lists_alike hne hx hy e2 e1
 unfold alikeQ
 rw [hg, ← q2, hg, q1, same_self]
 rfl
theorem head_nums {t : Tm} (hk : t.k = 2) : (headC t).ar = (t.args.length : Nat) ∧ (headC t).sl = ((varsT t []).length : Nat) ∧ (headC t).rg = (sizeN t : Int) - 1 := by
 refine ⟨rfl, rfl, ?_⟩
 have := size_kids t
 show ((sizesN t.args : Nat) : Int) = _
 omega
end Go.Proofs.Ytchbbaehdcmcfaa
