import Derived.Test.YtchbbaehdcmcfaaHsoab
import Derived.WalkKit
import Derived.WalkSpells
import Derived.WalkLawsBesides
import Derived.Lib.Hide
import Derived.ProofKit
import Derived.OpenShut
import Derived.SizedLaws
import Derived.SliceStrings
import Derived.Carry
import Derived.Stop.Joined
import Derived.Deep.Slices
import Derived.Test.YtchbbaehdcmcfaaHsoaa
import Derived.Test.YtchbbaehdcmcfaaRows
import Derived.Maps.AppendAt
import Derived.Deep.Upon
import Derived.Deep.AppendSrc
set_option linter.unusedVariables false
set_option linter.unusedSimpArgs false
/- Chapter 15, Match step by step: what holds between two steps. Nothing here is walked. -/
namespace Go.Proofs.Ytchbbaehdcmcfaa
set_option linter.unusedVariables false
structure MInv (S0 : List (Int × Tm)) (N0 : Nat) (args hargs q rs : List Tm) (sl : Int → Option Tm) (N : Nat) (S : List (Int × Tm)) : Prop where
 le : N0 ≤ N
 oks0 : OkS N0 S0
 oks : OkS N S
 top : ∀ m : Int, (N : Int) ≤ m → fullB S m = varV m
 resp : Resp N0 (fullB S) (fullB S0)
 reg : InNs N rs
 slo : ∀ v x, sl v = some x → InN N x
 fwd : ∀ A0 ρ : Int → Tm, Resp N0 A0 (fullB S0) → subL A0 args = subL ρ hargs → ∃ A : Int → Tm, (∀ m : Int, 0 ≤ m → m < N0 → A m = A0 m) ∧ Resp N A (fullB S) ∧ subL A rs = subL ρ q ∧ ∀ v x, sl v = some x → subT A x = ρ v
 bwd : ∀ A ρ : Int → Tm, Resp N A (fullB S) → subL A rs = subL ρ q → (∀ v x, sl v = some x → subT A x = ρ v) → subL A args = subL ρ hargs
section
variable {S0 : List (Int × Tm)} {N0 : Nat} {args hargs q rs : List Tm} {sl : Int → Option Tm} {N : Nat} {S : List (Int × Tm)}
theorem MInv.start (h : OkS N0 S0) (ht : ∀ m : Int, (N0 : Int) ≤ m → fullB S0 m = varV m) (ha : InNs N0 args) : MInv S0 N0 args hargs hargs args (fun _ => none) N0 S0 :=
 ⟨Nat.le_refl _, h, h, ht, h.resp, ha, fun v x e => (by cases e), fun A0 ρ hr he => ⟨A0, fun _ _ _ => rfl, hr, he, fun v x e => (by cases e)⟩, fun A ρ _ he _ => he⟩
def setO (sl : Int → Option Tm) (v : Int) (x : Tm) : Int → Option Tm := fun u => if u = v then some x else sl u
theorem MInv.var {r : Tm} {v : Int} (h : MInv S0 N0 args hargs (varV v :: q) (r :: rs) sl N S) (hv : sl v = none) : MInv S0 N0 args hargs q rs (setO sl v r) N S := by
 refine ⟨h.le, h.oks0, h.oks, h.top, h.resp, fun x hx => h.reg x (by simp [hx]), fun u x e => ?_, fun A0 ρ hr he => ?_, fun A ρ hr he hs => ?_⟩
 ·unfold setO at e
  by_cases hu : u = v
  ·rw [if_pos hu] at e; cases e; exact h.reg _ (by simp)
  ·rw [if_neg hu] at e; exact h.slo u x e
 ·obtain ⟨A, h1, h2, h3, h4⟩ := h.fwd A0 ρ hr he
  rw [subL, subL, sub_varV] at h3
  injection h3 with h5 h6
  refine ⟨A, h1, h2, h6, fun u x e => ?_⟩
  unfold setO at e
  by_cases hu : u = v
  ·rw [if_pos hu] at e; cases e; rw [hu]; exact h5
  ·rw [if_neg hu] at e; exact h4 u x e
 ·refine h.bwd A ρ hr ?_ (fun u x e => hs u x ?_)
  ·rw [subL, subL, sub_varV, he, hs v r (by unfold setO; rw [if_pos rfl])]
  ·unfold setO
   rw [if_neg (fun hu => by rw [hu, hv] at e; cases e)]
   exact e
theorem MInv.uni {r y t : Tm} {S' : List (Int × Tm)} {c : Nat} {res : URes} (h : MInv S0 N0 args hargs (t :: q) (r :: rs) sl N S) (hy : InN N y) (hp : UPost N S (fun A => subT A r = subT A y) c res) (hok : res.ok = true) (hset : ∀ m, fullB S' m = fullB res.set m) (hoks : OkS N S') (htop : ∀ m : Int, (N : Int) ≤ m → fullB S' m = varV m)
  (hyt : ∀ A ρ : Int → Tm, (∀ v x, sl v = some x → subT A x = ρ v) → subT A y = subT ρ t) : MInv S0 N0 args hargs q rs sl N S' := by
 have hf : fullB S' = fullB res.set := funext hset
 have hle := h.le
 have hre : Resp N (fullB S') (fullB S) := by rw [hf]; exact hp.resp
 refine ⟨h.le, h.oks0, hoks, htop, ?_, fun x hx => h.reg x (by simp [hx]), h.slo, fun A0 ρ hr he => ?_, fun A ρ hr he hs => ?_⟩
 ·exact Resp.trans h.oks0 (fun m h0 h1 => hre m h0 (by omega)) h.resp
 ·obtain ⟨A, h1, h2, h3, h4⟩ := h.fwd A0 ρ hr he
  rw [subL, subL] at h3
  injection h3 with h5 h6
  refine ⟨A, h1, ?_, h6, h4⟩
  rw [hf]
  exact (hp.most A h2 (by rw [h5, hyt A ρ h4]) (hp.made hok).2).2
 ·have hrS : Resp N A (fullB S) := Resp.trans h.oks hr hre
  refine h.bwd A ρ hrS ?_ hs
  rw [subL, subL, he, ← hyt A ρ hs]
  congr 1
  have hE := (hp.made hok).1
  rw [← hf] at hE
  have i1 := hr.at (t := r) (fun j hj => (h.reg r (by simp)).2 j hj)
  have i2 := hr.at (t := y) (fun j hj => hy.2 j hj)
  rw [← i1, ← i2, hE]
theorem MInv.uni_no {r y t : Tm} {c : Nat} {res : URes} (h : MInv S0 N0 args hargs (t :: q) (r :: rs) sl N S) (hp : UPost N S (fun A => subT A r = subT A y) c res) (hok : res.ok = false) (hc : res.cost ≤ 2000)
  (hyt : ∀ A ρ : Int → Tm, (∀ v x, sl v = some x → subT A x = ρ v) → subT A y = subT ρ t) : MNo S0 N0 args hargs := fun A0 ρ hr he => by
 obtain ⟨A, h1, h2, h3, h4⟩ := h.fwd A0 ρ hr he
 rw [subL, subL] at h3
 injection h3 with h5 h6
 have := (hp.most A h2 (by rw [h5, hyt A ρ h4]) hc).1
 rw [hok] at this
 cases this
theorem MInv.comp {r : Tm} {s : ByteArray} {ts us : List Tm} (h : MInv S0 N0 args hargs (nameT s ts :: q) (r :: rs) sl N S) (hr : ∀ A : Int → Tm, Resp N A (fullB S) → subT A r = nameT s (subL A us)) (hu : InNs N us) (hl : us.length = ts.length) : MInv S0 N0 args hargs (q ++ ts) (rs ++ us) sl N S := by
 have app : ∀ (A : Int → Tm) (a b : List Tm), subL A (a ++ b) = subL A a ++ subL A b := fun A a b => by rw [subL_map, subL_map, subL_map, List.map_append]
 refine ⟨h.le, h.oks0, h.oks, h.top, h.resp, fun x hx => ?_, h.slo, fun A0 ρ hr0 he => ?_, fun A ρ hA he hs => ?_⟩
 ·rcases List.mem_append.1 hx with hx | hx
  ·exact h.reg x (by simp [hx])
  ·exact hu x hx
 ·obtain ⟨A, h1, h2, h3, h4⟩ := h.fwd A0 ρ hr0 he
  rw [subL, subL, sub_nameL, hr A h2] at h3
  injection h3 with h5 h6
  exact ⟨A, h1, h2, by rw [app, app, h6, name_inj h5], h4⟩
 ·refine h.bwd A ρ hA ?_ hs
  rw [app, app] at he
  have hlen : (subL A us).length = (subL ρ ts).length := by rw [subL_map, subL_map, List.length_map, List.length_map, hl]
  obtain ⟨e1, e2⟩ := List.append_inj' he hlen
  rw [subL, subL, sub_nameL, hr A hA, e1, e2]
theorem MInv.comp_no {r : Tm} {s : ByteArray} {ts : List Tm} (h : MInv S0 N0 args hargs (nameT s ts :: q) (r :: rs) sl N S) (hr : ∀ (A : Int → Tm) (l : List Tm), Resp N A (fullB S) → l.length = ts.length → ¬ subT A r = nameT s l) : MNo S0 N0 args hargs := fun A0 ρ hr0 he => by
 obtain ⟨A, h1, h2, h3, h4⟩ := h.fwd A0 ρ hr0 he
 rw [subL, subL, sub_nameL] at h3
 injection h3 with h5 h6
 exact hr A _ h2 (by rw [subL_map, List.length_map]) h5
def freshL (N k : Nat) : List Tm := (List.range k).map fun i => varV ((N + i : Nat) : Int)
theorem OkS.grow {N' : Nat} (h : OkS N S) (ht : ∀ m : Int, (N : Int) ≤ m → fullB S m = varV m) (hl : N ≤ N') (hN : N' ≤ 65536) : OkS N' S := by
 refine ⟨hN, fun m h0 h1 => ?_, fun m h0 h1 j hj => ?_, h.fix⟩
 ·by_cases hm : m < N
  ·exact h.formed m h0 hm
  ·rw [ht m (by omega)]; exact var_formed h0 (by omega)
 ·by_cases hm : m < N
  ·have := h.rng m h0 hm j hj; omega
  ·rw [ht m (by omega), occ_varV] at hj; simp at hj; omega
theorem MInv.grow {N' : Nat} (h : MInv S0 N0 args hargs q rs sl N S) (hl : N ≤ N') (hN : N' ≤ 65536) : MInv S0 N0 args hargs q rs sl N' S := by
 have hle := h.le
 refine ⟨by omega, h.oks0, h.oks.grow h.top hl hN, fun m hm => h.top m (by omega), h.resp, fun x hx => ⟨(h.reg x hx).1, fun m hm => by have := (h.reg x hx).2 m hm; omega⟩, fun v x e => ⟨(h.slo v x e).1, fun m hm => by have := (h.slo v x e).2 m hm; omega⟩, fun A0 ρ hr he => ?_, fun A ρ hr he hs => h.bwd A ρ (fun m h0 h1 => hr m h0 (by omega)) he hs⟩
 obtain ⟨A, h1, h2, h3, h4⟩ := h.fwd A0 ρ hr he
 refine ⟨A, h1, fun m h0 h1 => ?_, h3, h4⟩
 by_cases hm : m < N
 ·exact h2 m h0 hm
 ·rw [h.top m (by omega), sub_varV]
theorem MInv.build {r : Tm} {s : ByteArray} {ts : List Tm} {n : Int} {S' : List (Int × Tm)} (h : MInv S0 N0 args hargs (nameT s ts :: q) (r :: rs) sl N S) (hN : N + ts.length ≤ 65536) (h0 : 0 ≤ n) (h1 : n < N) (hn : fullB S n = varV n) (hr : subT (fullB S) r = varV n) (hf : formedT (nameT s (freshL N ts.length)) = true)
  (hset : ∀ m, fullB S' m = fullB ((n, nameT s (freshL N ts.length)) :: S) m) (hoks : OkS (N + ts.length) S') : MInv S0 N0 args hargs (q ++ ts) (rs ++ freshL N ts.length) sl (N + ts.length) S' := by
 have hg := h.grow (N' := N + ts.length) (by omega) hN
 have hle := h.le
 have hT : InN (N + ts.length) (nameT s (freshL N ts.length)) := ⟨hf, fun m hm => by
  have : m ∈ occL (freshL N ts.length) := by unfold nameT at hm; rw [occ_not (by decide)] at hm; exact hm
  have key : ∀ l : List Nat, (∀ i ∈ l, i < ts.length) → m ∈ occL (l.map fun i => varV ((N + i : Nat) : Int)) → 0 ≤ m ∧ m < ((N + ts.length : Nat) : Int) := by
   intro l
   induction l with
   | nil => intro _ hm; rw [List.map_nil, occL] at hm; cases hm
   | cons a l ih =>
    intro hl hm
    rw [List.map_cons, occL, List.mem_append, occ_varV] at hm
    rcases hm with hm | hm
    ·simp at hm; have := hl a (by simp); omega
    ·exact ih (fun i hi => hl i (by simp [hi])) hm
  exact key _ (fun i hi => List.mem_range.1 hi) this⟩
 have hfresh : ∀ x ∈ freshL N ts.length, ∃ i, i < ts.length ∧ x = varV ((N + i : Nat) : Int) := fun x hx => by
  obtain ⟨i, hi, rfl⟩ := List.mem_map.1 hx
  exact ⟨i, List.mem_range.1 hi, rfl⟩
 have hwhole : ∀ j ∈ occT (nameT s (freshL N ts.length)), (N : Int) ≤ j := fun m hm => by
  have hm2 : m ∈ occL (freshL N ts.length) := by unfold nameT at hm; rw [occ_not (by decide)] at hm; exact hm
  have key : ∀ l : List Nat, m ∈ occL (l.map fun i => varV ((N + i : Nat) : Int)) → (N : Int) ≤ m := by
   intro l
   induction l with
   | nil => intro hm; rw [List.map_nil, occL] at hm; cases hm
   | cons a l ih =>
    intro hm
    rw [List.map_cons, occL, List.mem_append, occ_varV] at hm
    rcases hm with hm | hm
    ·simp at hm; omega
    ·exact ih hm
  exact key _ hm2
 obtain ⟨c1, c2⟩ := hg.oks.cons h0 (by omega) hT (fun j hj => h.top j (hwhole j hj)) (fun hm => by have := hwhole n hm; omega)
 have hfull : ∀ m, fullB S' m = subT (oneV n (nameT s (freshL N ts.length))) (fullB S m) := fun m => (hset m).trans (c2 m)
 have hAS : ∀ A : Int → Tm, Resp (N + ts.length) A (fullB S') → A n = nameT s (subL A (freshL N ts.length)) := fun A hA => by
  have e := hA n h0 (by omega)
  rw [hfull n, hn, sub_varV, oneV_self, sub_nameL] at e
  exact e.symm
 have hdown : ∀ A : Int → Tm, Resp (N + ts.length) A (fullB S') → Resp (N + ts.length) A (fullB S) := fun A hA m g0 g1 => by
  have e := hA m g0 g1
  rw [hfull m, sub_sub] at e
  rw [← e]
  refine (sub_congr _ fun j hj => ?_).symm
  by_cases hjn : j = n
  ·rw [hjn, oneV_self, sub_nameL, ← hAS A hA]
  ·rw [oneV_ne _ hjn, sub_varV]
 have hup : ∀ A : Int → Tm, Resp (N + ts.length) A (fullB S) → A n = nameT s (subL A (freshL N ts.length)) → Resp (N + ts.length) A (fullB S') := fun A hA hAn m g0 g1 => by
  rw [hfull m, sub_sub, ← hA m g0 g1]
  refine sub_congr _ fun j hj => ?_
  by_cases hjn : j = n
  ·rw [hjn, oneV_self, sub_nameL, ← hAn]
  ·rw [oneV_ne _ hjn, sub_varV]
 have app : ∀ (A : Int → Tm) (a b : List Tm), subL A (a ++ b) = subL A a ++ subL A b := fun A a b => by rw [subL_map, subL_map, subL_map, List.map_append]
 have hrn : ∀ A : Int → Tm, Resp N A (fullB S) → subT A r = A n := fun A hA => by
  rw [← hA.at (t := r) (fun j hj => (h.reg r (by simp)).2 j hj), hr, sub_varV]
 refine ⟨by omega, h.oks0, hoks, fun m hm => ?_, ?_, fun x hx => ?_, fun v x e => ⟨(h.slo v x e).1, fun m hm => by have := (h.slo v x e).2 m hm; omega⟩, fun A0 ρ hr0 he => ?_, fun A ρ hA he hs => ?_⟩
 ·rw [hfull m, h.top m (by omega), sub_varV, oneV_ne _ (by omega)]
 ·exact Resp.trans h.oks0 (fun m g0 g1 => hdown _ hoks.resp m g0 (by omega)) h.resp
 ·rcases List.mem_append.1 hx with hx | hx
  ·exact ⟨(h.reg x (by simp [hx])).1, fun m hm => by have := (h.reg x (by simp [hx])).2 m hm; omega⟩
  ·obtain ⟨i, hi, rfl⟩ := hfresh x hx
   exact ⟨var_formed (by omega) (by omega), fun m hm => by rw [occ_varV] at hm; simp at hm; omega⟩
 ·obtain ⟨A, a1, a2, a3, a4⟩ := h.fwd A0 ρ hr0 he
  rw [subL, subL, sub_nameL, hrn A a2] at a3
  injection a3 with a5 a6
  obtain ⟨A', hA'⟩ : ∃ A' : Int → Tm, A' = fun m => if m < (N : Int) then A m else if m < ((N + ts.length : Nat) : Int) then subT ρ ((ts[(m - N).toNat]?).getD (varV m)) else A m := ⟨_, rfl⟩
  have low : ∀ m : Int, m < N → A' m = A m := fun m hm => by rw [hA']; exact if_pos hm
  have lowT : ∀ t : Tm, InN N t → subT A' t = subT A t := fun t ht => sub_congr t fun m hm => low m (ht.2 m hm).2
  have fr : subL A' (freshL N ts.length) = subL ρ ts := by
   rw [subL_map, subL_map]
   apply List.ext_getElem?
   intro i
   rw [List.getElem?_map, List.getElem?_map]
   unfold freshL
   rw [List.getElem?_map]
   by_cases hi : i < ts.length
   ·rw [List.getElem?_range hi, List.getElem?_eq_getElem hi]
    show some (subT A' (varV ((N + i : Nat) : Int))) = some (subT ρ ts[i])
    rw [sub_varV, hA']
    show some (if ((N + i : Nat) : Int) < (N : Int) then _ else if ((N + i : Nat) : Int) < ((N + ts.length : Nat) : Int) then _ else _) = _
    rw [if_neg (by omega), if_pos (by omega), show (((N + i : Nat) : Int) - (N : Int)).toNat = i by omega, List.getElem?_eq_getElem hi]
    rfl
   ·rw [List.getElem?_eq_none (by rw [List.length_range]; omega), List.getElem?_eq_none (by omega)]
    rfl
  have rS : Resp (N + ts.length) A' (fullB S) := fun m g0 g1 => by
   by_cases hm : m < (N : Int)
   ·rw [lowT _ ⟨h.oks.formed m g0 hm, h.oks.rng m g0 hm⟩, a2 m g0 hm, low m hm]
   ·rw [h.top m (by omega), sub_varV]
  refine ⟨A', fun m g0 g1 => by rw [low m (by omega), a1 m g0 g1], hup A' rS (by rw [low n h1, a5, fr]), ?_, fun v x e => by rw [lowT x (h.slo v x e), a4 v x e]⟩
  rw [app, app, fr]
  congr 1
  rw [← a6]
  exact subs_congr rs fun m hm => low m ((InNs.occ (N := N) (fun x hx => h.reg x (by simp [hx]))) m hm).2
 ·have hAd := hdown A hA
  have hAN : Resp N A (fullB S) := fun m g0 g1 => hAd m g0 (by omega)
  refine h.bwd A ρ hAN ?_ hs
  rw [app, app] at he
  have hlen : (subL A (freshL N ts.length)).length = (subL ρ ts).length := by rw [subL_map, subL_map, List.length_map, List.length_map]; unfold freshL; rw [List.length_map, List.length_range]
  obtain ⟨e1, e2⟩ := List.append_inj' he hlen
  rw [subL, subL, sub_nameL, hrn A hAN, hAS A hA, e1, e2]
theorem MInv.done {K : Nat} {L : List Tm} (h : MInv S0 N0 args hargs [] [] sl N S) (hL : L.length = K) (hsl : ∀ v x, sl v = some x ↔ 0 ≤ v ∧ L[v.toNat]? = some x) : MYes S0 N0 args hargs K N S L := by
 refine ⟨hL, h.le, h.oks, h.resp, fun x hx => ?_, ?_, fun A ρ hr he => ?_⟩
 ·obtain ⟨i, hi⟩ := List.getElem?_of_mem hx
  exact h.slo (i : Int) x ((hsl _ _).2 ⟨by omega, by rw [Int.toNat_natCast]; exact hi⟩)
 ·refine h.bwd (fullB S) (slotA S L) h.oks.resp (by rw [subL, subL]) (fun v x e => ?_)
  obtain ⟨_, e2⟩ := (hsl v x).1 e
  unfold slotA
  rw [e2]
  rfl
 ·obtain ⟨A', h1, h2, _, h4⟩ := h.fwd A ρ hr he
  exact ⟨A', h1, h2, fun i x hx => h4 i x ((hsl _ _).2 ⟨by omega, by rw [Int.toNat_natCast]; exact hx⟩)⟩
end
end Go.Proofs.Ytchbbaehdcmcfaa
/- Chapter 15, Match's steps over what Walk, Set and Both answer. Nothing here is walked. -/
namespace Go.Proofs.Ytchbbaehdcmcfaa
set_option linter.unusedVariables false
section
variable {S0 : List (Int × Tm)} {N0 : Nat} {args hargs q rs : List Tm} {sl : Int → Option Tm} {N : Nat} {S : List (Int × Tm)}
theorem walk_eq {r y : Tm} (hr : InN N r) (hy : InN N y) (hw : subT (fullB S) y = subT (fullB S) r) {A : Int → Tm} (hA : Resp N A (fullB S)) : subT A r = subT A y := by
 rw [← hA.at hr.2, ← hw, hA.at hy.2]
theorem MInv.comp_at {r : Tm} {s : ByteArray} {ts us : List Tm} (h : MInv S0 N0 args hargs (nameT s ts :: q) (r :: rs) sl N S) (hy : InN N (nameT s us)) (hw : subT (fullB S) (nameT s us) = subT (fullB S) r) (hl : us.length = ts.length) : MInv S0 N0 args hargs (q ++ ts) (rs ++ us) sl N S :=
 h.comp (fun A hA => (walk_eq (h.reg r (by simp)) hy hw hA).trans (sub_nameL A s us)) (fun x hx => inN_arg (k := 2) (by decide) hy x hx) hl
theorem top_no {y : Tm} {s : ByteArray} {k : Nat} (hy : formedT y = true) (h0 : ¬ y.k = 0) (hn : ¬ (y.k = 2 ∧ y.s = s ∧ y.args.length = k)) (A : Int → Tm) (l : List Tm) (hl : l.length = k) : ¬ subT A y = nameT s l := by
 intro e
 rcases formed_kids hy with ⟨h, _⟩ | ⟨h, he⟩ | ⟨h, he⟩
 ·exact h0 h
 ·rw [he, sub_not A (by decide)] at e
  unfold nameT at e
  injection e with e1
  exact absurd e1 (by decide)
 ·rw [he, sub_nameL] at e
  have e1 := name_inj e
  unfold nameT at e
  injection e with _ _ e2 _
  exact hn ⟨h, e2, by rw [← hl, ← e1, subL_map, List.length_map]⟩
theorem MInv.comp_not {r y : Tm} {s : ByteArray} {ts : List Tm} (h : MInv S0 N0 args hargs (nameT s ts :: q) (r :: rs) sl N S) (hy : InN N y) (hw : subT (fullB S) y = subT (fullB S) r) (h0 : ¬ y.k = 0) (hn : ¬ (y.k = 2 ∧ y.s = s ∧ y.args.length = ts.length)) : MNo S0 N0 args hargs :=
 h.comp_no fun A l hA hl e => top_no hy.1 h0 hn A l hl (by rw [← walk_eq (h.reg r (by simp)) hy hw hA]; exact e)
theorem fresh_formed {s : ByteArray} {ts : List Tm} (h : formedT (nameT s ts) = true) (hN : N + ts.length ≤ 65536) : formedT (nameT s (freshL N ts.length)) = true := by
 unfold nameT at h ⊢
 rw [formedT, Bool.and_eq_true] at h ⊢
 have hlen : (freshL N ts.length).length = ts.length := by unfold freshL; rw [List.length_map, List.length_range]
 refine ⟨by rw [hlen]; exact h.1, formedL_iff.2 fun x hx => ?_⟩
 obtain ⟨i, hi, rfl⟩ := List.mem_map.1 hx
 have := List.mem_range.1 hi
 exact var_formed (by omega) (by omega)
theorem MInv.build_at {r y : Tm} {s : ByteArray} {ts : List Tm} {n : Int} (h : MInv S0 N0 args hargs (nameT s ts :: q) (r :: rs) sl N S) (hN : N + ts.length ≤ 65536) (h0 : 0 ≤ n) (h1 : n < N) (hn : fullB S n = varV n) (hw : subT (fullB S) (varV n) = subT (fullB S) r) (hf : formedT (nameT s ts) = true)
  (hy : subT (fullB S) y = subT (fullB S) (nameT s (freshL N ts.length))) (hoks : OkS (N + ts.length) ((n, y) :: S)) : MInv S0 N0 args hargs (q ++ ts) (rs ++ freshL N ts.length) sl (N + ts.length) ((n, y) :: S) :=
 h.build hN h0 h1 hn (by rw [← hw, sub_varV, hn]) (fresh_formed hf hN) (fun m => by rw [fullB, fullB, hy]) hoks
def conT (T : Tm) : Prop := formedT T = true ∧ ¬ T.k = 0 ∧ T.args = []
theorem con_sub {T : Tm} (h : conT T) (A : Int → Tm) : subT A T = T := by
 obtain ⟨hf, h0, ha⟩ := h
 cases T with
 | mk k n s ts =>
  have : ts = [] := ha
  subst this
  rw [sub_not A (show ¬ k = 0 from h0), subL]
theorem con_inN {T : Tm} (h : conT T) : InN N T := by
 refine ⟨h.1, fun m hm => ?_⟩
 obtain ⟨hf, h0, ha⟩ := h
 cases T with
 | mk k n s ts =>
  have : ts = [] := ha
  subst this
  rw [occ_not (show ¬ k = 0 from h0), occL] at hm
  cases hm
theorem con_occ {T : Tm} (h : conT T) (m : Int) : ¬ m ∈ occT T := fun hm => by
 obtain ⟨hf, h0, ha⟩ := h
 cases T with
 | mk k n s ts =>
  have : ts = [] := ha
  subst this
  rw [occ_not (show ¬ k = 0 from h0), occL] at hm
  cases hm
theorem con_top {y T : Tm} (h : conT T) (hy : formedT y = true) (h0 : ¬ y.k = 0) {A : Int → Tm} (e : subT A y = T) : y = T := by
 obtain ⟨hf, hk, ha⟩ := h
 cases y with
 | mk k n s ts =>
  rw [sub_not A (show ¬ k = 0 from h0)] at e
  subst e
  have : subL A ts = [] := ha
  cases ts with
  | nil => rw [subL]
  | cons x r => rw [subL] at this; cases this
theorem MInv.con_same {r T : Tm} (h : MInv S0 N0 args hargs (T :: q) (r :: rs) sl N S) (hT : conT T) (hw : subT (fullB S) T = subT (fullB S) r) : MInv S0 N0 args hargs q rs sl N S :=
 h.uni (y := T) (con_inN hT) (c := 0) (res := ⟨true, S, 0⟩) ⟨h.oks, h.oks.resp, ⟨[], rfl⟩, Nat.le_refl _, fun _ => ⟨hw.symm, Nat.zero_le _⟩, fun A hA _ _ => ⟨rfl, hA⟩⟩ rfl (fun _ => rfl) h.oks h.top (fun A ρ _ => by rw [con_sub hT, con_sub hT])
theorem MInv.con_not {r y T : Tm} (h : MInv S0 N0 args hargs (T :: q) (r :: rs) sl N S) (hT : conT T) (hy : InN N y) (hw : subT (fullB S) y = subT (fullB S) r) (h0 : ¬ y.k = 0) (hn : ¬ y = T) : MNo S0 N0 args hargs := fun A0 ρ hr0 he => by
 obtain ⟨A, h1, h2, h3, h4⟩ := h.fwd A0 ρ hr0 he
 rw [subL, subL, con_sub hT] at h3
 injection h3 with h5 h6
 exact hn (con_top hT hy.1 h0 (A := A) ((walk_eq (h.reg r (by simp)) hy hw h2).symm.trans h5))
theorem MInv.con_set {r y T : Tm} {n : Int} (h : MInv S0 N0 args hargs (T :: q) (r :: rs) sl N S) (hT : conT T) (h0 : 0 ≤ n) (h1 : n < N) (hn : fullB S n = varV n) (hw : subT (fullB S) (varV n) = subT (fullB S) r) (hy : subT (fullB S) y = subT (fullB S) T) : MInv S0 N0 args hargs q rs sl N ((n, y) :: S) := by
 have hle := h.le
 have hv : InN N (varV n) := ⟨var_formed h0 (by have := h.oks.small; omega), fun m hm => by rw [occ_varV] at hm; simp at hm; omega⟩
 have hp := bind_post (c := 0) (c' := 0) h.oks h0 h1 hn (con_inN hT) (fun j hj => absurd hj (con_occ hT j)) (con_occ hT n) (Nat.le_refl _) (by omega)
 have hp2 : UPost N S (fun A => subT A r = subT A T) 0 ⟨true, (n, T) :: S, 0⟩ := hp.iff' fun A hA => by rw [walk_eq (h.reg r (by simp)) hv hw hA, sub_varV]
 have hset : ∀ m, fullB ((n, y) :: S) m = fullB ((n, T) :: S) m := fun m => by rw [fullB, fullB, hy]
 have hf : fullB ((n, y) :: S) = fullB ((n, T) :: S) := funext hset
 refine h.uni (y := T) (con_inN hT) hp2 rfl hset ?_ ?_ (fun A ρ _ => by rw [con_sub hT, con_sub hT])
 ·have ho := hp.oks
  exact ⟨ho.small, by rw [hf]; exact ho.formed, by rw [hf]; exact ho.rng, by rw [hf]; exact ho.fix⟩
 ·intro m hm
  rw [hset m, fullB, h.top m hm, sub_varV, oneV_ne _ (by omega)]
theorem MInv.val_at {r x : Tm} {v : Int} {S' : List (Int × Tm)} {res : URes} (h : MInv S0 N0 args hargs (varV v :: q) (r :: rs) sl N S) (hx : sl v = some x) (hres : uniT 2000 S r x 0 = res) (hok : res.ok = true) (hc : res.cost ≤ 2000) (hset : fullB S' = fullB res.set) (hoks : OkS N S') (htop : ∀ m : Int, (N : Int) ≤ m → fullB S' m = varV m) : MInv S0 N0 args hargs q rs sl N S' := by
 subst hres
 exact h.uni (h.slo v x hx) (uni_post 2000 S r x 0 h.oks (h.reg r (by simp)) (h.slo v x hx) (by omega) (by omega)) hok (fun m => by rw [hset]) hoks htop (fun A ρ hs => by rw [sub_varV]; exact hs v x hx)
theorem MInv.val_no {r x : Tm} {v : Int} {res : URes} (h : MInv S0 N0 args hargs (varV v :: q) (r :: rs) sl N S) (hx : sl v = some x) (hres : uniT 2000 S r x 0 = res) (hok : res.ok = false) (hc : res.cost ≤ 2000) : MNo S0 N0 args hargs := by
 subst hres
 exact h.uni_no (uni_post 2000 S r x 0 h.oks (h.reg r (by simp)) (h.slo v x hx) (by omega) (by omega)) hok hc (fun A ρ hs => by rw [sub_varV]; exact hs v x hx)
theorem MInv.val_at' {r x : Tm} {v : Int} {S' : List (Int × Tm)} {res : URes} (h : MInv S0 N0 args hargs (varV v :: q) (r :: rs) sl N S) (hx : sl v = some x) (hres : uniT 2000 S x r 0 = res) (hok : res.ok = true) (hc : res.cost ≤ 2000) (hset : fullB S' = fullB res.set) (hoks : OkS N S') (htop : ∀ m : Int, (N : Int) ≤ m → fullB S' m = varV m) : MInv S0 N0 args hargs q rs sl N S' := by
 subst hres
 exact h.uni (h.slo v x hx) ((uni_post 2000 S x r 0 h.oks (h.slo v x hx) (h.reg r (by simp)) (by omega) (by omega)).iff fun A => ⟨Eq.symm, Eq.symm⟩) hok (fun m => by rw [hset]) hoks htop (fun A ρ hs => by rw [sub_varV]; exact hs v x hx)
theorem MInv.val_no' {r x : Tm} {v : Int} {res : URes} (h : MInv S0 N0 args hargs (varV v :: q) (r :: rs) sl N S) (hx : sl v = some x) (hres : uniT 2000 S x r 0 = res) (hok : res.ok = false) (hc : res.cost ≤ 2000) : MNo S0 N0 args hargs := by
 subst hres
 exact h.uni_no ((uni_post 2000 S x r 0 h.oks (h.slo v x hx) (h.reg r (by simp)) (by omega) (by omega)).iff fun A => ⟨Eq.symm, Eq.symm⟩) hok hc (fun A ρ hs => by rw [sub_varV]; exact hs v x hx)
end
end Go.Proofs.Ytchbbaehdcmcfaa
/- Small facts of ours about endings, byte strings and slices of strings in memory; nothing here speaks of one program. -/
namespace Go.Proofs.Ytchbbaehdcmcfaa
open Go.RowKit
theorem ret_bool {a b : Bool} (h : a = b) : Ending.returned (.bool a) = .returned (.bool b) := by rw [h]
theorem ret_int {k : IntKind} {a b : Int} (h : a = b) : Ending.returned (.int k a) = .returned (.int k b) := by rw [h]
abbrev Ext (W w : World) : Prop := Below W.heap.size W w
theorem Ext.trans' {a b c : World} (h : Below a.heap.size a b) (k : Below b.heap.size b c) : Below a.heap.size a c := h.trans (k.mono h.size)
end Go.Proofs.Ytchbbaehdcmcfaa
/- How the arguments of a law are opened: from the form's reading to our own predicates. Nothing here speaks of one program. -/
namespace Go.Proofs.Ytchbbaehdcmcfaa
open Go.RowKit Go.ChangeShapes Go.WideShapes Go.ChangeAt
def IsBool (W : World) (b : Bool) (e : Ending) (w' : World) : Prop := e = .returned (.bool b) ∧ Below W.heap.size W w'
section
variable {H : Type} {enc : TypeId × Value → H} {P : Program} {W : World}
theorem weights_ok {ts : List TypeId} {ds : List (DataW H)} (h : (DataW.weightsEach P ts ds).all (· ≤ reachBytes) = true) {j : Nat} {t : TypeId} {d : DataW H} (ht : ts[j]? = some t) (hd : ds[j]? = some d) :
  ∀ n ∈ d.weights P t, n ≤ 140737488351232 := fun n hn => by
 have := List.all_eq_true.1 h n (DataW.weights_mem_each ht hd n hn)
 have e : reachBytes = 140737488351232 := by decide
 simpa [e] using this
theorem weights_all_mem {e : TypeId} : ∀ {l : List (DataW H)} {d : DataW H}, d ∈ l → ∀ n ∈ d.weights P e, n ∈ DataW.weightsAll P e l
 | a :: r, d, h, n, hn => by
  simp only [DataW.weightsAll, List.mem_append]
  rcases List.mem_cons.1 h with rfl | h
  ·exact Or.inl hn
  ·exact Or.inr (weights_all_mem h n hn)
theorem lt_of_trod {t : TypeId} {v : Value} {d : DataW H} {ps : List MemPlace} (h : DataW.Trod enc P W 0 (fun _ => true) true t v d ps) : ∀ x ∈ ps, x.block < W.heap.size := by
 obtain ⟨m, hm⟩ := h; exact DataW.trod_lt m _ _ _ hm
theorem add_plain (b o i : Nat) : (⟨b, o, none⟩ : Addr).add i = ⟨b, o + i, none⟩ := by
 unfold Addr.add; split
 ·rename_i h; rw [h]; rfl
 ·rfl
theorem spot_of_cell {w : World} {x : Addr} {v : Value} (h : w.cell? (x.add 0) = some v) : x.spot = none := by
 rcases x with ⟨xb, xo, xs⟩
 cases xs with
 | none => rfl
 | some q =>
  exfalso
  rw [show (⟨xb, xo, some q⟩ : Addr).add 0 = ⟨xb, xo, some q⟩ from rfl] at h
  unfold World.cell? at h
  split at h <;> simp at h
end
end Go.Proofs.Ytchbbaehdcmcfaa
/- A slice of whatever elements that came in, opened element by element. Nothing here speaks of one program. -/
namespace Go.Proofs.Ytchbbaehdcmcfaa
open Go.RowKit Go.ChangeShapes Go.WideShapes Go.ChangeAt Go.Deep
def Elems {α : Type} (S : Nat) (cells : α → List Value) (w : World) (v : Value) (xs : List α) : Prop :=
 ∃ (a : Option Addr) (cap : Nat), v = .slice a xs.length cap ∧ xs.length ≤ cap ∧ cap ≤ maxLen ∧
  (xs = [] ∨ ∃ b off, a = some ⟨b, off, none⟩ ∧ b < w.heap.size ∧ ∀ (i : Nat) (x : α), xs[i]? = some x → ∀ (j : Nat) (u : Value), (cells x)[j]? = some u → w.cell? ⟨b, off + (i * S + j), none⟩ = some u)
theorem Elems.ext {α : Type} {S : Nat} {cells : α → List Value} {w w' : World} {v : Value} {xs : List α} (h : Elems S cells w v xs) (hb : Below w.heap.size w w') : Elems S cells w' v xs := by
 obtain ⟨a, cap, h1, h2, h3, h6⟩ := h
 refine ⟨a, cap, h1, h2, h3, ?_⟩
 rcases h6 with h6 | ⟨b, off, e1, e2, e3⟩
 ·exact Or.inl h6
 ·exact Or.inr ⟨b, off, e1, Nat.lt_of_lt_of_le e2 hb.size, fun i x hx j u hu => cell_later hb (e3 i x hx j u hu)⟩
theorem list_choose {α : Type} {Q : Nat → α → Prop} : ∀ n : Nat, (∀ i, i < n → ∃ x, Q i x) → ∃ xs : List α, xs.length = n ∧ ∀ i x, xs[i]? = some x → Q i x
 | 0, _ => ⟨[], rfl, by simp⟩
 | n + 1, h => by
  obtain ⟨xs, hl, hx⟩ := list_choose n (fun i hi => h i (by omega))
  obtain ⟨y, hy⟩ := h n (by omega)
  refine ⟨xs ++ [y], by simp [hl], fun i x hi => ?_⟩
  by_cases hlt : i < xs.length
  ·rw [List.getElem?_append_left hlt] at hi; exact hx i x hi
  ·rw [List.getElem?_append_right (by omega)] at hi
   have hm := (List.getElem?_eq_some_iff.1 hi).1
   simp at hm
   have e : i = n := by omega
   subst e
   rw [hl, Nat.sub_self] at hi
   simp at hi; subst hi; exact hy
section
variable {H : Type} {enc : TypeId × Value → H} {P : Program} {W : World}
end
end Go.Proofs.Ytchbbaehdcmcfaa
/- Terms in memory. Nothing here speaks of one program. -/
namespace Go.Proofs.Ytchbbaehdcmcfaa
open Go.RowKit
abbrev BIG : Nat := 140737488351232
def I64 (n : Int) : Prop := -9223372036854775808 ≤ n ∧ n ≤ 9223372036854775807
mutual
def TmV (w : World) : Tm → Value → Prop
  | .mk k n s ts, v => ∃ (a : Option Addr) (c : Nat), v = .agg #[.int .i64 k, .int .i64 n, .string s, .slice a ts.length c] ∧ ts.length ≤ c ∧ c ≤ maxLen ∧ ts.length * 56 ≤ BIG ∧ s.size ≤ BIG ∧ I64 k ∧ I64 n ∧
      (ts = [] ∨ ∃ b off, a = some ⟨b, off, none⟩ ∧ b < w.heap.size ∧ TmRow w ts b off)
def TmRow (w : World) : List Tm → Nat → Nat → Prop
 | [], _, _ => True
 | x :: r, b, off => (∃ c0 c1 c2 c3, w.cell? ⟨b, off, none⟩ = some c0 ∧ w.cell? ⟨b, off + 1, none⟩ = some c1 ∧ w.cell? ⟨b, off + 2, none⟩ = some c2 ∧ w.cell? ⟨b, off + 3, none⟩ = some c3 ∧ TmV w x (.agg #[c0, c1, c2, c3])) ∧ TmRow w r b (off + 4)
end
def Tms (w : World) (v : Value) (l : List Tm) : Prop :=
 ∃ (a : Option Addr) (c : Nat), v = .slice a l.length c ∧ l.length ≤ c ∧ c ≤ maxLen ∧ l.length * 56 ≤ BIG ∧ (l = [] ∨ ∃ b off, a = some ⟨b, off, none⟩ ∧ b < w.heap.size ∧ TmRow w l b off)
theorem tmV_iff {w : World} {k n : Int} {s : ByteArray} {ts : List Tm} {v : Value} : TmV w (.mk k n s ts) v ↔ ∃ u, v = .agg #[.int .i64 k, .int .i64 n, .string s, u] ∧ s.size ≤ BIG ∧ I64 k ∧ I64 n ∧ Tms w u ts := by
 rw [TmV]
 constructor
 ·rintro ⟨a, c, h1, h2, h3, h4, h5, h6, h7, h8⟩
  exact ⟨_, h1, h5, h6, h7, a, c, rfl, h2, h3, h4, h8⟩
 ·rintro ⟨u, h1, h5, h6, h7, a, c, rfl, h2, h3, h4, h8⟩
  exact ⟨a, c, h1, h2, h3, h4, h5, h6, h7, h8⟩
theorem TmRow.get {w : World} : ∀ {l : List Tm} {b off : Nat}, TmRow w l b off → ∀ (i : Nat) (x : Tm), l[i]? = some x →
  ∃ c0 c1 c2 c3, w.cell? ⟨b, off + i * 4, none⟩ = some c0 ∧ w.cell? ⟨b, off + i * 4 + 1, none⟩ = some c1 ∧ w.cell? ⟨b, off + i * 4 + 2, none⟩ = some c2 ∧ w.cell? ⟨b, off + i * 4 + 3, none⟩ = some c3 ∧ TmV w x (.agg #[c0, c1, c2, c3])
 | [], b, off, _, i, x, hx => by simp at hx
 | y :: r, b, off, h, 0, x, hx => by
  simp at hx
  subst hx
  rw [TmRow] at h
  rw [Nat.zero_mul, Nat.add_zero]
  exact h.1
 | y :: r, b, off, h, i + 1, x, hx => by
  rw [TmRow] at h
  have := TmRow.get h.2 i x (by simpa using hx)
  rw [show off + (i + 1) * 4 = off + 4 + i * 4 by omega]
  exact this
theorem TmRow.mk {w : World} : ∀ {l : List Tm} {b off : Nat}, (∀ (i : Nat) (x : Tm), l[i]? = some x →
  ∃ c0 c1 c2 c3, w.cell? ⟨b, off + i * 4, none⟩ = some c0 ∧ w.cell? ⟨b, off + i * 4 + 1, none⟩ = some c1 ∧ w.cell? ⟨b, off + i * 4 + 2, none⟩ = some c2 ∧ w.cell? ⟨b, off + i * 4 + 3, none⟩ = some c3 ∧ TmV w x (.agg #[c0, c1, c2, c3])) → TmRow w l b off
 | [], b, off, _ => by rw [TmRow]; trivial
 | y :: r, b, off, h => by
  rw [TmRow]
  refine ⟨?_, TmRow.mk fun i x hx => ?_⟩
  ·have := h 0 y rfl
   rw [Nat.zero_mul, Nat.add_zero] at this
   exact this
  ·have := h (i + 1) x (by simpa using hx)
   rw [show off + (i + 1) * 4 = off + 4 + i * 4 by omega] at this
   exact this
mutual
theorem TmV.ext {w w' : World} (hb : Below w.heap.size w w') : ∀ (x : Tm) (v : Value), TmV w x v → TmV w' x v
 | .mk k n s ts, v, h => by
  rw [TmV] at h ⊢
  obtain ⟨a, c, h1, h2, h3, h4, h5, h6, h7, h8⟩ := h
  refine ⟨a, c, h1, h2, h3, h4, h5, h6, h7, ?_⟩
  rcases h8 with h8 | ⟨b, off, e1, e2, e3⟩
  ·exact Or.inl h8
  ·exact Or.inr ⟨b, off, e1, Nat.lt_of_lt_of_le e2 hb.size, TmRow.ext hb ts b off e3⟩
theorem TmRow.ext {w w' : World} (hb : Below w.heap.size w w') : ∀ (l : List Tm) (b off : Nat), TmRow w l b off → TmRow w' l b off
 | [], b, off, _ => by rw [TmRow]; trivial
 | x :: r, b, off, h => by
  rw [TmRow] at h ⊢
  obtain ⟨⟨c0, c1, c2, c3, h0, h1, h2, h3, h4⟩, h5⟩ := h
  exact ⟨⟨c0, c1, c2, c3, cell_later hb h0, cell_later hb h1, cell_later hb h2, cell_later hb h3, TmV.ext hb x _ h4⟩, TmRow.ext hb r b (off + 4) h5⟩
end
theorem Tms.ext {w w' : World} {v : Value} {l : List Tm} (h : Tms w v l) (hb : Below w.heap.size w w') : Tms w' v l := by
 obtain ⟨a, c, h1, h2, h3, h4, h5⟩ := h
 refine ⟨a, c, h1, h2, h3, h4, ?_⟩
 rcases h5 with h5 | ⟨b, off, e1, e2, e3⟩
 ·exact Or.inl h5
 ·exact Or.inr ⟨b, off, e1, Nat.lt_of_lt_of_le e2 hb.size, TmRow.ext hb l b off e3⟩
theorem Tms.nil (w : World) : Tms w (.slice none 0 0) [] := ⟨none, 0, rfl, Nat.le_refl _, Nat.zero_le _, by simp, Or.inl rfl⟩
theorem Tms.get {w : World} {a : Option Addr} {m c : Nat} {l : List Tm} (h : Tms w (.slice a m c) l) {i : Nat} {x : Tm} (hx : l[i]? = some x) :
  ∃ b off k n s u, a = some ⟨b, off, none⟩ ∧ b < w.heap.size ∧ x.k = k ∧ x.n = n ∧ x.s = s ∧ w.cell? ⟨b, off + i * 4, none⟩ = some (.int .i64 k) ∧ w.cell? ⟨b, off + i * 4 + 1, none⟩ = some (.int .i64 n) ∧ w.cell? ⟨b, off + i * 4 + 2, none⟩ = some (.string s) ∧ w.cell? ⟨b, off + i * 4 + 3, none⟩ = some u ∧ Tms w u x.args ∧
   TmV w x (.agg #[.int .i64 k, .int .i64 n, .string s, u]) := by
 obtain ⟨a', c', e, h1, h2, h3, h4⟩ := h
 cases e
 rcases h4 with rfl | ⟨b, off, rfl, hb, hr⟩
 ·simp at hx
 ·obtain ⟨c0, c1, c2, c3, d0, d1, d2, d3, d4⟩ := hr.get i x hx
  cases x with
  | mk k n s ts =>
   obtain ⟨u, hu, g1, g2, g3, g4⟩ := tmV_iff.1 d4
   simp only [Value.agg.injEq] at hu
   have hu' := congrArg Array.toList hu
   simp only [List.cons.injEq, and_true] at hu'
   obtain ⟨rfl, rfl, rfl, rfl⟩ := hu'
   exact ⟨b, off, k, n, s, _, rfl, hb, rfl, rfl, rfl, d0, d1, d2, d3, g4, d4⟩
theorem Tms.len {w : World} {v : Value} {l : List Tm} (h : Tms w v l) : ∃ a c, v = .slice a l.length c ∧ l.length ≤ c ∧ c ≤ maxLen ∧ l.length * 56 ≤ BIG := by
 obtain ⟨a, c, h1, h2, h3, h4, _⟩ := h
 exact ⟨a, c, h1, h2, h3, h4⟩
end Go.Proofs.Ytchbbaehdcmcfaa
/- Terms that came in: one, a slice of them. -/
namespace Go.Proofs.Ytchbbaehdcmcfaa
open Go.RowKit Go.ChangeShapes Go.WideShapes Go.ChangeAt Go.Deep
set_option maxRecDepth 100000
theorem wf_range {a : Int} (h : (Lit.int .i64 a).wf = true) : I64 a := by
 unfold I64
 simpa [Lit.wf, IntKind.min, IntKind.max, IntKind.signed, IntKind.bits] using h
section
variable {H : Type} {enc : TypeId × Value → H} {W : World}
theorem tms_parse {n : Nat} {c : Value} {D : DataW H} {pl : List MemPlace} (hd : DataW.trod enc Try.prog W 0 (fun _ => true) true n 29 [c] = some (D, pl)) (hw : ∀ m ∈ D.weights Try.prog 29, m ≤ 140737488351232)
  (ih : ∀ (d : DataW H), SizeOf.sizeOf d < SizeOf.sizeOf D → ∀ (n : Nat) (cs : List Value) (pl : List MemPlace), DataW.trod enc Try.prog W 0 (fun _ => true) true n 31 cs = some (d, pl) → (∀ m ∈ d.weights Try.prog 31, m ≤ 140737488351232) → ∃ x : Tm, TmV W x (.agg cs.toArray) ∧ cs.length = 4) :
  ∃ l : List Tm, Tms W c l := by
 have hc : Try.prog.cellsOf 31 = 4 := by kernel_rfl
 have hb : Try.prog.bytesOf 31 = 56 := by kernel_rfl
 rcases open_slice Try.underlying29 hd with ⟨hcs, _⟩ | ⟨a, n, cc, m, n', D', Pl, hcs, _, hl, hm, hz, hd', hi⟩
 ·obtain rfl := (List.cons.inj hcs).1
  exact ⟨[], Tms.nil W⟩
 ·obtain rfl := (List.cons.inj hcs).1
  simp at hz
  subst hz
  simp only [Prod.mk.injEq] at hd'
  obtain ⟨rfl, rfl⟩ := hd'
  have hbig := hw ((((List.range n).map D').length + ((List.range (m - n)).map fun j => D' (n + j)).length) * Try.prog.bytesOf 31) (by simp [DataW.weights, Try.underlying29])
  rw [hb] at hbig
  simp at hbig
  obtain ⟨xs, hxl, hxs⟩ := list_choose (Q := fun i (y : Tm) => ∃ cs', W.cells? 0 (a.add (i * 4)) 4 = some cs' ∧ TmV W y (.agg cs'.toArray) ∧ cs'.length = 4) n (fun i hin => by
   obtain ⟨cs', h1, h2⟩ := hi i (by omega)
   rw [hc] at h1
   have hmem : D' i ∈ (List.range n).map D' := List.mem_map_of_mem (f := D') (List.mem_range.2 hin)
   obtain ⟨y, hy1, hy2⟩ := ih (D' i) (by
    have := List.sizeOf_lt_of_mem hmem
    simp only [DataW.slice.sizeOf_spec]
    omega) n' cs' (Pl i) h2 (fun k hk => hw k (by
    simp only [DataW.weights, Try.underlying29, List.mem_cons, List.mem_append]
    exact Or.inr (Or.inl (weights_all_mem hmem k hk))))
   exact ⟨y, cs', h1, hy1, hy2⟩)
  refine ⟨xs, some a, m, by rw [hxl], by omega, hm, by unfold BIG; omega, ?_⟩
  by_cases h0 : n = 0
  ·left; exact List.length_eq_zero_iff.1 (by omega)
  right
  obtain ⟨y0, hy0⟩ : ∃ y0, xs[0]? = some y0 := ⟨_, List.getElem?_eq_getElem (by omega)⟩
  obtain ⟨cs0, hq, _, _⟩ := hxs 0 y0 hy0
  obtain ⟨_, hl0, hat0⟩ := World.cells?_some hq
  have hx0 := hat0 0 (by omega)
  have hs0 : a.spot = none := by
   rw [List.getElem?_eq_getElem (by omega)] at hx0
   have e1 := spot_of_cell hx0
   rw [Nat.zero_mul] at e1
   have : a.add 0 = a := by
    rcases a with ⟨xb, xo, xs'⟩; unfold Addr.add; split <;> simp_all
   rw [this] at e1; exact e1
  rcases a with ⟨xb, xo, xs'⟩
  cases (show xs' = none from hs0)
  refine ⟨xb, xo, rfl, ?_, TmRow.mk fun i y hy => ?_⟩
  ·rw [List.getElem?_eq_getElem (by omega), add_plain, add_plain] at hx0; exact World.block_lt_of_cell? _ _ hx0
  ·obtain ⟨cs', hq', hv, hl4⟩ := hxs i y hy
   obtain ⟨_, hl', hat⟩ := World.cells?_some hq'
   obtain ⟨c0, c1, c2, c3, rfl⟩ : ∃ c0 c1 c2 c3, cs' = [c0, c1, c2, c3] := by
    match cs', hl4 with
    | [a, b, c, d], _ => exact ⟨a, b, c, d, rfl⟩
   have t0 := hat 0 (by omega)
   have t1 := hat 1 (by omega)
   have t2 := hat 2 (by omega)
   have t3 := hat 3 (by omega)
   rw [add_plain, add_plain] at t0 t1 t2 t3
   exact ⟨c0, c1, c2, c3, t0, t1, t2, t3, hv⟩
theorem term_parse : ∀ (N : Nat) (D : DataW H), SizeOf.sizeOf D ≤ N → ∀ (n : Nat) (cs : List Value) (pl : List MemPlace), DataW.trod enc Try.prog W 0 (fun _ => true) true n 31 cs = some (D, pl) →
  (∀ m ∈ D.weights Try.prog 31, m ≤ 140737488351232) → ∃ x : Tm, TmV W x (.agg cs.toArray) ∧ cs.length = 4
 | 0, D, hN, n, cs, pl, hd, hw => by
  cases D <;> simp at hN
 | N + 1, D, hN, n, cs, pl, hd, hw => by
  obtain ⟨xs, n', rfl, hx, hl, hxl, hf⟩ := DataW.trod_struct Try.underlying31 hd
  have e1 : Try.prog.cellsOf 31 = 4 := by kernel_rfl
  have e2 : Try.prog.cellsOf 3 = 1 := by kernel_rfl
  have e3 : Try.prog.cellsOf 2 = 1 := by kernel_rfl
  have e4 : Try.prog.cellsOf 9 = 1 := by kernel_rfl
  have e5 : Try.prog.cellsOf 29 = 1 := by kernel_rfl
  rw [e1] at hl
  obtain ⟨c0, c1, c2, c3, rfl⟩ : ∃ c0 c1 c2 c3, cs = [c0, c1, c2, c3] := by
   match cs, hl with
   | [a, b, c, d], _ => exact ⟨a, b, c, d, rfl⟩
  obtain ⟨y0, y1, y2, y3, rfl⟩ : ∃ y0 y1 y2 y3, xs = [y0, y1, y2, y3] := by
   match xs, hxl with
   | [a, b, c, d], _ => exact ⟨a, b, c, d, rfl⟩
  have f0 : DataW.trod enc Try.prog W 0 (fun _ => true) true n' 3 (([c0, c1, c2, c3].drop 0).take (Try.prog.cellsOf 3)) = [y0, y1, y2, y3][0]? := hf 0 _ rfl
  have f1 : DataW.trod enc Try.prog W 0 (fun _ => true) true n' 2 (([c0, c1, c2, c3].drop 1).take (Try.prog.cellsOf 2)) = [y0, y1, y2, y3][1]? := hf 1 _ rfl
  have f2 : DataW.trod enc Try.prog W 0 (fun _ => true) true n' 9 (([c0, c1, c2, c3].drop 2).take (Try.prog.cellsOf 9)) = [y0, y1, y2, y3][2]? := hf 2 _ rfl
  have f3 : DataW.trod enc Try.prog W 0 (fun _ => true) true n' 29 (([c0, c1, c2, c3].drop 3).take (Try.prog.cellsOf 29)) = [y0, y1, y2, y3][3]? := hf 3 _ rfl
  rw [e2] at f0
  rw [e3] at f1
  rw [e4] at f2
  rw [e5] at f3
  simp only [List.drop_zero, List.drop_succ_cons, List.take_succ_cons, List.take_zero, List.getElem?_cons_zero, List.getElem?_cons_succ] at f0 f1 f2 f3
  obtain ⟨k, q0, r0, s0⟩ := DataW.trod_int Try.underlying3 f0
  obtain ⟨m, q1, r1, s1⟩ := DataW.trod_int Try.underlying2 f1
  obtain ⟨s, q2, r2, s2⟩ := DataW.trod_string Try.underlying9 f2
  obtain rfl := (List.cons.inj q0).1
  obtain rfl := (List.cons.inj q1).1
  obtain rfl := (List.cons.inj q2).1
  simp only [Prod.mk.injEq] at hx
  obtain ⟨hx1, _⟩ := hx
  have h0 := hw s.data.toList.length (by
   rw [hx1, r2]
   simp [DataW.weights, Try.underlying31, DataW.weightsEach])
  obtain ⟨l, hl⟩ := tms_parse (D := y3.1) (pl := y3.2) f3 (fun j hj => hw j (by
   rw [hx1]
   simp [DataW.weights, Try.underlying31, DataW.weightsEach, hj])) (fun d hds => term_parse N d (by
   have : SizeOf.sizeOf y3.1 < SizeOf.sizeOf D := by
    rw [hx1]
    simp only [List.map_cons, List.map_nil, DataW.agg.sizeOf_spec, List.cons.sizeOf_spec]
    omega
   omega))
  exact ⟨.mk k m s l, tmV_iff.2 ⟨c3, rfl, h0, wf_range s0, wf_range s1, hl⟩, rfl⟩
end
def IsTm (w : World) (v : Value) (x : Tm) : Prop := TmV w x v
theorem term_of_trod {H : Type} {enc : TypeId × Value → H} {W : World} {v : Value} {d : DataW H} {ps : List MemPlace} (h : DataW.Trod enc Try.prog W 0 (fun _ => true) true 31 v d ps)
  (hv : Value.okWide Try.prog W .any 0 31 v) (hw : ∀ n ∈ d.weights Try.prog 31, n ≤ 140737488351232) : ∃ x, IsTm W v x := by
 obtain ⟨cs, rfl, _⟩ := okWide_struct Try.underlying31 hv
 obtain ⟨fuel, hf⟩ := h
 obtain ⟨x, hx, _⟩ := term_parse _ d (Nat.le_refl _) _ _ _ hf hw
 refine ⟨x, ?_⟩
 have : (Value.agg cs).cells.toList.toArray = cs := by simp [Value.cells]
 rw [this] at hx
 exact hx
theorem terms_of_trod {H : Type} {enc : TypeId × Value → H} {W : World} {v : Value} {d : DataW H} {ps : List MemPlace} (h : DataW.Trod enc Try.prog W 0 (fun _ => true) true 29 v d ps)
  (hv : Value.okWide Try.prog W .any 0 29 v) (hw : ∀ n ∈ d.weights Try.prog 29, n ≤ 140737488351232) : ∃ l, Tms W v l := by
 obtain ⟨a, n, c, rfl⟩ := okWide_slice Try.underlying29 hv
 obtain ⟨fuel, hf⟩ := h
 exact tms_parse (c := .slice a n c) hf hw (fun d' _ => term_parse _ d' (Nat.le_refl _))
end Go.Proofs.Ytchbbaehdcmcfaa
/- Small facts of ours on worlds: what is laid anew, what is drawn, a row that stays. Nothing here speaks of one program. -/
namespace Go.Proofs.Ytchbbaehdcmcfaa
open Go.RowKit
theorem bel1' (w : World) (o : Obj) : Below w.heap.size w (w.alloc o) := (Below.refl _ _).alloc (Nat.le_refl _) o
theorem bel_drewN {B : Nat} {a w : World} (h : Below B a w) (n : Nat) : Below B a (w.drewN n) := ⟨h.os, h.tape, h.output, h.size, h.block⟩
theorem row_ext {w w' : World} {B k n : Nat} {e : TypeId} {v : Value} {xs : List Value} (h : w.ownsRow B e k v n xs) (hb : Below w.heap.size w w') : w'.ownsRow B e k v n xs := by
 obtain ⟨h0, h1⟩ := h
 refine ⟨h0, ?_⟩
 rcases h1 with h1 | ⟨g, cap, cur, rfl, hg, hh, h2⟩
 ·exact Or.inl h1
 ·exact Or.inr ⟨g, cap, cur, rfl, hg, by rw [hb.block g (Array.getElem?_eq_some_iff.1 hh).1]; exact hh, h2⟩
end Go.Proofs.Ytchbbaehdcmcfaa
/- Terms: small facts; a term as a parameter. -/
namespace Go.Proofs.Ytchbbaehdcmcfaa
open Go.RowKit
set_option linter.unusedVariables false
abbrev box4 (k n : Int) (s : ByteArray) (u : Value) (ty : TypeId) : Obj := .cells #[.int .i64 k, .int .i64 n, .string s, u] ty
theorem mem_size {k n : Int} {s : ByteArray} {ts : List Tm} {y : Tm} {N : Nat} (h : sizeN (.mk k n s ts) ≤ N + 1) (hy : y ∈ ts) : sizeN y ≤ N := by
 have := sizes_mem hy
 rw [sizeN] at h
 omega
theorem box_cells (w : World) (ty : TypeId) (c0 c1 c2 c3 : Value) {wr : World} (hb : Below (w.alloc (.cells #[c0, c1, c2, c3] ty)).heap.size (w.alloc (.cells #[c0, c1, c2, c3] ty)) wr) :
  wr.cell? ⟨w.heap.size, 0, none⟩ = some c0 ∧ wr.cell? ⟨w.heap.size, 1, none⟩ = some c1 ∧ wr.cell? ⟨w.heap.size, 2, none⟩ = some c2 ∧ wr.cell? ⟨w.heap.size, 3, none⟩ = some c3 :=
 ⟨cell_later hb (by simp), cell_later hb (by simp), cell_later hb (by simp), cell_later hb (by simp)⟩
end Go.Proofs.Ytchbbaehdcmcfaa
/- append of whatever slice to a row of the call's own, of elements of however many cells: also of nothing. Nothing here speaks of one program. -/
namespace Go.Proofs.Ytchbbaehdcmcfaa
open Go.RowKit
theorem row_formk {w : World} {b e sz n : Nat} {v : Value} {xs : List Value} (h : w.ownsRow b e sz v n xs) : ∃ a c, v = .slice a n c ∧ n ≤ c := by
 rcases h.2 with ⟨rfl, h0⟩ | ⟨g, cap, cur, rfl, _, _, h1, _⟩
 ·exact ⟨none, 0, by rw [h0], by omega⟩
 ·exact ⟨_, cap, rfl, h1⟩
section
variable {P : Program}
theorem run_append_k (w : World) (base : Nat) (t ty e : TypeId) (i : TypeInfo) (z : Value) (size bytes : Nat) (ht : P.underlying t = some (.slice e)) (hi : P.info? e = some i) (hz : i.zero = some z) (hsize : i.size = size) (hpos : 0 < size) (hby : i.bytes = bytes) (hzs : z.cells.size = size)
  (v : Value) (n : Nat) (xs : List Value) (hown : w.ownsRow base e size v n xs) (ao : Option Addr) (m c : Nat) (news : List Value) (hl : news.length = m * size)
  (hsrc : m = 0 ∨ ∃ ad, ao = some ad ∧ ∀ j u, news[j]? = some u → w.cell? (ad.add j) = some u) (h1 : ∀ u ∈ news, u.oneCell' = true)
  (h63 : n + m ≤ maxLen) (hbytes : (n + m) * bytes ≤ 140737488355328) (hbase : base ≤ w.heap.size) :
  ∃ v' w', (Builtin.append_ #[t, t] ty #[v, .slice ao m c]).run P w = .ok v' w' ∧ w'.ownsRow base e size v' (n + m) (xs ++ news) ∧ w.grownBy w' v.ownBlock ∧ (v'.ownBlock = v.ownBlock ∨ v'.ownBlock = some w.heap.size) := by
 by_cases hm : m = 0
 ·subst hm
  obtain rfl : news = [] := List.length_eq_zero_iff.1 (by simpa using hl)
  obtain ⟨a, cc, rfl, hle⟩ := row_formk hown
  have hs : Src P i.size t (.slice ao 0 c) 0 [] w := by
   refine ⟨Or.inl ⟨e, ht⟩, fun w' => rfl, ?_, ?_, by simp, by simp⟩
   ·cases ao with
    | none => rfl
    | some ad => exact run_firstCells_some w i.size 0 ad 0 c [] (by simp) (by simp)
   ·cases ao with
    | none => rfl
    | some ad => exact run_firstCells_some w.drew i.size 0 ad 0 c [] (by simp) (by simp)
  exact ⟨_, w, run_append_nothing w t t ty e i ht hi a n cc hle _ hs, by simpa using hown, ⟨rfl, rfl, rfl, Nat.le_refl _, fun _ _ _ => rfl⟩, Or.inl rfl⟩
 ·rcases hsrc with h0 | ⟨ad, rfl, hc⟩
  ·exact absurd h0 hm
  obtain ⟨v', w', r1, r2, r3, _, r5⟩ := run_append_own_at (P := P) w base t ty e i z size bytes ht hi hz hsize hby hzs hpos v n xs hown ad m c news (by omega) hc h1 h63 hbytes hbase
  exact ⟨v', w', r1, r2, r3, r5⟩
theorem wp_append_k {w : World} {o : Oper} {a : Act} {K : Act → World → Prop} {Q : Exit → Act → World → Prop} (s x : Operand) (t : TypeId)
  (ho : o.op = .call { callee := .builtin .append, args := #[s, x], argTypes := #[t, t] })
  (base : Nat) (e : TypeId) (i : TypeInfo) (z : Value) (size bytes : Nat) (ht : P.underlying t = some (.slice e)) (hi : P.info? e = some i) (hz : i.zero = some z) (hsize : i.size = size) (hpos : 0 < size) (hby : i.bytes = bytes) (hzs : z.cells.size = size)
  (v : Value) (n : Nat) (xs : List Value) (hs : a.eval s = v) (hown : w.ownsRow base e size v n xs) (ao : Option Addr) (m c : Nat) (news : List Value) (hx : a.eval x = .slice ao m c) (hl : news.length = m * size)
  (hsrc : m = 0 ∨ ∃ ad, ao = some ad ∧ ∀ j u, news[j]? = some u → w.cell? (ad.add j) = some u) (h1 : ∀ u ∈ news, u.oneCell' = true)
  (h63 : n + m ≤ maxLen) (hbytes : (n + m) * bytes ≤ 140737488355328) (hbase : base ≤ w.heap.size) (N : Nat) (L : List Value) (hN : N = n + m) (hL : L = xs ++ news)
  (h : ∀ (a' : Option Addr) (c' : Nat) (w' : World), w'.ownsRow base e size (.slice a' N c') N L → w.grownBy w' v.ownBlock → ((Value.slice a' N c').ownBlock = v.ownBlock ∨ (Value.slice a' N c').ownBlock = some w.heap.size) → K (a.put o.dst (.slice a' N c')) w') : o.wp P a w K Q := by
 subst hN hL
 obtain ⟨v', w', hr, h2, h3, h4⟩ := run_append_k (P := P) w base t o.type e i z size bytes ht hi hz hsize hpos hby hzs v n xs hown ao m c news hl hsrc h1 h63 hbytes hbase
 obtain ⟨a', c', rfl, _⟩ := row_formk h2
 unfold Oper.wp execOp
 simp only [ho, resolve, invoke, builtin, Sem.run_bind, Sem.run_pure, Result.andThen_ok, List.map_toArray, List.map_cons, List.map_nil, hs, hx, hr]
 exact h a' c' w' h2 h3 h4
theorem step_append_k {w : World} {ops : Array Oper} {o : Oper} {a : Act} {K : Act → World → Prop} {Q : Exit → Act → World → Prop} {E : Prop} (hgd : o.guard = none) (s x : Operand) (t : TypeId)
  (ho : o.op = .call { callee := .builtin .append, args := #[s, x], argTypes := #[t, t] })
  (base : Nat) (e : TypeId) (i : TypeInfo) (z : Value) (size bytes : Nat) (ht : P.underlying t = some (.slice e)) (hi : P.info? e = some i) (hz : i.zero = some z) (hsize : i.size = size) (hpos : 0 < size) (hby : i.bytes = bytes) (hzs : z.cells.size = size)
  (v : Value) (n : Nat) (xs : List Value) (hs : a.eval s = v) (hown : w.ownsRow base e size v n xs) (ao : Option Addr) (m c : Nat) (news : List Value) (hx : a.eval x = .slice ao m c) (hl : news.length = m * size)
  (hsrc : m = 0 ∨ ∃ ad, ao = some ad ∧ ∀ j u, news[j]? = some u → w.cell? (ad.add j) = some u) (h1 : ∀ u ∈ news, u.oneCell' = true)
  (h63 : n + m ≤ maxLen) (hbytes : (n + m) * bytes ≤ 140737488355328) (hbase : base ≤ w.heap.size) (N : Nat) (L : List Value) (hN : N = n + m) (hL : L = xs ++ news)
  (h : ∀ (a' : Option Addr) (c' : Nat) (w' : World), w'.ownsRow base e size (.slice a' N c') N L → w.grownBy w' v.ownBlock → ((Value.slice a' N c').ownBlock = v.ownBlock ∨ (Value.slice a' N c').ownBlock = some w.heap.size) → K (a.put o.dst (.slice a' N c')) w') :
  if Region.wanted o (yielded ops a.tmps) = true then Oper.wp P o a w K Q else E := by
 have hw : Region.wanted o (yielded ops a.tmps) = true := by simp [Region.wanted, hgd]
 rw [if_pos hw]
 exact wp_append_k s x t ho base e i z size bytes ht hi hz hsize hpos hby hzs v n xs hs hown ao m c news hx hl hsrc h1 h63 hbytes hbase N L hN hL h
theorem wpList_append_k {w : World} {ops : Array Oper} {rest : List Oper} {o : Oper} {a : Act} {Q : Exit → Act → World → Prop} (hgd : o.guard = none) (s x : Operand) (t : TypeId)
  (ho : o.op = .call { callee := .builtin .append, args := #[s, x], argTypes := #[t, t] })
  (base : Nat) (e : TypeId) (i : TypeInfo) (z : Value) (size bytes : Nat) (ht : P.underlying t = some (.slice e)) (hi : P.info? e = some i) (hz : i.zero = some z) (hsize : i.size = size) (hpos : 0 < size) (hby : i.bytes = bytes) (hzs : z.cells.size = size)
  (v : Value) (n : Nat) (xs : List Value) (hs : a.eval s = v) (hown : w.ownsRow base e size v n xs) (ao : Option Addr) (m c : Nat) (news : List Value) (hx : a.eval x = .slice ao m c) (hl : news.length = m * size)
  (hsrc : m = 0 ∨ ∃ ad, ao = some ad ∧ ∀ j u, news[j]? = some u → w.cell? (ad.add j) = some u) (h1 : ∀ u ∈ news, u.oneCell' = true)
  (h63 : n + m ≤ maxLen) (hbytes : (n + m) * bytes ≤ 140737488355328) (hbase : base ≤ w.heap.size) (N : Nat) (L : List Value) (hN : N = n + m) (hL : L = xs ++ news)
  (h : ∀ (a' : Option Addr) (c' : Nat) (w' : World), w'.ownsRow base e size (.slice a' N c') N L → w.grownBy w' v.ownBlock → ((Value.slice a' N c').ownBlock = v.ownBlock ∨ (Value.slice a' N c').ownBlock = some w.heap.size) → wpList P ops Q rest (a.put o.dst (.slice a' N c')) w') :
  wpList P ops Q (o :: rest) a w := by
 refine wpList_plain hgd fun K hK => ?_
 exact wp_append_k s x t ho base e i z size bytes ht hi hz hsize hpos hby hzs v n xs hs hown ao m c news hx hl hsrc h1 h63 hbytes hbase N L hN hL (fun a' c' w' h2 h3 h4 => hK _ _ (h a' c' w' h2 h3 h4))
end
end Go.Proofs.Ytchbbaehdcmcfaa
/- A row of the call's own, of elements of S cells each, reads as its elements; what is appended to it. Nothing here speaks of one program. -/
namespace Go.Proofs.Ytchbbaehdcmcfaa
open Go.RowKit
section
variable {α : Type} {S : Nat} {cells : α → List Value}
theorem flat_len (hc : ∀ x, (cells x).length = S) (L : List α) : (L.flatMap cells).length = L.length * S := by
 induction L with
 | nil => simp
 | cons a r ih => rw [List.flatMap_cons, List.length_append, ih, hc, List.length_cons, Nat.add_mul, Nat.one_mul, Nat.add_comm]
theorem flat_get (hc : ∀ x, (cells x).length = S) : ∀ (L : List α) (i : Nat) (x : α), L[i]? = some x → ∀ j, j < S → (L.flatMap cells)[i * S + j]? = (cells x)[j]?
 | [], i, x, h, _, _ => by simp at h
 | a :: r, 0, x, h, j, hj => by
  simp at h
  subst h
  rw [List.flatMap_cons, Nat.zero_mul, Nat.zero_add, List.getElem?_append_left (by rw [hc]; exact hj)]
 | a :: r, i + 1, x, h, j, hj => by
  have e : (i + 1) * S + j = S + (i * S + j) := by rw [Nat.add_mul, Nat.one_mul]; omega
  rw [List.flatMap_cons, List.getElem?_append_right (by rw [hc, e]; omega), hc, e, Nat.add_sub_cancel_left]
  exact flat_get hc r i x (by simpa using h) j hj
theorem Elems.owned (hc : ∀ x, (cells x).length = S) {w : World} {B : Nat} {e : TypeId} {v : Value} {L : List α} (h : w.ownsRow B e S v L.length (L.flatMap cells)) : Elems S cells w v L := by
 rcases h.2 with ⟨rfl, h0⟩ | ⟨g, cap, cur, rfl, _, hg, h1, h2, h3, h4⟩
 ·obtain rfl := List.length_eq_zero_iff.1 h0
  exact ⟨none, 0, rfl, Nat.le_refl _, Nat.zero_le _, Or.inl rfl⟩
 ·refine ⟨_, cap, rfl, h1, h2, Or.inr ⟨g, 0, rfl, (Array.getElem?_eq_some_iff.1 hg).1, fun i x hx j u hu => ?_⟩⟩
  have hj : j < S := by have := (List.getElem?_eq_some_iff.1 hu).1; rwa [hc] at this
  have hi := (List.getElem?_eq_some_iff.1 hx).1
  have h5 := flat_get hc L i x hx j hj
  have hle : i * S + S ≤ L.length * S := by
   have : (i + 1) * S ≤ L.length * S := Nat.mul_le_mul_right _ hi
   rwa [Nat.add_mul, Nat.one_mul] at this
  rw [← h4, List.getElem?_take, if_pos (by omega), hu] at h5
  rw [Nat.zero_add, World.cell?, hg]
  simpa using h5
end
theorem cell_new (w : World) (cs : Array Value) (ty : TypeId) (j : Nat) (u : Value) (h : cs.toList[j]? = some u) : (w.alloc (.cells cs ty)).cell? ((⟨w.heap.size, 0, none⟩ : Addr).add j) = some u := by
 have h1 : (w.alloc (.cells cs ty)).heap[w.heap.size]? = some (.cells cs ty) := by
  show (w.heap.push _)[w.heap.size]? = _
  simp
 rw [add_plain, Nat.zero_add, World.cell?, h1]
 simpa using h
end Go.Proofs.Ytchbbaehdcmcfaa
/- A row of terms of the call's own; a term's fields. Nothing here speaks of one program. -/
namespace Go.Proofs.Ytchbbaehdcmcfaa
open Go.RowKit
set_option linter.unusedVariables false
theorem TmV.full {w : World} {x : Tm} {v : Value} (h : TmV w x v) : ∃ k n s a m c, v = .agg #[.int .i64 k, .int .i64 n, .string s, .slice a m c] := by
 cases x with
 | mk k n s ts =>
  obtain ⟨u, rfl, _, _, _, hu⟩ := tmV_iff.1 h
  obtain ⟨a, c, rfl, _⟩ := hu.len
  exact ⟨_, _, _, _, _, _, rfl⟩
abbrev TmP := Tm × Value
def pCells (p : TmP) : List Value := [.int .i64 p.1.k, .int .i64 p.1.n, .string p.1.s, p.2]
def pVal (p : TmP) : Value := .agg #[.int .i64 p.1.k, .int .i64 p.1.n, .string p.1.s, p.2]
theorem pCells_len (p : TmP) : (pCells p).length = 4 := rfl
theorem TmV.pair {w : World} {x : Tm} {v : Value} (h : TmV w x v) : ∃ u, v = pVal (x, u) := by
 cases x with
 | mk k n s ts =>
  obtain ⟨u, rfl, _⟩ := tmV_iff.1 h
  exact ⟨u, rfl⟩
theorem pCells_one (L : List TmP) {w : World} (h : ∀ p ∈ L, TmV w p.1 (pVal p)) : ∀ u ∈ L.flatMap pCells, u.oneCell' = true := by
 intro u hu
 obtain ⟨p, hp, hx⟩ := List.mem_flatMap.1 hu
 have hv := h p hp
 obtain ⟨x, q⟩ := p
 cases x with
 | mk k n s ts =>
  obtain ⟨u', hu', _, _, _, hq⟩ := tmV_iff.1 hv
  have : u' = q := by
   simp only [pVal, Value.agg.injEq] at hu'
   have h2 := congrArg Array.toList hu'
   simp only [List.cons.injEq, and_true] at h2
   exact h2.2.2.2.symm
  subst this
  obtain ⟨a, c, rfl, _⟩ := hq.len
  simp [pCells] at hx
  rcases hx with rfl | rfl | rfl | rfl <;> rfl
def RowP (w : World) (base : Nat) (ty : TypeId) (v : Value) (ps : List TmP) : Prop := w.ownsRow base ty 4 v ps.length (ps.flatMap pCells)
theorem RowP.terms {w : World} {base : Nat} {ty : TypeId} {v : Value} {ps : List TmP} (h : RowP w base ty v ps) (hp : ∀ p ∈ ps, TmV w p.1 (pVal p)) (hl : ps.length * 56 ≤ BIG) : Tms w v (ps.map (·.1)) := by
 obtain ⟨a, c, rfl, h1, h2, h3⟩ := Elems.owned pCells_len h
 refine ⟨a, c, by rw [List.length_map], by rw [List.length_map]; exact h1, h2, by rw [List.length_map]; exact hl, ?_⟩
 rcases h3 with rfl | ⟨b, off, rfl, hb, hc⟩
 ·left; rfl
 ·refine Or.inr ⟨b, off, rfl, hb, TmRow.mk fun i x hx => ?_⟩
  rw [List.getElem?_map] at hx
  obtain ⟨p, hpi, rfl⟩ := Option.map_eq_some_iff.1 hx
  have hv := hp p (List.mem_of_getElem? hpi)
  exact ⟨_, _, _, _, hc i p hpi 0 _ rfl, by rw [Nat.add_assoc]; exact hc i p hpi 1 _ rfl, by rw [Nat.add_assoc]; exact hc i p hpi 2 _ rfl, by rw [Nat.add_assoc]; exact hc i p hpi 3 _ rfl, hv⟩
end Go.Proofs.Ytchbbaehdcmcfaa
