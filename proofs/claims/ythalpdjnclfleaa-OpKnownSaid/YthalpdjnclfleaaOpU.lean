/- The document's own: an operator added. -/
import Derived.Test.YthalpdjnclfleaaOpR
namespace Go.Proofs.Ythalpdjnclfleaa
open Go.Shelf Go.RowKit

theorem isR_isAt {x o : O} (hx : mayO x = true) (ho : sideB (bl o.k) ≠ 0) (n : List UInt8) : isR n (betB (bl o.k)) x = isAt n (sideB (bl o.k)) x := by
  have h1 : sideB (bl x.k) ≠ 0 := (may_level' hx).2
  unfold isR isAt
  rw [bet_side, bet_side]
  rcases side_two' _ h1 with h1 | h1 <;> rcases side_two' _ ho with h2 | h2 <;> rw [h1, h2] <;> simp
theorem find_place {xs : List O} (hg : goodB xs = true) {o : O} (ho : sideB (bl o.k) ≠ 0) (n : List UInt8) : findB xs n (betB (bl o.k)) = placeB xs n (sideB (bl o.k)) := by
  have hall := ((good_iff xs).1 hg).2.1
  rcases place_cases xs n (sideB (bl o.k)) with ⟨h1, h2⟩ | ⟨k, x, h1, h2, h3, h4⟩
  · rw [h1]
    exact find_miss fun j y hy => by rw [isR_isAt (hall y (List.mem_of_getElem? hy)) ho]; exact h2 j y hy
  · rw [h1]
    refine find_hit h2 (by rw [isR_isAt (hall x (List.mem_of_getElem? h2)) ho]; exact h3) fun j y hj hy => ?_
    rw [isR_isAt (hall y (List.mem_of_getElem? hy)) ho]
    exact h4 j y hj hy
theorem empty_row {w : World} {B : Nat} {g : Nat} {t : TypeId} (h : w.heap[g]? = some (.cells #[] t (0, 0))) (hB : B ≤ g) : w.ownsRow B t 3 (.slice (some ⟨g, 0, none⟩) 0 0) 0 [] :=
  ⟨by simp, Or.inr ⟨g, 0, #[], rfl, hB, h, Nat.le_refl _, Nat.zero_le _, rfl, rfl⟩⟩

theorem rowcell {w : World} {b t : Nat} {cs : Array Value} {fz : Nat × Nat} (h : w.heap[b]? = some (.cells cs t fz)) (i : Nat) : w.cell? ⟨b, i, none⟩ = cs[i]? := by simp [World.cell?, h]
theorem rowfroz {w : World} {b t : Nat} {cs : Array Value} (h : w.heap[b]? = some (.cells cs t (0, 0))) (i : Nat) : w.frozen? ⟨b, i, none⟩ = false := by simp [World.frozen?, h]
theorem rowset {w : World} {b t : Nat} {cs : Array Value} (h : w.heap[b]? = some (.cells cs t (0, 0))) (j : Nat) (u : Value) : (w.setCell ⟨b, j, none⟩ u).heap[b]? = some (.cells (cs.setIfInBounds j u) t (0, 0)) := by
  simp [World.setCell, Array.getElem?_modify, h]
theorem row_put {w : World} {g t n cap B p : Nat} {cur : Array Value} {xs : List O} (hg : w.heap[g]? = some (.cells cur t (0, 0))) (h1 : n ≤ cap) (h2 : cap ≤ maxLen) (h3 : cur.size = cap * 3) (h4 : cur.toList.take (n * 3) = xs.flatMap oCells)
    (hn : xs.length = n) (hp : p < n) (hB : B ≤ g) (x : O) :
    (((w.setCell ⟨g, p * 3, none⟩ (.string x.n)).setCell ⟨g, p * 3 + 1, none⟩ (.string x.k)).setCell ⟨g, p * 3 + 2, none⟩ (.int .i64 x.l)).ownsRow B t 3 (.slice (some ⟨g, 0, none⟩) n cap) n ((xs.set p x).flatMap oCells) := by
  refine ⟨by rw [flat3_len, List.length_set, hn], Or.inr ⟨g, cap, _, rfl, hB, rowset (rowset (rowset hg _ _) _ _) _ _, h1, h2, by simp [h3], ?_⟩⟩
  apply List.ext_getElem?
  intro i
  by_cases hi : i < n * 3
  · rw [List.getElem?_take, if_pos hi]
    obtain ⟨y, hy⟩ : ∃ y, xs[i / 3]? = some y := ⟨_, List.getElem?_eq_getElem (by omega)⟩
    have hcur : cur[i]? = (oCells y)[i % 3]? := by
      have := flat3_get xs (i / 3) y hy (i % 3) (by omega)
      rw [show i / 3 * 3 + i % 3 = i by omega, ← h4, List.getElem?_take, if_pos hi] at this
      simpa using this
    by_cases hq : i / 3 = p
    · have hset : (xs.set p x)[i / 3]? = some x := by rw [hq, List.getElem?_set_self (by omega)]
      have h5 := flat3_get _ _ x hset (i % 3) (by omega)
      rw [show i / 3 * 3 + i % 3 = i by omega] at h5
      rw [h5]
      simp only [Array.getElem?_toList]
      have hc : i = p * 3 ∨ i = p * 3 + 1 ∨ i = p * 3 + 2 := by omega
      rcases hc with rfl | rfl | rfl
      · rw [Array.getElem?_setIfInBounds_ne (by omega), Array.getElem?_setIfInBounds_ne (by omega), Array.getElem?_setIfInBounds_self_of_lt (by omega)]
        rw [show p * 3 % 3 = 0 by omega]
        rfl
      · rw [Array.getElem?_setIfInBounds_ne (by omega), Array.getElem?_setIfInBounds_self_of_lt (by simp; omega)]
        rw [show (p * 3 + 1) % 3 = 1 by omega]
        rfl
      · rw [Array.getElem?_setIfInBounds_self_of_lt (by simp; omega)]
        rw [show (p * 3 + 2) % 3 = 2 by omega]
        rfl
    · have hset : (xs.set p x)[i / 3]? = some y := by rw [List.getElem?_set_ne (by omega)]; exact hy
      have h5 := flat3_get _ _ y hset (i % 3) (by omega)
      rw [show i / 3 * 3 + i % 3 = i by omega] at h5
      rw [h5, ← hcur]
      simp only [Array.getElem?_toList]
      rw [Array.getElem?_setIfInBounds_ne (by omega), Array.getElem?_setIfInBounds_ne (by omega), Array.getElem?_setIfInBounds_ne (by omega)]
  · rw [List.getElem?_take, if_neg hi]
    symm
    rw [List.getElem?_eq_none]
    rw [flat3_len, List.length_set, hn]
    omega

/-- What AddOp answers, in the memory behind it. -/
def AddREnd (w : World) (xs : List O) (o : O) (e : Ending) (w' : World) : Prop :=
  ∃ v, e = .returned (.tuple #[v, .int .i64 (addB xs o).2]) ∧ Ops w' v (addB xs o).1 ∧ Below w.heap.size w w'

set_option maxRecDepth 100000
set_option maxHeartbeats 2000000 in
theorem addOp_walk {w : World} {v : Value} {xs : List O} (h : Ops w v xs) (o : O) :
    Calls Try.prog 16 #[v, oVal o] w (AddREnd w xs o) := by
  obtain ⟨a, c, rfl, hl1, hl2⟩ := h.form
  unfold maxLen at hl2
  rcases o with ⟨n, k, l⟩
  have H := Lib.hid h
  have HG := Lib.hid (fun (wq : World) (hq : Below w.heap.size w wq) => goodOps_walk (h.ext hq))
  obtain ⟨i0, hi0, hz0, hs0, hb0⟩ := infoR_parts
  have HXL : Hid ((xs.flatMap oCells).length = xs.length * 3) := Lib.hid (flat3_len xs)
  have HM := Lib.hid (fun (wq : World) => goodOp_walk n k (lev l) wq)
  have HSI := Lib.hid (fun (wq : World) => between_walk k wq)
  have HP := Lib.hid (fun (wq : World) (hq : Below w.heap.size w wq) => find_walk (h.ext hq) n (betB (bl k)))
  clear h
  obtain ⟨re, hA⟩ : ∃ re, addB xs ⟨n, k, l⟩ = re := ⟨_, rfl⟩
  unfold AddREnd
  rw [hA]
  unfold addB at hA
  simp only at hA
  have htb : (n.toList == [44]) = (bl n == [44]) := by rw [Lib.toList_data]
  obtain ⟨g, hg⟩ : ∃ g, goodB xs = g := ⟨_, rfl⟩
  obtain ⟨m, hm⟩ : ∃ m, mayB (bl n) (bl k) (lev l) = m := ⟨_, rfl⟩
  obtain ⟨b, hb⟩ : ∃ b, (bl n == [44]) = b := ⟨_, rfl⟩
  have HFP : Hid (g = true → m = true → findB xs (bl n) (betB (bl k)) = placeB xs (bl n) (sideB (bl k))) := Lib.hid (fun h1 h2 => by
    rw [← hg] at h1
    rw [← hm] at h2
    exact find_place (o := ⟨n, k, l⟩) h1 (may_level' h2).2 (bl n))
  obtain ⟨s, hs⟩ : ∃ s, sideB (bl k) = s := ⟨_, rfl⟩
  have HLE : Hid (g = true → xs.length ≤ 128) := Lib.hid (fun h => good_len (by rw [hg, h]))
  rw [hg] at HG hA
  rw [hm] at HM hA
  rw [hs] at HFP hA
  rw [hb] at hA htb
  obtain ⟨bt, hbt⟩ : ∃ b, betB (bl k) = b := ⟨_, rfl⟩
  rw [hbt] at HSI HP HFP
  clear hg hm hs hb hbt
  go_enter Try.func16, Try.ntmps16
  (go_wp2_with fail; go_fit (HG.out _ (bel1' _ _)); rintro e w1 ⟨rfl, hb1⟩)
  have c1 : w1.cell? ⟨w.heap.size, 0, none⟩ = some (.string n) := cell_later hb1 (by simp)
  have c2 : w1.cell? ⟨w.heap.size, 1, none⟩ = some (.string k) := cell_later hb1 (by simp)
  have c3 : w1.cell? ⟨w.heap.size, 2, none⟩ = some (.int .i64 l) := cell_later hb1 (by simp)
  have HC1 := Lib.hid (And.intro c1 (And.intro c2 c3))
  have HB1 := Lib.hid (Ext.trans' (bel1' _ _) hb1)
  clear hb1
  cases g
  · obtain rfl : re = ([], 1) := by rw [← hA]; rfl
    clear hA HM HSI HP HG HFP
    go_wp2
    go_ret2
    exact ⟨_, rfl, ops_none _, HB1.out⟩
  · have hle : xs.length ≤ 128 := HLE.out rfl
    clear HLE
    cases b
    · have hlv : lev l = if l == 0 then 1 else l := rfl
      cases hl0 : (l == 0)
      · skip
        rw [hl0] at hlv hA
        have hlv' : lev l = l := hlv
        rw [hlv'] at HM
        clear hlv hlv'
        (go_wp2_with fail; go_fit (HM.out _); rintro e w2 ⟨rfl, hb2⟩)
        have HB2 := Lib.hid (Below.trans (bel1' w1 _) (hb2.mono (by simp)))
        clear hb2 c1 c2 c3
        have c1 : w2.cell? ⟨w.heap.size, 0, none⟩ = some (.string n) := cell_later HB2.out HC1.out.1
        have c2 : w2.cell? ⟨w.heap.size, 1, none⟩ = some (.string k) := cell_later HB2.out HC1.out.2.1
        have c3 : w2.cell? ⟨w.heap.size, 2, none⟩ = some (.int .i64 l) := cell_later HB2.out HC1.out.2.2
        have HBW := Lib.hid (Ext.trans' HB1.out HB2.out)
        cases m
        · obtain rfl : re = ([], 1) := by rw [← hA]; rfl
          clear hA HM HSI HP HG HFP
          go_wp2
          go_ret2
          exact ⟨_, rfl, ops_none _, HBW.out⟩
        have hf := HFP.out (by trivial) (by trivial)
        have hPC := place_cases xs (bl n) s
        obtain ⟨z, hz⟩ : ∃ z, placeB xs (bl n) s = z := ⟨_, rfl⟩
        rw [hf, hz] at HP
        rw [hz] at hPC
        simp only [hz] at hA
        have HAA := Lib.hid hA
        have HPC := Lib.hid hPC
        clear hA hz hPC hf HFP HM HG
        go_wp2_with fail
        go_big_quiet (first | (go_at_call 28; exact Calls.quiet_of_same ((HSI.out _).mono fun _ _ ⟨a, b⟩ => ⟨a, b.symm⟩)) | (go_at_call 19; exact Calls.quiet_of_same ((HP.out _ (bel_drewN HBW.out _)).mono fun _ _ ⟨a, b⟩ => ⟨a, b.symm⟩)))
        have d1 : (w2.drewN nq).cell? ⟨w.heap.size, 0, none⟩ = some (.string n) := by simpa using c1
        have d2 : (w2.drewN nq).cell? ⟨w.heap.size, 1, none⟩ = some (.string k) := by simpa using c2
        have d3 : (w2.drewN nq).cell? ⟨w.heap.size, 2, none⟩ = some (.int .i64 l) := by simpa using c3
        have HB := Lib.hid (bel_drewN HBW.out nq)
        clear c1 c2 c3 HP HSI HBW HB2
        generalize w2.drewN nq = w4 at *
        rcases HPC.out with ⟨rfl, hno⟩ | ⟨p, x, rfl, hx, hxa, hno⟩
        · cases h128 : (xs.length == 128)
          · have h128' : decide ((xs.length : Int) ≥ 128) = false := by simp at h128 ⊢; omega
            rw [h128] at HAA
            obtain rfl : re = (xs ++ [⟨n, k, l⟩], 0) := by rw [← HAA.out]; rfl
            clear HAA h128
            have HOa : Hid ((w4.alloc (.cells #[] 40)).drew.ownsRow w4.heap.size 40 3 (.slice (some ⟨w4.heap.size, 0, none⟩) 0 0) 0 []) := Lib.hid (empty_row (heap_alloc_new w4 _) (Nat.le_refl _))
            have HOb : Hid (((w4.alloc (.cells #[] 40)).alloc (.cells #[.string n, .string k, .int .i64 l] 40)).drew.ownsRow w4.heap.size 40 3 (.slice (some ⟨w4.heap.size, 0, none⟩) 0 0) 0 []) := Lib.hid ((empty_row (heap_alloc_new w4 (.cells #[] 40)) (Nat.le_refl _)).alloc _)
            have HOc : Hid (((w4.alloc (.cells #[.string n, .string k, .int .i64 l] 40)).alloc (.cells #[] 40)).drew.ownsRow w4.heap.size 40 3 (.slice (some ⟨w4.heap.size + 1, 0, none⟩) 0 0) 0 []) := Lib.hid (empty_row (show ((w4.alloc (.cells #[.string n, .string k, .int .i64 l] 40)).alloc (.cells #[] 40)).drew.heap[w4.heap.size + 1]? = _ from heap_alloc2_new w4 _ _) (by omega))
            have hx4 := H.out.ext HB.out
            have HSa := Lib.hid (hx4.ext ((Below.refl w4.heap.size w4).alloc (Nat.le_refl _) (.cells #[] 40)).drew).src
            have HSb := Lib.hid (hx4.ext (((Below.refl w4.heap.size w4).alloc (Nat.le_refl _) (.cells #[] 40)).alloc (by simp) (.cells #[.string n, .string k, .int .i64 l] 40)).drew).src
            have HSc := Lib.hid (hx4.ext (((Below.refl w4.heap.size w4).alloc (Nat.le_refl _) (.cells #[.string n, .string k, .int .i64 l] 40)).alloc (by simp) (.cells #[] 40)).drew).src
            clear hx4
            have HXb : Hid (∀ w7 : World, ((w4.alloc (.cells #[] 40)).alloc (.cells #[.string n, .string k, .int .i64 l] 40)).drew.grownBy w7 (Value.slice (some ⟨w4.heap.size, 0, none⟩) 0 0).ownBlock → ∀ (j : Nat) (u : Value), ([(⟨n, k, l⟩ : O)].flatMap oCells)[j]? = some u → w7.cell? ((⟨w4.heap.size + 1, 0, none⟩ : Addr).add j) = some u) := Lib.hid (fun w7 hg j u hu => by
              rw [add_plain, Nat.zero_add, World.cell?_of_block (w := ((w4.alloc (.cells #[] 40)).alloc (.cells #[.string n, .string k, .int .i64 l] 40)).drew) (hg.block (w4.heap.size + 1) (by simp) (by simp [Value.ownBlock]))]
              have := one_src (w4.alloc (.cells #[] 40)) ⟨n, k, l⟩ 40 j u hu
              rw [add_plain, Nat.zero_add] at this
              simpa using this)
            have HXc : Hid (∀ w7 : World, ((w4.alloc (.cells #[.string n, .string k, .int .i64 l] 40)).alloc (.cells #[] 40)).drew.grownBy w7 (Value.slice (some ⟨w4.heap.size + 1, 0, none⟩) 0 0).ownBlock → ∀ (j : Nat) (u : Value), ([(⟨n, k, l⟩ : O)].flatMap oCells)[j]? = some u → w7.cell? ((⟨w4.heap.size, 0, none⟩ : Addr).add j) = some u) := Lib.hid (fun w7 hg j u hu => by
              rw [add_plain, Nat.zero_add, World.cell?_of_block (w := ((w4.alloc (.cells #[.string n, .string k, .int .i64 l] 40)).alloc (.cells #[] 40)).drew) (hg.block w4.heap.size (by simp; omega) (by simp [Value.ownBlock]))]
              have := one_src w4 ⟨n, k, l⟩ 40 j u hu
              rw [add_plain, Nat.zero_add] at this
              exact Lib.cell?_alloc_some _ this)
            have HLL : Hid ((xs ++ [(⟨n, k, l⟩ : O)]).flatMap oCells = xs.flatMap oCells ++ [(⟨n, k, l⟩ : O)].flatMap oCells) := Lib.hid (by rw [List.flatMap_append])
            go_wp2_with fail
            go_region_held3 (fun w' => w'.cell? ⟨w.heap.size, 0, none⟩ = some (.string n) ∧ w'.cell? ⟨w.heap.size, 1, none⟩ = some (.string k) ∧ w'.cell? ⟨w.heap.size, 2, none⟩ = some (.int .i64 l))
              (first | exact ⟨d1, d2, d3⟩ | exact ⟨cell_later HB8.out d1, cell_later HB8.out d2, cell_later HB8.out d3⟩ | exact ⟨cell_later HB7.out d1, cell_later HB7.out d2, cell_later HB7.out d3⟩ | go_keep)
              (first
                | (refine step_append_k (by rfl) _ _ 37 (by rfl) w4.heap.size 40 i0 (.agg #[.string ⟨#[]⟩, .string ⟨#[]⟩, .int .i64 0]) 3 40 Try.underlying37 hi0 hz0 hs0 (by decide) hb0 rfl (.slice (some ⟨w4.heap.size, 0, none⟩) 0 0) 0 [] (by rfl) HOa.out a xs.length c (xs.flatMap oCells) (by rfl) HXL.out HSa.out (flat3_one _) (by unfold maxLen; omega) (by omega) (by simp <;> omega) xs.length (xs.flatMap oCells) (by omega) rfl ?_; intro a7 c7 w7 hown7 hgrow7 hat7; have HB7 := Lib.hid (((Below.refl w4.heap.size w4).alloc (Nat.le_refl _) (.cells #[] 40)).drew.grown hgrow7 (by simp <;> omega) (own_base HOa.out)); have HO7 := Lib.hid hown7; clear hown7 hgrow7 hat7)
                | (refine step_append_k (by rfl) _ _ 37 (by rfl) w4.heap.size 40 i0 (.agg #[.string ⟨#[]⟩, .string ⟨#[]⟩, .int .i64 0]) 3 40 Try.underlying37 hi0 hz0 hs0 (by decide) hb0 rfl (.slice (some ⟨w4.heap.size, 0, none⟩) 0 0) 0 [] (by rfl) HOb.out a xs.length c (xs.flatMap oCells) (by rfl) HXL.out HSb.out (flat3_one _) (by unfold maxLen; omega) (by omega) (by simp <;> omega) xs.length (xs.flatMap oCells) (by omega) rfl ?_; intro a7 c7 w7 hown7 hgrow7 hat7; have HB7 := Lib.hid ((((Below.refl w4.heap.size w4).alloc (Nat.le_refl _) (.cells #[] 40)).alloc (by simp) (.cells #[.string n, .string k, .int .i64 l] 40)).drew.grown hgrow7 (by simp <;> omega) (own_base HOb.out)); have HO7 := Lib.hid hown7; have HX7 := Lib.hid (HXb.out w7 hgrow7); clear hown7 hgrow7 hat7)
                | (refine step_append_k (by rfl) _ _ 37 (by rfl) w4.heap.size 40 i0 (.agg #[.string ⟨#[]⟩, .string ⟨#[]⟩, .int .i64 0]) 3 40 Try.underlying37 hi0 hz0 hs0 (by decide) hb0 rfl (.slice (some ⟨w4.heap.size + 1, 0, none⟩) 0 0) 0 [] (by rfl) HOc.out a xs.length c (xs.flatMap oCells) (by rfl) HXL.out HSc.out (flat3_one _) (by unfold maxLen; omega) (by omega) (by simp <;> omega) xs.length (xs.flatMap oCells) (by omega) rfl ?_; intro a7 c7 w7 hown7 hgrow7 hat7; have HB7 := Lib.hid ((((Below.refl w4.heap.size w4).alloc (Nat.le_refl _) (.cells #[.string n, .string k, .int .i64 l] 40)).alloc (by simp) (.cells #[] 40)).drew.grown hgrow7 (by simp <;> omega) (own_base HOc.out)); have HO7 := Lib.hid hown7; have HX7 := Lib.hid (HXc.out w7 hgrow7); clear hown7 hgrow7 hat7)
                | (refine step_append_k (by rfl) _ _ 37 (by rfl) w4.heap.size 40 i0 (.agg #[.string ⟨#[]⟩, .string ⟨#[]⟩, .int .i64 0]) 3 40 Try.underlying37 hi0 hz0 hs0 (by decide) hb0 rfl (.slice a7 xs.length c7) xs.length (xs.flatMap oCells) (by rfl) (HO7.out.alloc _) (some ⟨w7.heap.size, 0, none⟩) 1 1 ([(⟨n, k, l⟩ : O)].flatMap oCells) (by rfl) (by rfl) (Or.inr ⟨_, rfl, one_src w7 ⟨n, k, l⟩ 40⟩) (flat3_one _) (by unfold maxLen; omega) (by omega) (by have := HB7.out.size; simp; omega) (xs.length + 1) ((xs ++ [(⟨n, k, l⟩ : O)]).flatMap oCells) rfl HLL.out ?_; intro a8 c8 w8 hown8 hgrow8 hat8; have HB8 := Lib.hid ((HB7.out.alloc HB7.out.size (.cells #[.string n, .string k, .int .i64 l] 40)).grown hgrow8 (by have := HB7.out.size; simp; omega) (own_base HO7.out)); have HO8 := Lib.hid hown8; clear hown8 hgrow8 hat8)
                | (refine step_append_k (by rfl) _ _ 37 (by rfl) w4.heap.size 40 i0 (.agg #[.string ⟨#[]⟩, .string ⟨#[]⟩, .int .i64 0]) 3 40 Try.underlying37 hi0 hz0 hs0 (by decide) hb0 rfl (.slice a7 xs.length c7) xs.length (xs.flatMap oCells) (by rfl) HO7.out (some ⟨w4.heap.size + 1, 0, none⟩) 1 1 ([(⟨n, k, l⟩ : O)].flatMap oCells) (by rfl) (by rfl) (Or.inr ⟨_, rfl, HX7.out⟩) (flat3_one _) (by unfold maxLen; omega) (by omega) HB7.out.size (xs.length + 1) ((xs ++ [(⟨n, k, l⟩ : O)]).flatMap oCells) rfl HLL.out ?_; intro a8 c8 w8 hown8 hgrow8 hat8; have HB8 := Lib.hid (HB7.out.grown hgrow8 HB7.out.size (own_base HO7.out)); have HO8 := Lib.hid hown8; clear hown8 hgrow8 hat8)
                | (refine step_append_k (by rfl) _ _ 37 (by rfl) w4.heap.size 40 i0 (.agg #[.string ⟨#[]⟩, .string ⟨#[]⟩, .int .i64 0]) 3 40 Try.underlying37 hi0 hz0 hs0 (by decide) hb0 rfl (.slice a7 xs.length c7) xs.length (xs.flatMap oCells) (by rfl) HO7.out (some ⟨w4.heap.size, 0, none⟩) 1 1 ([(⟨n, k, l⟩ : O)].flatMap oCells) (by rfl) (by rfl) (Or.inr ⟨_, rfl, HX7.out⟩) (flat3_one _) (by unfold maxLen; omega) (by omega) HB7.out.size (xs.length + 1) ((xs ++ [(⟨n, k, l⟩ : O)]).flatMap oCells) rfl HLL.out ?_; intro a8 c8 w8 hown8 hgrow8 hat8; have HB8 := Lib.hid (HB7.out.grown hgrow8 HB7.out.size (own_base HO7.out)); have HO8 := Lib.hid hown8; clear hown8 hgrow8 hat8)
                | fail)
            all_goals
              go_wp2
              go_ret2
              exact ⟨.slice a8 (xs.length + 1) c8, rfl, ops_owned (B := w4.heap.size) (e := 40) (by rw [List.length_append]; exact HO8.out), Ext.trans' HB.out HB8.out⟩
          · have h128' : decide ((xs.length : Int) ≥ 128) = true := by simp at h128 ⊢; omega
            rw [h128] at HAA
            obtain rfl : re = ([], 14) := by rw [← HAA.out]; rfl
            clear HAA h128
            go_wp2
            go_ret2
            exact ⟨_, rfl, ops_none _, HB.out⟩
        · have hp := (List.getElem?_eq_some_iff.1 hx).1
          have hz0' : decide ((p : Int) ≥ 0) = true := by simp
          obtain rfl : re = (xs.set p ⟨n, k, l⟩, 0) := by
            rw [← HAA.out]
            have h1 : decide (0 ≤ (p : Int)) = true := by simp
            rw [h1, List.set_eq_take_append_cons_drop, if_pos hp]
            show (xs.take p ++ [⟨n, k, l⟩] ++ xs.drop (p + 1), (0 : Int)) = _
            rw [List.append_assoc]
            rfl
          clear HAA
          have HOa : Hid ((w4.alloc (.cells #[] 40)).ownsRow w4.heap.size 40 3 (.slice (some ⟨w4.heap.size, 0, none⟩) 0 0) 0 []) := Lib.hid (empty_row (heap_alloc_new w4 _) (Nat.le_refl _))
          have HSa := Lib.hid ((H.out.ext HB.out).ext (bel1' w4 (.cells #[] 40))).src
          have hpp : (p : Int) < xs.length := by omega
          go_wp2_with (first
            | (at_builtin; refine wpList_append_k rfl _ _ 37 rfl w4.heap.size 40 i0 (.agg #[.string ⟨#[]⟩, .string ⟨#[]⟩, .int .i64 0]) 3 40 Try.underlying37 hi0 hz0 hs0 (by decide) hb0 rfl (.slice (some ⟨w4.heap.size, 0, none⟩) 0 0) 0 [] rfl HOa.out a xs.length c (xs.flatMap oCells) rfl HXL.out HSa.out (flat3_one _) (by unfold maxLen; omega) (by omega) (by simp) xs.length (xs.flatMap oCells) (by omega) rfl ?_; intro a7 c7 w7 hown7 hgrow7 hat7
               have HB7 := Lib.hid (((Below.refl w4.heap.size w4).alloc (Nat.le_refl _) (.cells #[] 40)).grown hgrow7 (by simp) (own_base HOa.out))
               obtain ⟨g7, cur7, rfl, hg7, hcell7, hle7, hmx7, hsz7, hcur7⟩ : ∃ g cur, a7 = some ⟨g, 0, none⟩ ∧ w4.heap.size ≤ g ∧ w7.heap[g]? = some (.cells cur 40 (0, 0)) ∧ xs.length ≤ c7 ∧ c7 ≤ maxLen ∧ cur.size = c7 * 3 ∧ cur.toList.take (xs.length * 3) = xs.flatMap oCells := (by
                 rcases hown7.2 with ⟨e, h0⟩ | ⟨g, cap, cur, e, h1, h2, h3, h4, h5, h6⟩
                 · omega
                 · injection e with e1 e2 e3
                   subst e3
                   exact ⟨g, cur, e1, h1, h2, h3, h4, h5, h6⟩)
               have HPUT := Lib.hid (row_put hcell7 hle7 hmx7 hsz7 hcur7 rfl hp hg7 ⟨n, k, l⟩)
               have hcc : p * 3 + 2 < cur7.size := (by rw [hsz7]; omega)
               have e0 : w7.cell? ⟨g7, p * 3, none⟩ = some (cur7[p * 3]'(by omega)) := (by rw [rowcell hcell7]; exact Array.getElem?_eq_getElem _)
               have e1 : w7.cell? ⟨g7, p * 3 + 1, none⟩ = some (cur7[p * 3 + 1]'(by omega)) := (by rw [rowcell hcell7]; exact Array.getElem?_eq_getElem _)
               have e2 : w7.cell? ⟨g7, p * 3 + 2, none⟩ = some (cur7[p * 3 + 2]'(by omega)) := (by rw [rowcell hcell7]; exact Array.getElem?_eq_getElem _)
               have f0 : ∀ j, w7.frozen? ⟨g7, j, none⟩ = false := fun j => rowfroz hcell7 j
               generalize cur7[p * 3]'(by omega) = x0 at e0
               generalize cur7[p * 3 + 1]'(by omega) = x1 at e1
               generalize cur7[p * 3 + 2]'(by omega) = x2 at e2
               have k1 : w7.cell? ⟨w.heap.size, 0, none⟩ = some (.string n) := cell_later HB7.out d1
               have k2 : w7.cell? ⟨w.heap.size, 1, none⟩ = some (.string k) := cell_later HB7.out d2
               have k3 : w7.cell? ⟨w.heap.size, 2, none⟩ = some (.int .i64 l) := cell_later HB7.out d3
               have HG7 := Lib.hid hg7
               clear hown7 hgrow7 hat7 hcell7 hmx7 hsz7 hcur7 hcc hg7)
            | fail)
          go_ret2
          exact ⟨.slice (some ⟨g7, 0, none⟩) xs.length c7, rfl, ops_owned (B := w4.heap.size) (e := 40) (by rw [List.length_set]; exact HPUT.out), Ext.trans' HB.out (((HB7.out.setCell HG7.out _).setCell HG7.out _).setCell HG7.out _)⟩
      · skip
        rw [hl0] at hlv hA
        have hlv' : lev l = 1 := hlv
        rw [hlv'] at HM
        clear hlv hlv'
        (go_wp2_with fail; go_fit (HM.out _); rintro e w2 ⟨rfl, hb2⟩)
        have HB2 := Lib.hid (Below.trans (bel1' w1 _) (hb2.mono (by simp)))
        clear hb2 c1 c2 c3
        have c1 : w2.cell? ⟨w.heap.size, 0, none⟩ = some (.string n) := cell_later HB2.out HC1.out.1
        have c2 : w2.cell? ⟨w.heap.size, 1, none⟩ = some (.string k) := cell_later HB2.out HC1.out.2.1
        have c3 : w2.cell? ⟨w.heap.size, 2, none⟩ = some (.int .i64 l) := cell_later HB2.out HC1.out.2.2
        have HBW := Lib.hid (Ext.trans' HB1.out HB2.out)
        cases m
        · obtain rfl : re = ([], 1) := by rw [← hA]; rfl
          clear hA HM HSI HP HG HFP
          go_wp2
          go_ret2
          exact ⟨_, rfl, ops_none _, HBW.out⟩
        have hf := HFP.out (by trivial) (by trivial)
        have hPC := place_cases xs (bl n) s
        obtain ⟨z, hz⟩ : ∃ z, placeB xs (bl n) s = z := ⟨_, rfl⟩
        rw [hf, hz] at HP
        rw [hz] at hPC
        simp only [hz] at hA
        have HAA := Lib.hid hA
        have HPC := Lib.hid hPC
        clear hA hz hPC hf HFP HM HG
        go_wp2_with fail
        go_big_quiet (first | (go_at_call 28; exact Calls.quiet_of_same ((HSI.out _).mono fun _ _ ⟨a, b⟩ => ⟨a, b.symm⟩)) | (go_at_call 19; exact Calls.quiet_of_same ((HP.out _ (bel_drewN HBW.out _)).mono fun _ _ ⟨a, b⟩ => ⟨a, b.symm⟩)))
        have d1 : (w2.drewN nq).cell? ⟨w.heap.size, 0, none⟩ = some (.string n) := by simpa using c1
        have d2 : (w2.drewN nq).cell? ⟨w.heap.size, 1, none⟩ = some (.string k) := by simpa using c2
        have d3 : (w2.drewN nq).cell? ⟨w.heap.size, 2, none⟩ = some (.int .i64 l) := by simpa using c3
        have HB := Lib.hid (bel_drewN HBW.out nq)
        clear c1 c2 c3 HP HSI HBW HB2
        generalize w2.drewN nq = w4 at *
        rcases HPC.out with ⟨rfl, hno⟩ | ⟨p, x, rfl, hx, hxa, hno⟩
        · obtain rfl : re = ([], 13) := by rw [← HAA.out]; rfl
          clear HAA
          go_wp2
          go_ret2
          exact ⟨_, rfl, ops_none _, HB.out⟩
        · have hp := (List.getElem?_eq_some_iff.1 hx).1
          have hz0' : decide ((p : Int) < 0) = false := by simp
          obtain rfl : re = (xs.take p ++ xs.drop (p + 1), 0) := by
            rw [← HAA.out, hz0']
            rfl
          clear HAA
          obtain ⟨b, off, rfl, hbs, _⟩ := H.out.cells hx
          have hpc : p ≤ c := by omega
          have hwp : IntKind.i64.wrap ((p : Int) + 1) = (p : Int) + 1 := by rw [IntKind.wrap_i64]; omega
          have HOa : Hid ((w4.alloc (.cells #[] 40)).drew.ownsRow w4.heap.size 40 3 (.slice (some ⟨w4.heap.size, 0, none⟩) 0 0) 0 []) := Lib.hid (empty_row (heap_alloc_new w4 _) (Nat.le_refl _))
          have hx4 := H.out.ext HB.out
          by_cases hcp : c = p + 1
          · obtain rfl : c = p + 1 := hcp
            have hxl : xs.length = p + 1 := by omega
            have HX0 := Lib.hid hxl
            rw [hxl] at H HXL
            have i1 : (0 : Int) ≤ (p : Int) := by omega
            have i2 : (p : Int) ≤ (p : Int) + 1 := by omega
            have i3 : (0 : Int) ≤ (p : Int) + 1 := by omega
            have i4 : ((p : Int) + 1).toNat = p + 1 := by omega
            have HSa := Lib.hid ((hx4.ext ((Below.refl w4.heap.size w4).alloc (Nat.le_refl _) (.cells #[] 40)).drew).take p (by omega)).src
            have HLT : Hid (((xs.take p).flatMap oCells).length = p * 3) := Lib.hid (by rw [flat3_len, List.length_take, Nat.min_eq_left (by omega)])
            have HLD : Hid (((xs.drop (p + 1)).flatMap oCells).length = (0) * 3) := Lib.hid (by have := flat3_len (xs.drop (p + 1)); rw [List.length_drop] at this; omega)
            have HLL : Hid ((xs.take p ++ xs.drop (p + 1)).flatMap oCells = (xs.take p).flatMap oCells ++ (xs.drop (p + 1)).flatMap oCells) := Lib.hid (by rw [List.flatMap_append])
            clear hx4
            go_wp2_with fail
            go_region_held3 (fun w' => w'.cell? ⟨w.heap.size, 0, none⟩ = some (.string n))
              (first | exact d1 | exact cell_later HB8.out d1 | exact cell_later HB7.out d1 | go_keep)
              (first
                | (refine step_append_k (by rfl) _ _ 37 (by rfl) w4.heap.size 40 i0 (.agg #[.string ⟨#[]⟩, .string ⟨#[]⟩, .int .i64 0]) 3 40 Try.underlying37 hi0 hz0 hs0 (by decide) hb0 rfl (.slice (some ⟨w4.heap.size, 0, none⟩) 0 0) 0 [] (by rfl) HOa.out (some ⟨b, off, none⟩) p (p + 1) ((xs.take p).flatMap oCells) (by rfl) HLT.out HSa.out (flat3_one _) (by unfold maxLen; omega) (by omega) (by simp) p ((xs.take p).flatMap oCells) (by omega) rfl ?_; intro a7 c7 w7 hown7 hgrow7 hat7; have HB7 := Lib.hid (((Below.refl w4.heap.size w4).alloc (Nat.le_refl _) (.cells #[] 40)).drew.grown hgrow7 (by simp) (own_base HOa.out)); have HO7 := Lib.hid hown7; clear hown7 hgrow7 hat7)
                | (refine step_append_k (by rfl) _ _ 37 (by rfl) w4.heap.size 40 i0 (.agg #[.string ⟨#[]⟩, .string ⟨#[]⟩, .int .i64 0]) 3 40 Try.underlying37 hi0 hz0 hs0 (by decide) hb0 rfl (.slice a7 p c7) p ((xs.take p).flatMap oCells) (by rfl) HO7.out (some ⟨b, off, none⟩) (0) (0) ((xs.drop (p + 1)).flatMap oCells) (by rfl) HLD.out (Or.inl rfl) (flat3_one _) (by unfold maxLen; omega) (by omega) HB7.out.size (p + (0)) ((xs.take p ++ xs.drop (p + 1)).flatMap oCells) rfl HLL.out ?_; intro a8 c8 w8 hown8 hgrow8 hat8; have HB8 := Lib.hid (HB7.out.grown hgrow8 HB7.out.size (own_base HO7.out)); have HO8 := Lib.hid hown8; clear hown8 hgrow8 hat8)
                | fail)
            all_goals
              go_wp2
              go_ret2
              exact ⟨.slice a8 (p + (0)) c8, rfl, ops_owned (B := w4.heap.size) (e := 40) (by rw [show (xs.take p ++ xs.drop (p + 1)).length = p + (0) by simp; omega]; exact HO8.out), Ext.trans' HB.out HB8.out⟩
          · have hcp' : p + 1 < c := by omega
            have i1 : (0 : Int) ≤ (p : Int) := by omega
            have i2 : (p : Int) ≤ (c : Int) := by omega
            have i3 : (0 : Int) ≤ (p : Int) + 1 := by omega
            have i4 : ((p : Int) + 1).toNat = p + 1 := by omega
            have i5 : (p : Int) + 1 ≤ (xs.length : Int) := by omega
            have i6 : (xs.length : Int) ≤ (c : Int) := by omega
            have i7 : ¬ (c = p + 1) := by omega
            have HSa := Lib.hid ((hx4.ext ((Below.refl w4.heap.size w4).alloc (Nat.le_refl _) (.cells #[] 40)).drew).take p (by omega)).src
            have HSD := Lib.hid (fun (w7 : World) (hb : Below w4.heap.size w4 w7) => ((hx4.ext hb).drop (p + 1) (by omega)).src)
            have HLT : Hid (((xs.take p).flatMap oCells).length = p * 3) := Lib.hid (by rw [flat3_len, List.length_take, Nat.min_eq_left (by omega)])
            have HLD : Hid (((xs.drop (p + 1)).flatMap oCells).length = (xs.length - (p + 1)) * 3) := Lib.hid (by have := flat3_len (xs.drop (p + 1)); rw [List.length_drop] at this; omega)
            have HLL : Hid ((xs.take p ++ xs.drop (p + 1)).flatMap oCells = (xs.take p).flatMap oCells ++ (xs.drop (p + 1)).flatMap oCells) := Lib.hid (by rw [List.flatMap_append])
            clear hx4
            go_wp2_with fail
            go_region_held3 (fun w' => w'.cell? ⟨w.heap.size, 0, none⟩ = some (.string n))
              (first | exact d1 | exact cell_later HB8.out d1 | exact cell_later HB7.out d1 | go_keep)
              (first
                | (refine step_append_k (by rfl) _ _ 37 (by rfl) w4.heap.size 40 i0 (.agg #[.string ⟨#[]⟩, .string ⟨#[]⟩, .int .i64 0]) 3 40 Try.underlying37 hi0 hz0 hs0 (by decide) hb0 rfl (.slice (some ⟨w4.heap.size, 0, none⟩) 0 0) 0 [] (by rfl) HOa.out (some ⟨b, off, none⟩) p c ((xs.take p).flatMap oCells) (by rfl) HLT.out HSa.out (flat3_one _) (by unfold maxLen; omega) (by omega) (by simp) p ((xs.take p).flatMap oCells) (by omega) rfl ?_; intro a7 c7 w7 hown7 hgrow7 hat7; have HB7 := Lib.hid (((Below.refl w4.heap.size w4).alloc (Nat.le_refl _) (.cells #[] 40)).drew.grown hgrow7 (by simp) (own_base HOa.out)); have HO7 := Lib.hid hown7; clear hown7 hgrow7 hat7)
                | (refine step_append_k (by rfl) _ _ 37 (by rfl) w4.heap.size 40 i0 (.agg #[.string ⟨#[]⟩, .string ⟨#[]⟩, .int .i64 0]) 3 40 Try.underlying37 hi0 hz0 hs0 (by decide) hb0 rfl (.slice a7 p c7) p ((xs.take p).flatMap oCells) (by rfl) HO7.out (some ⟨b, off + (p + 1) * 3, none⟩) (xs.length - (p + 1)) (c - (p + 1)) ((xs.drop (p + 1)).flatMap oCells) (by rfl) HLD.out (HSD.out w7 HB7.out) (flat3_one _) (by unfold maxLen; omega) (by omega) HB7.out.size (p + (xs.length - (p + 1))) ((xs.take p ++ xs.drop (p + 1)).flatMap oCells) rfl HLL.out ?_; intro a8 c8 w8 hown8 hgrow8 hat8; have HB8 := Lib.hid (HB7.out.grown hgrow8 HB7.out.size (own_base HO7.out)); have HO8 := Lib.hid hown8; clear hown8 hgrow8 hat8)
                | fail)
            all_goals
              go_wp2
              go_ret2
              exact ⟨.slice a8 (p + (xs.length - (p + 1))) c8, rfl, ops_owned (B := w4.heap.size) (e := 40) (by rw [show (xs.take p ++ xs.drop (p + 1)).length = p + (xs.length - (p + 1)) by simp; omega]; exact HO8.out), Ext.trans' HB.out HB8.out⟩
    · obtain rfl : re = ([], 8) := by rw [← hA]; rfl
      clear hA HM HSI HP HG HFP
      go_wp2
      go_ret2
      exact ⟨_, rfl, ops_none _, HB1.out⟩
end Go.Proofs.Ythalpdjnclfleaa
