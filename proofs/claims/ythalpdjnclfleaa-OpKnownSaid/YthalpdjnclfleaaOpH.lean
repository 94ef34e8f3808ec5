/- Operators: Add. -/
import Derived.Test.YthalpdjnclfleaaOpG
import Derived.Deep.RegionHeld3
namespace Go.Proofs.Ythalpdjnclfleaa
open Go.Shelf Go.RowKit

/-- What Add answers: the table, the number of what is wrong. -/
def addB (xs : List O) (o : O) : List O × Int :=
  if !goodB xs then ([], 1)
  else if bl o.n == [44] then ([], 8)
  else if !mayB (bl o.n) (bl o.k) (lev o.l) then ([], 1)
  else if (o.l == 0) && decide (placeB xs (bl o.n) (sideB (bl o.k)) < 0) then ([], 13)
  else if o.l == 0 then (xs.take (placeB xs (bl o.n) (sideB (bl o.k))).toNat ++ xs.drop ((placeB xs (bl o.n) (sideB (bl o.k))).toNat + 1), 0)
  else if decide (0 ≤ placeB xs (bl o.n) (sideB (bl o.k))) then (xs.take (placeB xs (bl o.n) (sideB (bl o.k))).toNat ++ [o] ++ xs.drop ((placeB xs (bl o.n) (sideB (bl o.k))).toNat + 1), 0)
  else if xs.length == 128 then ([], 14)
  else (xs ++ [o], 0)

/-- The call's three blocks: its table, the operator, the result. -/
def AddAt (w wr : World) (v : Value) (n k : ByteArray) (l : Int) : Prop :=
  (wr.cell? ⟨w.heap.size, 0, none⟩ = some v ∧ wr.cell? ⟨w.heap.size + 1, 0, none⟩ = some (.string n) ∧ wr.cell? ⟨w.heap.size + 1, 1, none⟩ = some (.string k) ∧ wr.cell? ⟨w.heap.size + 1, 2, none⟩ = some (.int .i64 l) ∧
    wr.cell? ⟨w.heap.size + 1 + 1, 0, none⟩ = some (.slice none 0 0)) ∧ (∀ j, wr.frozen? ⟨w.heap.size + 1 + 1, j, none⟩ = false) ∧ w.heap.size + 3 ≤ wr.heap.size ∧ Below w.heap.size w wr
theorem AddAt.ext {w wr wq : World} {v : Value} {n k : ByteArray} {l : Int} (h : AddAt w wr v n k l) (hb : Below wr.heap.size wr wq) : AddAt w wq v n k l := by
  obtain ⟨⟨h0, h1, h2, h3, h4⟩, h5, h6, h7⟩ := h
  exact ⟨⟨cell_later hb h0, cell_later hb h1, cell_later hb h2, cell_later hb h3, cell_later hb h4⟩, fun j => (hb.frozen (p := ⟨w.heap.size + 1 + 1, j, none⟩) (by simp; omega)).trans (h5 j), Nat.le_trans h6 hb.size, Ext.trans' h7 hb⟩
theorem add_start (w : World) (v : Value) (n k : ByteArray) (l : Int) :
    AddAt w (((w.alloc (.cells #[v] 25)).alloc (.cells #[.string n, .string k, .int .i64 l] 28)).alloc (.cells #[.slice none 0 0] 25)) v n k l := by
  unfold AddAt
  refine ⟨⟨by go_simp, by go_simp, by go_simp, by go_simp, by go_simp⟩, fun j => by go_simp, by simp, (bel1' _ _).trans (((bel1' _ _).mono ?_).trans ((bel1' _ _).mono ?_))⟩
  · simp
  · simp
    omega

theorem good_len {xs : List O} (h : goodB xs = true) : xs.length ≤ 128 := by
  unfold goodB at h
  rw [Bool.and_eq_true] at h
  simpa using h.1

/-- What Add answers, in the memory behind it. -/
def AddEnd (w : World) (xs : List O) (o : O) (e : Ending) (w' : World) : Prop :=
  ∃ v, e = .returned (.tuple #[.agg #[v], .int .i64 (addB xs o).2]) ∧ Ops w' v (addB xs o).1 ∧ Below w.heap.size w w'
theorem ops_none (w : World) : Ops w (.slice none 0 0) [] := ⟨none, 0, rfl, Nat.le_refl _, Nat.zero_le _, Or.inl rfl⟩

theorem Ops.drop {w : World} {b off n c : Nat} {xs : List O} (h : Ops w (.slice (some ⟨b, off, none⟩) n c) xs) (k : Nat) (hk : k ≤ n) : Ops w (.slice (some ⟨b, off + k * 3, none⟩) (n - k) (c - k)) (xs.drop k) := by
  obtain ⟨a', cap', e, h1, h2, h3⟩ := h
  cases e
  refine ⟨_, c - k, by rw [List.length_drop], by rw [List.length_drop]; omega, by omega, ?_⟩
  rcases h3 with rfl | ⟨b', off', e, hb, hc⟩
  · exact Or.inl (by simp)
  · cases e
    refine Or.inr ⟨b, _, rfl, hb, fun i x hx j u hu => ?_⟩
    rw [List.getElem?_drop] at hx
    rw [← hc _ x hx j u hu]
    congr 2
    omega
theorem cell_far {w : World} {b j : Nat} {v : Value} (h : w.cell? ⟨b, j, none⟩ = some v) (a : Addr) (u : Value) (hne : b ≠ a.block) : (w.setCell a u).cell? ⟨b, j, none⟩ = some v :=
  (World.cell?_of_block (w := w) (Below.heap_setCell w a u b hne)).trans h
theorem ops_zero (w : World) (a : Option Addr) (c : Nat) (hc : c ≤ maxLen) : Ops w (.slice a 0 c) [] := ⟨a, c, rfl, Nat.zero_le _, hc, Or.inl rfl⟩
theorem one_laid (w : World) (o : O) : Ops (w.alloc (.cells #[.string o.n, .string o.k, .int .i64 o.l] 28)) (.slice (some ⟨w.heap.size, 0, none⟩) 1 1) [o] := by
  refine ⟨_, _, rfl, Nat.le_refl _, by unfold maxLen; simp, Or.inr ⟨_, _, rfl, by simp, fun i x hx j u hu => ?_⟩⟩
  have hi : i = 0 := by have := (List.getElem?_eq_some_iff.1 hx).1; simpa using this
  subst hi
  simp at hx
  subst hx
  rw [World.cell?_alloc_at _ _ _ _ rfl]
  simpa [oCells] using hu
/-- Concat, called while Add stands: the three blocks stay. -/
theorem concat_add {w wr : World} {u : Value} {n k : ByteArray} {l : Int} (hA : AddAt w wr u n k l) {v : Value} {ps : List (Value × List O)} {L : List O} (h : Elems 1 (fun p => [p.1]) wr v ps) (hp : ∀ p ∈ ps, Ops wr p.1 p.2)
    (hl : ps.length ≤ 20) (hL : ps.flatMap (·.2) = L) (hs : L.length ≤ 5000) :
    Calls Try.prog 21 #[v] wr fun e w' => ∃ ar cr, e = .returned (.slice ar L.length cr) ∧ Ops w' (.slice ar L.length cr) L ∧ AddAt w w' u n k l ∧ (Value.slice ar L.length cr).ownBlock ≠ some (w.heap.size + 1 + 1) := by
  subst hL
  refine (concat_walk h hp hl hs).mono ?_
  rintro e w' ⟨r, rfl, h1, h2, h3⟩
  obtain ⟨ar, cr, rfl, _⟩ := h1.form
  refine ⟨ar, cr, rfl, h1, hA.ext h2, fun e => ?_⟩
  have h4 := h3 _ e
  have h5 := hA.2.2.1
  omega

set_option maxHeartbeats 2000000 in
theorem add_walk {w : World} {v : Value} {xs : List O} (h : Ops w v xs) (o : O) :
    Calls Try.prog 11 #[.agg #[v], oVal o] w (AddEnd w xs o) := by
  obtain ⟨a, c, rfl, hl1, hl2⟩ := h.form
  unfold maxLen at hl2
  rcases o with ⟨n, k, l⟩
  have H := Lib.hid h
  have HS := Lib.hid (add_start w (.slice a xs.length c) n k l)
  have HG := Lib.hid (fun (wq : World) (hq : Below w.heap.size w wq) => good_walk (h.ext hq))
  have HM := Lib.hid (fun (wq : World) => mayAdd_walk n k l wq)
  have HSI := Lib.hid (fun (wq : World) => side_walk k wq)
  have HP := Lib.hid (fun (wq : World) (hq : Below w.heap.size w wq) => place_walk (h.ext hq) n (sideB (bl k)))
  clear h
  obtain ⟨re, hA⟩ : ∃ re, addB xs ⟨n, k, l⟩ = re := ⟨_, rfl⟩
  unfold AddEnd
  rw [hA]
  unfold addB at hA
  simp only at hA
  have htb : (n.toList == [44]) = (bl n == [44]) := by rw [Lib.toList_data]
  obtain ⟨g, hg⟩ : ∃ g, goodB xs = g := ⟨_, rfl⟩
  obtain ⟨m, hm⟩ : ∃ m, mayB (bl n) (bl k) (lev l) = m := ⟨_, rfl⟩
  obtain ⟨s, hs⟩ : ∃ s, sideB (bl k) = s := ⟨_, rfl⟩
  obtain ⟨b, hb⟩ : ∃ b, (bl n == [44]) = b := ⟨_, rfl⟩
  have HLE : Hid (g = true → xs.length ≤ 128) := Lib.hid (fun h => good_len (by rw [hg, h]))
  rw [hg] at HG hA
  rw [hm] at HM hA
  rw [hs] at HSI HP hA
  rw [hb] at hA htb
  clear hg hm hs hb
  go_enter Try.func11, Try.ntmps11
  (go_wp2_with fail; go_fit (HG.out _ HS.out.2.2.2); rintro e w1 ⟨rfl, hb1⟩)
  have HA1 := Lib.hid (HS.out.ext hb1)
  clear hb1
  cases g
  · obtain rfl : re = ([], 1) := by rw [← hA]; rfl
    clear hA HM HSI HP HG
    obtain ⟨⟨c0, c1, c2, c3, c4⟩, f4, hsz, hbw⟩ := HA1.out
    have HB := Lib.hid hbw; clear hbw
    go_wp2
    (try simp only [Exit.inBlock, Exit.then])
    refine bodyPost_ret (v := .tuple #[.agg #[.slice .none 0 0], .int .i64 1]) (by rw [results_cell_tmp rfl]; go_simp) rfl ⟨_, rfl, ops_none _, ?_⟩
    repeat' (first | exact HB.out | refine Below.setCell ?_ (by simp; omega) _)
  · have hle : xs.length ≤ 128 := HLE.out rfl
    clear HLE
    cases b
    · obtain ⟨⟨c0, c1, c2, c3, c4⟩, _, _, _⟩ := HA1.out
      (go_wp2_with fail; go_fit (HM.out _); rintro e w2 ⟨rfl, hb2⟩)
      have HA2 := Lib.hid (HA1.out.ext hb2)
      clear hb2 c0 c1 c2 c3 c4
      cases m
      · obtain rfl : re = ([], 1) := by rw [← hA]; rfl
        clear hA HM HSI HP HG
        obtain ⟨⟨c0, c1, c2, c3, c4⟩, f4, hsz, hbw⟩ := HA2.out
        have HB := Lib.hid hbw; clear hbw
        go_wp2
        (try simp only [Exit.inBlock, Exit.then])
        refine bodyPost_ret (v := .tuple #[.agg #[.slice .none 0 0], .int .i64 1]) (by rw [results_cell_tmp rfl]; go_simp) rfl ⟨_, rfl, ops_none _, ?_⟩
        repeat' (first | exact HB.out | refine Below.setCell ?_ (by simp; omega) _)
      · have hA' : (if (l == 0) && decide (placeB xs (bl n) s < 0) then (([], 13) : List O × Int)
            else if l == 0 then (xs.take (placeB xs (bl n) s).toNat ++ xs.drop ((placeB xs (bl n) s).toNat + 1), 0)
            else if decide (0 ≤ placeB xs (bl n) s) then (xs.take (placeB xs (bl n) s).toNat ++ [⟨n, k, l⟩] ++ xs.drop ((placeB xs (bl n) s).toNat + 1), 0)
            else if xs.length == 128 then ([], 14) else (xs ++ [⟨n, k, l⟩], 0)) = re := hA
        have hPC := place_cases xs (bl n) s
        obtain ⟨z, hz⟩ : ∃ z, placeB xs (bl n) s = z := ⟨_, rfl⟩
        rw [hz] at HP hA' hPC
        have HAA := Lib.hid hA'
        have HPC := Lib.hid hPC
        clear hA hA' hz hPC HM HG
        obtain ⟨⟨c0, c1, c2, c3, c4⟩, f4, hsz, hbw⟩ := HA2.out
        have HB2 := Lib.hid hbw
        clear hbw
        go_wp2_with fail
        (refine wp_region_class (fun w' => ((w'.cell? ⟨w.heap.size, 0, none⟩ = some (.slice a xs.length c) ∧ w'.cell? ⟨w.heap.size + 1, 0, none⟩ = some (.string n) ∧ w'.cell? ⟨w.heap.size + 1, 1, none⟩ = some (.string k)) ∧ Below w2.heap.size w2 w')) (by kernel_rfl) (by kernel_rfl) (⟨⟨c0, c1, c2⟩, (Below.refl _ _).drew⟩) ?_; (repeat (first | go_big_quiet_skip | (go_big_quiet_want; refine quiet_of ?_; apply Exists.intro; refine ⟨fun wq hq => ?_, ?_⟩; (focus ((try dsimp only at hq); go_simp; (first | done | with_reducible rfl | ((first | (go_at_call 26; refine (HSI.out wq).mono ?_; rintro e w6 ⟨rfl, rfl⟩; exact ⟨rfl, hq⟩) | (go_at_call 25; refine (HP.out wq (Ext.trans' HB2.out hq.2)).mono ?_; rintro e w6 ⟨rfl, h6⟩; exact ⟨rfl, ⟨cell_later h6 hq.1.1, cell_later h6 hq.1.2.1, cell_later h6 hq.1.2.2⟩, Below.trans hq.2 (h6.mono hq.2.size)⟩) | fail)) | fail))); try simp only [Act.put, List.setIfInBounds_toArray, List.set_cons_zero, List.set_cons_succ]; go_big_quiet_on) | fail)); refine wpQuiet_nil ?_; intro wz hz)
        have HA3 := Lib.hid (HA2.out.ext hz.2)
        clear hz c0 c1 c2 c3 c4 f4 hsz HB2 HA2 HA1 HP HSI
        obtain ⟨⟨c0, c1, c2, c3, c4⟩, f4, hsz, hbw⟩ := HA3.out
        have HB := Lib.hid hbw; clear hbw
        cases hl : (l == 0)
        · rw [hl] at HAA
          rcases HPC.out with ⟨rfl, hno⟩ | ⟨p, x, rfl, hx, hxa, hno⟩
          · cases h128 : (xs.length == 128)
            · have h128' : ((xs.length : Int) == 128) = false := by rw [Bool.eq_false_iff] at h128 ⊢; simp at h128 ⊢; omega
              rw [h128] at HAA
              obtain rfl : re = (xs ++ [⟨n, k, l⟩], 0) := by rw [← HAA.out]; rfl
              clear HAA h128
              obtain ⟨N, hN⟩ : ∃ N, (xs ++ [(⟨n, k, l⟩ : O)]).length = N := ⟨_, rfl⟩
              have hx1 := (H.out.ext HB.out).ext ((bel1' wz (.cells #[.string n, .string k, .int .i64 l] 28)).trans ((bel1' _ (.cells #[.slice a xs.length c, .slice (some ⟨wz.heap.size, 0, none⟩) 1 1] 23)).mono (by simp)))
              have ho1 := (one_laid wz ⟨n, k, l⟩).ext (bel1' _ (.cells #[.slice a xs.length c, .slice (some ⟨wz.heap.size, 0, none⟩) 1 1] 23))
              have hel := parts_laid (wz.alloc (.cells #[.string n, .string k, .int .i64 l] 28)) 23 [(.slice a xs.length c, xs), (.slice (some ⟨wz.heap.size, 0, none⟩) 1 1, [⟨n, k, l⟩])] 2 rfl (by omega)
              rw [show (wz.alloc (.cells #[.string n, .string k, .int .i64 l] 28)).heap.size = wz.heap.size + 1 by simp] at hel
              have hcc := concat_add (L := xs ++ [⟨n, k, l⟩]) (HA3.out.ext ((bel1' wz (.cells #[.string n, .string k, .int .i64 l] 28)).trans ((bel1' _ (.cells #[.slice a xs.length c, .slice (some ⟨wz.heap.size, 0, none⟩) 1 1] 23)).mono (by simp)))) hel
                (fun p hp => by
                  simp only [List.mem_cons, List.not_mem_nil, or_false] at hp
                  rcases hp with rfl | rfl
                  · exact hx1
                  · exact ho1) (by simp) (by simp) (by simp; omega)
              rw [hN] at hcc
              have HCC := Lib.hid hcc
              clear hcc hel ho1 hx1
              (go_wp2_with fail; go_fit (HCC.out); rintro e w4 ⟨ar, cr, rfl, h4, ha4, hne⟩)
              have HR := Lib.hid h4; have HNE := Lib.hid hne
              clear h4 hne c0 c1 c2 c3 c4 f4 hsz HB HCC
              obtain ⟨⟨c0, c1, c2, c3, c4⟩, f4, hsz, hbw⟩ := ha4
              have HB := Lib.hid hbw; clear hbw
              go_wp2
              (try simp only [Exit.inBlock, Exit.then])
              refine bodyPost_ret (v := .tuple #[.agg #[.slice ar N cr], .int .i64 0]) (by rw [results_cell_tmp rfl]; go_simp) rfl ⟨_, rfl, HR.out.set _ _ HNE.out, ?_⟩
              repeat' (first | exact HB.out | refine Below.setCell ?_ (by simp; omega) _)
            · have h128' : ((xs.length : Int) == 128) = true := by simp at h128 ⊢; omega
              rw [h128] at HAA
              obtain rfl : re = ([], 14) := by rw [← HAA.out]; rfl
              clear HAA h128
              go_wp2
              (try simp only [Exit.inBlock, Exit.then])
              refine bodyPost_ret (v := .tuple #[.agg #[.slice .none 0 0], .int .i64 14]) (by rw [results_cell_tmp rfl]; go_simp) rfl ⟨_, rfl, ops_none _, ?_⟩
              repeat' (first | exact HB.out | refine Below.setCell ?_ (by simp; omega) _)
          · have hp := (List.getElem?_eq_some_iff.1 hx).1
            have hz0 : decide ((p : Int) ≥ 0) = true := by simp
            obtain rfl : re = (xs.take p ++ (⟨n, k, l⟩ :: xs.drop (p + 1)), 0) := by
              rw [← HAA.out]
              have h1 : decide (0 ≤ (p : Int)) = true := by simp
              rw [h1]
              show (xs.take p ++ [⟨n, k, l⟩] ++ xs.drop (p + 1), (0 : Int)) = _
              rw [List.append_assoc]
              rfl
            clear HAA
            obtain ⟨b, off, rfl, hbs, _⟩ := Ops.cells H.out hx
            have hpc : p ≤ c := by omega
            have hwp : IntKind.i64.wrap ((p : Int) + 1) = (p : Int) + 1 := by rw [IntKind.wrap_i64]; omega
            obtain ⟨N, hN⟩ : ∃ N, (xs.take p ++ ((⟨n, k, l⟩ : O) :: xs.drop (p + 1))).length = N := ⟨_, rfl⟩
            by_cases hcp : c = p + 1
            · obtain rfl : c = p + 1 := hcp
              have hxl : xs.length = p + 1 := by omega
              rw [hxl] at H HA3 c0
              have HXL := Lib.hid hxl
              have i1 : (0 : Int) ≤ (p : Int) := by omega
              have i2 : (p : Int) ≤ (p : Int) + 1 := by omega
              have i3 : (0 : Int) ≤ (p : Int) + 1 := by omega
              have i4 : ((p : Int) + 1).toNat = p + 1 := by omega
              have hel0 := parts_laid (wz.alloc (.cells #[.string n, .string k, .int .i64 l] 28)) 23 [(.slice (some ⟨b, off, none⟩) p (p + 1), xs.take p), (.slice (some ⟨wz.heap.size, 0, none⟩) 1 1, [⟨n, k, l⟩]), (.slice (some ⟨b, off, none⟩) 0 0, xs.drop (p + 1))] 3 rfl (by omega)
              rw [show (wz.alloc (.cells #[.string n, .string k, .int .i64 l] 28)).heap.size = wz.heap.size + 1 by simp] at hel0
              have hel : Elems 1 (fun p => [p.1]) ((wz.alloc (.cells #[.string n, .string k, .int .i64 l] 28)).alloc (.cells #[.slice (some ⟨b, off, none⟩) p (p + 1), .slice (some ⟨wz.heap.size, 0, none⟩) 1 1, .slice (some ⟨b, off, none⟩) 0 0] 23)).drew (.slice (some ⟨wz.heap.size + 1, 0, none⟩) 3 3) [(.slice (some ⟨b, off, none⟩) p (p + 1), xs.take p), (.slice (some ⟨wz.heap.size, 0, none⟩) 1 1, [⟨n, k, l⟩]), (.slice (some ⟨b, off, none⟩) 0 0, xs.drop (p + 1))] := hel0
              have hx0 : Ops ((wz.alloc (.cells #[.string n, .string k, .int .i64 l] 28)).alloc (.cells #[.slice (some ⟨b, off, none⟩) p (p + 1), .slice (some ⟨wz.heap.size, 0, none⟩) 1 1, .slice (some ⟨b, off, none⟩) 0 0] 23)).drew (.slice (some ⟨b, off, none⟩) (p + 1) (p + 1)) xs := (H.out.ext HB.out).ext ((bel1' wz (.cells #[.string n, .string k, .int .i64 l] 28)).trans ((bel1' _ (.cells #[.slice (some ⟨b, off, none⟩) p (p + 1), .slice (some ⟨wz.heap.size, 0, none⟩) 1 1, .slice (some ⟨b, off, none⟩) 0 0] 23)).drew.mono (by simp)))
              have ho0 : Ops ((wz.alloc (.cells #[.string n, .string k, .int .i64 l] 28)).alloc (.cells #[.slice (some ⟨b, off, none⟩) p (p + 1), .slice (some ⟨wz.heap.size, 0, none⟩) 1 1, .slice (some ⟨b, off, none⟩) 0 0] 23)).drew (.slice (some ⟨wz.heap.size, 0, none⟩) 1 1) [⟨n, k, l⟩] := (one_laid wz ⟨n, k, l⟩).ext (bel1' _ (.cells #[.slice (some ⟨b, off, none⟩) p (p + 1), .slice (some ⟨wz.heap.size, 0, none⟩) 1 1, .slice (some ⟨b, off, none⟩) 0 0] 23)).drew
              have hcc := concat_add (L := xs.take p ++ (⟨n, k, l⟩ :: xs.drop (p + 1))) (HA3.out.ext ((bel1' wz (.cells #[.string n, .string k, .int .i64 l] 28)).trans ((bel1' _ (.cells #[.slice (some ⟨b, off, none⟩) p (p + 1), .slice (some ⟨wz.heap.size, 0, none⟩) 1 1, .slice (some ⟨b, off, none⟩) 0 0] 23)).drew.mono (by simp)))) hel
                (fun q hq => by
                  simp only [List.mem_cons, List.not_mem_nil, or_false] at hq
                  rcases hq with rfl | rfl | rfl
                  · exact hx0.take p (by omega)
                  · exact ho0
                  · exact by rw [List.drop_of_length_le (by omega)]; exact ops_zero _ _ _ (by unfold maxLen; omega)) (by simp) (by simp) (by simp; omega)
              rw [hN] at hcc
              have HCC := Lib.hid hcc
              clear hcc hel hel0 hx0 ho0
              go_wp2_with fail
              go_region_held3 (fun w' => w'.cell? ⟨w.heap.size, 0, none⟩ = some (.slice (some ⟨b, off, none⟩) (p + 1) (p + 1)) ∧ w'.cell? ⟨w.heap.size + 1, 0, none⟩ = some (.string n) ∧ w'.cell? ⟨w.heap.size + 1, 1, none⟩ = some (.string k) ∧ w'.cell? ⟨w.heap.size + 1, 2, none⟩ = some (.int .i64 l))
                (first | exact ⟨c0, c1, c2, c3⟩ | exact ⟨HA4.out.1.1, HA4.out.1.2.1, HA4.out.1.2.2.1, HA4.out.1.2.2.2.1⟩ | exact ⟨cell_far HA4.out.1.1 _ _ (by simp; omega), cell_far HA4.out.1.2.1 _ _ (by simp), cell_far HA4.out.1.2.2.1 _ _ (by simp), cell_far HA4.out.1.2.2.2.1 _ _ (by simp)⟩ | go_keep)
                (first | (go_at_call 21; refine HCC.out.mono ?_; rintro e w4 ⟨ar, cr, rfl, h4, ha4, hne⟩; have HR := Lib.hid h4; have HA4 := Lib.hid ha4; have HNE := Lib.hid hne; have d4 := HA4.out.1.2.2.2.2; have g4 := HA4.out.2.1; clear h4 ha4 hne) | fail)
              all_goals
                have HB4 := Lib.hid HA4.out.2.2.2
                go_wp2
                (try simp only [Exit.inBlock, Exit.then])
                refine bodyPost_ret (v := .tuple #[.agg #[.slice ar N cr], .int .i64 0]) (by rw [results_cell_tmp rfl]; go_simp) rfl ⟨_, rfl, HR.out.set _ _ HNE.out, ?_⟩
                repeat' (first | exact HB4.out | refine Below.setCell ?_ (by simp; omega) _)
            · have hcp' : p + 1 < c := by omega
              have i1 : (0 : Int) ≤ (p : Int) := by omega
              have i2 : (p : Int) ≤ (c : Int) := by omega
              have i3 : (0 : Int) ≤ (p : Int) + 1 := by omega
              have i4 : ((p : Int) + 1).toNat = p + 1 := by omega
              have i5 : (p : Int) + 1 ≤ (xs.length : Int) := by omega
              have i6 : (xs.length : Int) ≤ (c : Int) := by omega
              have i7 : ¬ (c = p + 1) := by omega
              have hel0 := parts_laid (wz.alloc (.cells #[.string n, .string k, .int .i64 l] 28)) 23 [(.slice (some ⟨b, off, none⟩) p c, xs.take p), (.slice (some ⟨wz.heap.size, 0, none⟩) 1 1, [⟨n, k, l⟩]), (.slice (some ⟨b, off + (p + 1) * 3, none⟩) (xs.length - (p + 1)) (c - (p + 1)), xs.drop (p + 1))] 3 rfl (by omega)
              rw [show (wz.alloc (.cells #[.string n, .string k, .int .i64 l] 28)).heap.size = wz.heap.size + 1 by simp] at hel0
              have hel : Elems 1 (fun p => [p.1]) ((wz.alloc (.cells #[.string n, .string k, .int .i64 l] 28)).alloc (.cells #[.slice (some ⟨b, off, none⟩) p c, .slice (some ⟨wz.heap.size, 0, none⟩) 1 1, .slice (some ⟨b, off + (p + 1) * 3, none⟩) (xs.length - (p + 1)) (c - (p + 1))] 23)).drew (.slice (some ⟨wz.heap.size + 1, 0, none⟩) 3 3) [(.slice (some ⟨b, off, none⟩) p c, xs.take p), (.slice (some ⟨wz.heap.size, 0, none⟩) 1 1, [⟨n, k, l⟩]), (.slice (some ⟨b, off + (p + 1) * 3, none⟩) (xs.length - (p + 1)) (c - (p + 1)), xs.drop (p + 1))] := hel0
              have hx0 : Ops ((wz.alloc (.cells #[.string n, .string k, .int .i64 l] 28)).alloc (.cells #[.slice (some ⟨b, off, none⟩) p c, .slice (some ⟨wz.heap.size, 0, none⟩) 1 1, .slice (some ⟨b, off + (p + 1) * 3, none⟩) (xs.length - (p + 1)) (c - (p + 1))] 23)).drew (.slice (some ⟨b, off, none⟩) xs.length c) xs := (H.out.ext HB.out).ext ((bel1' wz (.cells #[.string n, .string k, .int .i64 l] 28)).trans ((bel1' _ (.cells #[.slice (some ⟨b, off, none⟩) p c, .slice (some ⟨wz.heap.size, 0, none⟩) 1 1, .slice (some ⟨b, off + (p + 1) * 3, none⟩) (xs.length - (p + 1)) (c - (p + 1))] 23)).drew.mono (by simp)))
              have ho0 : Ops ((wz.alloc (.cells #[.string n, .string k, .int .i64 l] 28)).alloc (.cells #[.slice (some ⟨b, off, none⟩) p c, .slice (some ⟨wz.heap.size, 0, none⟩) 1 1, .slice (some ⟨b, off + (p + 1) * 3, none⟩) (xs.length - (p + 1)) (c - (p + 1))] 23)).drew (.slice (some ⟨wz.heap.size, 0, none⟩) 1 1) [⟨n, k, l⟩] := (one_laid wz ⟨n, k, l⟩).ext (bel1' _ (.cells #[.slice (some ⟨b, off, none⟩) p c, .slice (some ⟨wz.heap.size, 0, none⟩) 1 1, .slice (some ⟨b, off + (p + 1) * 3, none⟩) (xs.length - (p + 1)) (c - (p + 1))] 23)).drew
              have hcc := concat_add (L := xs.take p ++ (⟨n, k, l⟩ :: xs.drop (p + 1))) (HA3.out.ext ((bel1' wz (.cells #[.string n, .string k, .int .i64 l] 28)).trans ((bel1' _ (.cells #[.slice (some ⟨b, off, none⟩) p c, .slice (some ⟨wz.heap.size, 0, none⟩) 1 1, .slice (some ⟨b, off + (p + 1) * 3, none⟩) (xs.length - (p + 1)) (c - (p + 1))] 23)).drew.mono (by simp)))) hel
                (fun q hq => by
                  simp only [List.mem_cons, List.not_mem_nil, or_false] at hq
                  rcases hq with rfl | rfl | rfl
                  · exact hx0.take p (by omega)
                  · exact ho0
                  · exact hx0.drop (p + 1) (by omega)) (by simp) (by simp) (by simp; omega)
              rw [hN] at hcc
              have HCC := Lib.hid hcc
              clear hcc hel hel0 hx0 ho0
              go_wp2_with fail
              go_region_held3 (fun w' => w'.cell? ⟨w.heap.size, 0, none⟩ = some (.slice (some ⟨b, off, none⟩) xs.length c) ∧ w'.cell? ⟨w.heap.size + 1, 0, none⟩ = some (.string n) ∧ w'.cell? ⟨w.heap.size + 1, 1, none⟩ = some (.string k) ∧ w'.cell? ⟨w.heap.size + 1, 2, none⟩ = some (.int .i64 l))
                (first | exact ⟨c0, c1, c2, c3⟩ | exact ⟨HA4.out.1.1, HA4.out.1.2.1, HA4.out.1.2.2.1, HA4.out.1.2.2.2.1⟩ | exact ⟨cell_far HA4.out.1.1 _ _ (by simp; omega), cell_far HA4.out.1.2.1 _ _ (by simp), cell_far HA4.out.1.2.2.1 _ _ (by simp), cell_far HA4.out.1.2.2.2.1 _ _ (by simp)⟩ | go_keep)
                (first | (go_at_call 21; refine HCC.out.mono ?_; rintro e w4 ⟨ar, cr, rfl, h4, ha4, hne⟩; have HR := Lib.hid h4; have HA4 := Lib.hid ha4; have HNE := Lib.hid hne; have d4 := HA4.out.1.2.2.2.2; have g4 := HA4.out.2.1; clear h4 ha4 hne) | fail)
              all_goals
                have HB4 := Lib.hid HA4.out.2.2.2
                go_wp2
                (try simp only [Exit.inBlock, Exit.then])
                refine bodyPost_ret (v := .tuple #[.agg #[.slice ar N cr], .int .i64 0]) (by rw [results_cell_tmp rfl]; go_simp) rfl ⟨_, rfl, HR.out.set _ _ HNE.out, ?_⟩
                repeat' (first | exact HB4.out | refine Below.setCell ?_ (by simp; omega) _)
        · rw [hl] at HAA
          rcases HPC.out with ⟨rfl, hno⟩ | ⟨p, x, rfl, hx, hxa, hno⟩
          · obtain rfl : re = ([], 13) := by rw [← HAA.out]; rfl
            clear HAA
            go_wp2
            (try simp only [Exit.inBlock, Exit.then])
            refine bodyPost_ret (v := .tuple #[.agg #[.slice .none 0 0], .int .i64 13]) (by rw [results_cell_tmp rfl]; go_simp) rfl ⟨_, rfl, ops_none _, ?_⟩
            repeat' (first | exact HB.out | refine Below.setCell ?_ (by simp; omega) _)
          · have hp := (List.getElem?_eq_some_iff.1 hx).1
            have hz0 : decide ((p : Int) < 0) = false := by simp
            obtain rfl : re = (xs.take p ++ xs.drop (p + 1), 0) := by
              rw [← HAA.out, hz0]
              rfl
            clear HAA
            obtain ⟨b, off, rfl, hbs, _⟩ := Ops.cells H.out hx
            have hpc : p ≤ c := by omega
            have hwp : IntKind.i64.wrap ((p : Int) + 1) = (p : Int) + 1 := by rw [IntKind.wrap_i64]; omega
            obtain ⟨N, hN⟩ : ∃ N, (xs.take p ++ xs.drop (p + 1)).length = N := ⟨_, rfl⟩
            by_cases hcp : c = p + 1
            · obtain rfl : c = p + 1 := hcp
              have hxl : xs.length = p + 1 := by omega
              rw [hxl] at H HA3 c0
              have HXL := Lib.hid hxl
              have i1 : (0 : Int) ≤ (p : Int) := by omega
              have i2 : (p : Int) ≤ (p : Int) + 1 := by omega
              have i3 : (0 : Int) ≤ (p : Int) + 1 := by omega
              have i4 : ((p : Int) + 1).toNat = p + 1 := by omega
              have hel : Elems 1 (fun p => [p.1]) (wz.alloc (.cells #[.slice (some ⟨b, off, none⟩) p (p + 1), .slice (some ⟨b, off, none⟩) 0 0] 23)).drew (.slice (some ⟨wz.heap.size, 0, none⟩) 2 2) [(.slice (some ⟨b, off, none⟩) p (p + 1), xs.take p), (.slice (some ⟨b, off, none⟩) 0 0, xs.drop (p + 1))] := parts_laid wz 23 [(.slice (some ⟨b, off, none⟩) p (p + 1), xs.take p), (.slice (some ⟨b, off, none⟩) 0 0, xs.drop (p + 1))] 2 rfl (by omega)
              have hx0 : Ops (wz.alloc (.cells #[.slice (some ⟨b, off, none⟩) p (p + 1), .slice (some ⟨b, off, none⟩) 0 0] 23)).drew (.slice (some ⟨b, off, none⟩) (p + 1) (p + 1)) xs := (H.out.ext HB.out).ext (bel1' wz (.cells #[.slice (some ⟨b, off, none⟩) p (p + 1), .slice (some ⟨b, off, none⟩) 0 0] 23)).drew
              have hcc := concat_add (L := xs.take p ++ xs.drop (p + 1)) (HA3.out.ext (bel1' wz (.cells #[.slice (some ⟨b, off, none⟩) p (p + 1), .slice (some ⟨b, off, none⟩) 0 0] 23)).drew) hel
                (fun q hq => by
                  simp only [List.mem_cons, List.not_mem_nil, or_false] at hq
                  rcases hq with rfl | rfl
                  · exact hx0.take p (by omega)
                  · exact by rw [List.drop_of_length_le (by omega)]; exact ops_zero _ _ _ (by unfold maxLen; omega)) (by simp) (by simp) (by simp; omega)
              rw [hN] at hcc
              have HCC := Lib.hid hcc
              clear hcc hel hx0
              go_wp2_with fail
              go_region_held3 (fun w' => w'.cell? ⟨w.heap.size, 0, none⟩ = some (.slice (some ⟨b, off, none⟩) (p + 1) (p + 1))) (first | assumption | exact HA4.out.1.1 | exact cell_far HA4.out.1.1 _ _ (by simp; omega) | go_keep)
                (first | (go_at_call 21; refine HCC.out.mono ?_; rintro e w4 ⟨ar, cr, rfl, h4, ha4, hne⟩; have HR := Lib.hid h4; have HA4 := Lib.hid ha4; have HNE := Lib.hid hne; have d4 := HA4.out.1.2.2.2.2; have g4 := HA4.out.2.1; clear h4 ha4 hne) | fail)
              all_goals
                have HB4 := Lib.hid HA4.out.2.2.2
                go_wp2
                (try simp only [Exit.inBlock, Exit.then])
                refine bodyPost_ret (v := .tuple #[.agg #[.slice ar N cr], .int .i64 0]) (by rw [results_cell_tmp rfl]; go_simp) rfl ⟨_, rfl, HR.out.set _ _ HNE.out, ?_⟩
                repeat' (first | exact HB4.out | refine Below.setCell ?_ (by simp; omega) _)
            · have hcp' : p + 1 < c := by omega
              have i1 : (0 : Int) ≤ (p : Int) := by omega
              have i2 : (p : Int) ≤ (c : Int) := by omega
              have i3 : (0 : Int) ≤ (p : Int) + 1 := by omega
              have i4 : ((p : Int) + 1).toNat = p + 1 := by omega
              have i5 : (p : Int) + 1 ≤ (xs.length : Int) := by omega
              have i6 : (xs.length : Int) ≤ (c : Int) := by omega
              have i7 : ¬ (c = p + 1) := by omega
              have hel : Elems 1 (fun p => [p.1]) (wz.alloc (.cells #[.slice (some ⟨b, off, none⟩) p c, .slice (some ⟨b, off + (p + 1) * 3, none⟩) (xs.length - (p + 1)) (c - (p + 1))] 23)).drew (.slice (some ⟨wz.heap.size, 0, none⟩) 2 2) [(.slice (some ⟨b, off, none⟩) p c, xs.take p), (.slice (some ⟨b, off + (p + 1) * 3, none⟩) (xs.length - (p + 1)) (c - (p + 1)), xs.drop (p + 1))] := parts_laid wz 23 [(.slice (some ⟨b, off, none⟩) p c, xs.take p), (.slice (some ⟨b, off + (p + 1) * 3, none⟩) (xs.length - (p + 1)) (c - (p + 1)), xs.drop (p + 1))] 2 rfl (by omega)
              have hx0 : Ops (wz.alloc (.cells #[.slice (some ⟨b, off, none⟩) p c, .slice (some ⟨b, off + (p + 1) * 3, none⟩) (xs.length - (p + 1)) (c - (p + 1))] 23)).drew (.slice (some ⟨b, off, none⟩) xs.length c) xs := (H.out.ext HB.out).ext (bel1' wz (.cells #[.slice (some ⟨b, off, none⟩) p c, .slice (some ⟨b, off + (p + 1) * 3, none⟩) (xs.length - (p + 1)) (c - (p + 1))] 23)).drew
              have hcc := concat_add (L := xs.take p ++ xs.drop (p + 1)) (HA3.out.ext (bel1' wz (.cells #[.slice (some ⟨b, off, none⟩) p c, .slice (some ⟨b, off + (p + 1) * 3, none⟩) (xs.length - (p + 1)) (c - (p + 1))] 23)).drew) hel
                (fun q hq => by
                  simp only [List.mem_cons, List.not_mem_nil, or_false] at hq
                  rcases hq with rfl | rfl
                  · exact hx0.take p (by omega)
                  · exact hx0.drop (p + 1) (by omega)) (by simp) (by simp) (by simp; omega)
              rw [hN] at hcc
              have HCC := Lib.hid hcc
              clear hcc hel hx0
              go_wp2_with fail
              go_region_held3 (fun w' => w'.cell? ⟨w.heap.size, 0, none⟩ = some (.slice (some ⟨b, off, none⟩) xs.length c)) (first | assumption | exact HA4.out.1.1 | exact cell_far HA4.out.1.1 _ _ (by simp; omega) | go_keep)
                (first | (go_at_call 21; refine HCC.out.mono ?_; rintro e w4 ⟨ar, cr, rfl, h4, ha4, hne⟩; have HR := Lib.hid h4; have HA4 := Lib.hid ha4; have HNE := Lib.hid hne; have d4 := HA4.out.1.2.2.2.2; have g4 := HA4.out.2.1; clear h4 ha4 hne) | fail)
              all_goals
                have HB4 := Lib.hid HA4.out.2.2.2
                go_wp2
                (try simp only [Exit.inBlock, Exit.then])
                refine bodyPost_ret (v := .tuple #[.agg #[.slice ar N cr], .int .i64 0]) (by rw [results_cell_tmp rfl]; go_simp) rfl ⟨_, rfl, HR.out.set _ _ HNE.out, ?_⟩
                repeat' (first | exact HB4.out | refine Below.setCell ?_ (by simp; omega) _)
    · obtain rfl : re = ([], 8) := by rw [← hA]; rfl
      clear hA HM HSI HP HG
      obtain ⟨⟨c0, c1, c2, c3, c4⟩, f4, hsz, hbw⟩ := HA1.out
      have HB := Lib.hid hbw; clear hbw
      go_wp2
      (try simp only [Exit.inBlock, Exit.then])
      refine bodyPost_ret (v := .tuple #[.agg #[.slice .none 0 0], .int .i64 8]) (by rw [results_cell_tmp rfl]; go_simp) rfl ⟨_, rfl, ops_none _, ?_⟩
      repeat' (first | exact HB.out | refine Below.setCell ?_ (by simp; omega) _)
end Go.Proofs.Ythalpdjnclfleaa
