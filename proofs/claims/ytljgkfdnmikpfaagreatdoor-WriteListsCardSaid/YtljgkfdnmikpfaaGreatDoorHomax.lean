import Derived.Test.YtljgkfdnmikpfaaGreatDoorHomaq
import Derived.Test.YtljgkfdnmikpfaaGreatDoorHomaw
import Derived.Test.YtljgkfdnmikpfaaGreatDoorHomaf
import Derived.Lib.LaidTab
import Derived.Test.YtljgkfdnmikpfaaGreatDoorHomaa
set_option linter.unusedVariables false
set_option linter.unusedSimpArgs false
/- A list of atoms is written as its items in brackets: the law's walk. -/
namespace Go.Proofs.YtljgkfdnmikpfaaGreatDoor
open Go.Shelf Go.RowKit
set_option linter.unusedVariables false
set_option maxRecDepth 100000

abbrev atP (s : ByteArray) : TmP := (atT s, .slice none 0 0)
theorem take_next' {α β : Type} {f : α → β} {l : List α} {k : Nat} {x : α} (h : l[k]? = some x) : (l.take (k + 1)).map f = (l.take k).map f ++ [f x] := by rw [List.take_add_one, h, List.map_append]; rfl
theorem o_parts (o : O) : ∃ n k l, o = ⟨n, k, l⟩ := by cases o; exact ⟨_, _, _, rfl⟩
set_option maxHeartbeats 16000000 in
theorem lists9_at {w : World} (hc : Con w) {l : List ByteArray} {vl : Value} (hl : Strs w vl l) (tail : Bool) : Calls Tryz.prog 12 #[vl, .bool tail] w fun e w' => e = .returned (.bool true) ∧ Below w.heap.size w w' := by
  obtain ⟨al, cl, rfl, hl1, hl2, hl3, hl4, hl5⟩ := hl
  obtain ⟨n, hn⟩ : ∃ n, l.length = n := ⟨_, rfl⟩
  rw [hn] at hl1 hl3 ⊢
  unfold maxLen at hl2
  have HN := Lib.hid hn
  have HC := Lib.hid hc
  have HS4 := Lib.hid hl4
  have HS5 := Lib.hid hl5
  have HAW := Lib.hid (awake9_at hc)
  clear hc hl4 hl5 hn
  by_cases hs1 : n < 1
  · have hd : decide ((n : Int) < (1 : Int)) = true := decide_eq_true (by omega)
    go_enter Tryz.func12, Tryz.ntmps12
    (go_wp2_with fail; go_fit (HAW.out); rintro e w1 ⟨rfl, hb1⟩)
    go_wp2
    go_ret
    exact ⟨rfl, hb1⟩
  have hd1 : decide ((n : Int) < (1 : Int)) = false := decide_eq_false (by omega)
  by_cases hs2 : 30 < n
  · have hd : decide ((30 : Int) < (n : Int)) = true := decide_eq_true (by omega)
    go_enter Tryz.func12, Tryz.ntmps12
    (go_wp2_with fail; go_fit (HAW.out); rintro e w1 ⟨rfl, hb1⟩)
    go_wp2
    go_ret
    exact ⟨rfl, hb1⟩
  have hd2 : decide ((30 : Int) < (n : Int)) = false := decide_eq_false (by omega)
  obtain ⟨i0, hi0, hz0, hs0, hb0⟩ := info_parts infoTerm
  go_enter Tryz.func12, Tryz.ntmps12
  (go_wp2_with fail; go_fit (HAW.out); rintro e w1 ⟨rfl, hb1⟩)
  have HB1 := Lib.hid hb1
  clear hb1 HAW
  go_wp2_with fail
  go_loopw [5, 6, 7] (fun vt vs vi wr => ∃ (j c : Nat) (a : Option Addr) (tx : ByteArray), j ≤ n ∧ vi = .int .i64 j ∧ vt = .slice a j c ∧ vs = .string tx ∧ Hid (bl tx = 91 :: rowW qW ((l.take j).map atT)) ∧ Hid (∀ s ∈ l.take j, noOps opsB s ∧ goodT (atT s) = true) ∧ Hid (RowP wr w.heap.size 27 (.slice a j c) ((l.take j).map atP)) ∧ Hid (Below w.heap.size w wr))
    (fun _ _ vi _ => n - (intOf vi).toNat)
  case atStart => exact ⟨0, 0, none, ⟨#[91]⟩, Nat.zero_le _, rfl, rfl, rfl, Lib.hid rfl, Lib.hid (fun s hs => by simp at hs), Lib.hid (World.ownsRow_nil _ _ _ _), HB1⟩
  case round =>
    obtain ⟨j, c, a, tx, hj, rfl, rfl, rfl, HTX, HOK, HRW, HB⟩ := hrel
    by_cases hlt : j < n
    · have hd : decide ((j : Int) < (n : Int)) = true := decide_eq_true (by omega)
      obtain ⟨x, hx⟩ : ∃ x, l[j]? = some x := ⟨_, List.getElem?_eq_getElem (by rw [HN.out]; exact hlt)⟩
      have hxs := HS4.out x (List.mem_of_getElem? hx)
      obtain ⟨b, off, rfl, hbl, hcell⟩ : ∃ b off, al = some ⟨b, off, none⟩ ∧ b < w.heap.size ∧ w.cell? ⟨b, off + j, none⟩ = some (.string x) := by
        rcases HS5.out with h | ⟨b, off, h1, h2, h3⟩
        · rw [h] at hx; simp at hx
        · exact ⟨b, off, h1, h2, h3 j x hx⟩
      have HX := Lib.hid hx
      have HCL := Lib.hid (fun (wq : World) (hq : Below wr.heap.size wr wq) => cell_later hq (cell_later HB.out hcell))
      have c0 := cell_later HB.out hcell
      clear hx hcell
      by_cases h20 : 20 < x.size
      · have hdx : decide ((20 : Int) < (x.size : Int)) = true := decide_eq_true (by omega)
        go_wp2
        go_ret
        exact ⟨rfl, HB.out⟩
      have hdx : decide ((20 : Int) < (x.size : Int)) = false := decide_eq_false (by omega)
      (go_wp2_with fail; go_fit (atom_at _ x); rintro e w2 ⟨rfl, hb2⟩)
      have HG := Good_at (atT x) w2 _ (leaf_tm w2 i64_2 i64_0 hxs)
      have c0 := HCL.out _ hb2
      have B2 := Lib.hid hb2
      clear hb2
      cases hgd : goodT (atT x)
      case false =>
        rw [hgd] at HG
        (go_wp2_with fail; go_fit (HG); rintro e w3 ⟨rfl, hb3⟩)
        go_wp2
        go_ret
        exact ⟨rfl, Ext.trans' HB.out (Ext.trans' B2.out hb3)⟩
      rw [hgd] at HG
      have HGD := Lib.hid hgd
      clear hgd
      (go_wp2_with fail; go_fit (HG); rintro e w3 ⟨rfl, hb3⟩)
      have BW := Lib.hid (Ext.trans' B2.out hb3)
      have c0 := HCL.out _ BW.out
      clear hb3 HG
      obtain ⟨bi, hbi⟩ : ∃ b, (oneB opsB (bl x) 2).2 = b := ⟨_, rfl⟩
      obtain ⟨bp, hbp⟩ : ∃ b, (oneB opsB (bl x) 1).2 = b := ⟨_, rfl⟩
      obtain ⟨n1, k1, l1, ho1⟩ := o_parts (oneB opsB (bl x) 2).1
      obtain ⟨n2, k2, l2, ho2⟩ := o_parts (oneB opsB (bl x) 1).1
      have HBI := Lib.hid (fun (wq : World) (v : Value) (h : Ops wq v opsB) => (show Calls Tryz.prog 37 #[.agg #[v], .string x] wq fun e w' => e = .returned (.tuple #[.agg #[.string n1, .string k1, .int .i64 l1], .bool bi]) ∧ Below wq.heap.size wq w' from by have := in_walk h x; rw [ho1, hbi] at this; exact this))
      have HBP := Lib.hid (fun (wq : World) (v : Value) (h : Ops wq v opsB) => (show Calls Tryz.prog 38 #[.agg #[v], .string x] wq fun e w' => e = .returned (.tuple #[.agg #[.string n2, .string k2, .int .i64 l2], .bool bp]) ∧ Below wq.heap.size wq w' from by have := pre_walk h x; rw [ho2, hbp] at this; exact this))
      have HFB := Lib.hid (And.intro hbi hbp)
      clear hbi hbp ho1 ho2
      go_upto_region 12 with fail
      go_cut [8, 9] from 51 to 59 (fun u8 u9 wx => u9 = .bool bi ∧ Hid (Below wr.heap.size wr wx))
      case first =>
        refine wp_region_held_drew (S := fun w' => w'.cell? ⟨b, off + j, none⟩ = some (.string x) ∧ Below wr.heap.size wr w') (by kernel_rfl) ⟨HCL.out _ BW.out.drew, BW.out.drew⟩ (fun hHeld => ?_)
        first | (refine held_t (i := 1) hHeld ?_; apply Exists.intro; refine ⟨fun wq hq => ?_, ?_⟩; (focus ((try dsimp only at hq); go_simp; (first | done | with_reducible rfl | fail)))) | refine held_s (i := 1) hHeld ?_ | fail
        first | (refine held_t (i := 2) hHeld ?_; apply Exists.intro; refine ⟨fun wq hq => ?_, ?_⟩; (focus ((try dsimp only at hq); go_simp; (first | done | with_reducible rfl | fail)))) | refine held_s (i := 2) hHeld ?_ | fail
        first | (refine held_t (i := 3) hHeld ?_; apply Exists.intro; refine ⟨fun wq hq => ?_, ?_⟩; (focus ((try dsimp only at hq); go_simp; (first | done | with_reducible rfl | fail)))) | refine held_s (i := 3) hHeld ?_ | fail
        first | (refine held_t (i := 4) hHeld ?_; apply Exists.intro; refine ⟨fun wq hq => ?_, ?_⟩; (focus ((try dsimp only at hq); go_simp; (first | done | with_reducible rfl | fail)))) | refine held_s (i := 4) hHeld ?_ | fail
        try simp only [Act.put, List.setIfInBounds_toArray, List.set_cons_zero, List.set_cons_succ]
        refine wpAnyH_ready (rs := [0, 9]) (by kernel_rfl) (by simp) ?_
        refine AllReadyH.cons (by simp only [List.getElem?_toArray, List.getElem?_cons_zero, List.getElem?_cons_succ]; rfl) (fun K hK => ?_) (AllReadyH.cons (by simp only [List.getElem?_toArray, List.getElem?_cons_zero, List.getElem?_cons_succ]; rfl) (fun K hK => ?_) AllReadyH.nil)
        · go_simp
          (go_at_call 17; refine (plain_walk _).mono ?_; rintro e wA ⟨vA, rfl, oA, hbA⟩; obtain ⟨aA, cA, rfl, lA, mA⟩ := oA.form; clear lA mA)
          refine hK.out _ _ (⟨cell_later hbA hHeld.1, Ext.trans' hHeld.2 hbA⟩) (fun hHeld => ?_)
          clear hK K
          try simp only [Act.put, List.setIfInBounds_toArray, List.set_cons_zero, List.set_cons_succ]
          refine wpAnyH_ready (rs := [5, 9]) (by kernel_rfl) (by simp) ?_
          refine AllReadyH.cons (by simp only [List.getElem?_toArray, List.getElem?_cons_zero, List.getElem?_cons_succ]; rfl) (fun K hK => ?_) (AllReadyH.cons (by simp only [List.getElem?_toArray, List.getElem?_cons_zero, List.getElem?_cons_succ]; rfl) (fun K hK => ?_) AllReadyH.nil)
          · go_simp
            (go_at_call 37; refine (HBI.out _ _ oA).mono ?_; rintro e wB ⟨rfl, hbB⟩)
            refine hK.out _ _ (⟨cell_later hbB hHeld.1, Ext.trans' hHeld.2 hbB⟩) (fun hHeld => ?_)
            clear hK K
            try simp only [Act.put, List.setIfInBounds_toArray, List.set_cons_zero, List.set_cons_succ]
            have hS4 := hHeld
            first | (refine held_t (i := 6) hHeld ?_; apply Exists.intro; refine ⟨fun wq hq => ?_, ?_⟩; (focus ((try dsimp only at hq); go_simp; (first | done | with_reducible rfl | fail)))) | refine held_s (i := 6) hHeld ?_ | fail
            first | (refine held_t (i := 7) hHeld ?_; apply Exists.intro; refine ⟨fun wq hq => ?_, ?_⟩; (focus ((try dsimp only at hq); go_simp; (first | done | with_reducible rfl | fail)))) | refine held_s (i := 7) hHeld ?_ | fail
            first | (refine held_t (i := 8) hHeld ?_; apply Exists.intro; refine ⟨fun wq hq => ?_, ?_⟩; (focus ((try dsimp only at hq); go_simp; (first | done | with_reducible rfl | fail)))) | refine held_s (i := 8) hHeld ?_ | fail
            try simp only [Act.put, List.setIfInBounds_toArray, List.set_cons_zero, List.set_cons_succ]
            refine held_c 9 fun K hK => ?_
            go_simp
            skip
            refine hK.out _ _ (⟨cell_later (bel1' _ _) hHeld.1, Ext.trans' hHeld.2 (bel1' _ _)⟩) (fun hHeld => ?_)
            clear hK K
            try simp only [Act.put, List.setIfInBounds_toArray, List.set_cons_zero, List.set_cons_succ]
            refine held_c 10 fun K hK => ?_
            go_simp
            skip
            refine hK.out _ _ (⟨cell_later (bel1' _ _) hS4.1, Ext.trans' hS4.2 (bel1' _ _)⟩) (fun hHeld => ?_)
            clear hK K
            try simp only [Act.put, List.setIfInBounds_toArray, List.set_cons_zero, List.set_cons_succ]
            first | (refine held_t (i := 11) hHeld ?_; apply Exists.intro; refine ⟨fun wq hq => ?_, ?_⟩; (focus ((try dsimp only at hq); go_simp; (first | done | with_reducible rfl | fail)))) | refine held_s (i := 11) hHeld ?_ | fail
            try simp only [Act.put, List.setIfInBounds_toArray, List.set_cons_zero, List.set_cons_succ]
            refine wpAnyH_done (by kernel_rfl) ?_ _
            have hBl := Lib.hid hHeld.2
            clear hHeld
            go_wp2
            all_goals go_meet
            exact ⟨rfl, hBl⟩
          · have hneX : b ≠ wA.heap.size := by have h1 := hHeld.2.size; have h2 := HB.out.size; omega
            have hleX : wr.heap.size ≤ wA.heap.size := hHeld.2.size
            go_simp
            skip
            refine hK.out _ _ (⟨cell_later (bel1' _ _) hHeld.1, Ext.trans' hHeld.2 (bel1' _ _)⟩) (fun hHeld => ?_)
            clear hK K
            try simp only [Act.put, List.setIfInBounds_toArray, List.set_cons_zero, List.set_cons_succ]
            refine held_c 5 fun K hK => ?_
            go_simp
            (go_at_call 37; refine (HBI.out _ _ (Elems.ext oA (bel1' _ _))).mono ?_; rintro e wB ⟨rfl, hbB⟩; have hbx : Box wB wA.heap.size [.string ⟨#[]⟩, .string ⟨#[]⟩, .int .i64 0] := wbox_ext_new wA _ _ hbB; obtain ⟨e0, e1, e2, ef⟩ := hbx.three)
            refine hK.out _ _ (⟨cell_later hbB hHeld.1, Ext.trans' hHeld.2 hbB⟩) (fun hHeld => ?_)
            clear hK K
            try simp only [Act.put, List.setIfInBounds_toArray, List.set_cons_zero, List.set_cons_succ]
            first | (refine held_t (i := 6) hHeld ?_; apply Exists.intro; refine ⟨fun wq hq => ?_, ?_⟩; (focus ((try dsimp only at hq); go_simp; (first | done | with_reducible rfl | fail)))) | refine held_s (i := 6) hHeld ?_ | fail
            first | (refine held_t (i := 7) hHeld ?_; apply Exists.intro; refine ⟨fun wq hq => ?_, ?_⟩; (focus ((try dsimp only at hq); go_simp; (first | done | with_reducible rfl | fail)))) | refine held_s (i := 7) hHeld ?_ | fail
            first | (refine held_t (i := 8) hHeld ?_; apply Exists.intro; refine ⟨fun wq hq => ?_, ?_⟩; (focus ((try dsimp only at hq); go_simp; (first | done | with_reducible rfl | fail)))) | refine held_s (i := 8) hHeld ?_ | fail
            try simp only [Act.put, List.setIfInBounds_toArray, List.set_cons_zero, List.set_cons_succ]
            refine held_c 10 fun K hK => ?_
            go_simp
            skip
            refine hK.out _ _ (⟨far3 hHeld.1 hneX _ _ _, Below.set3 hHeld.2 hleX _ _ _⟩) (fun hHeld => ?_)
            clear hK K
            try simp only [Act.put, List.setIfInBounds_toArray, List.set_cons_zero, List.set_cons_succ]
            first | (refine held_t (i := 11) hHeld ?_; apply Exists.intro; refine ⟨fun wq hq => ?_, ?_⟩; (focus ((try dsimp only at hq); go_simp; (first | done | with_reducible rfl | fail)))) | refine held_s (i := 11) hHeld ?_ | fail
            try simp only [Act.put, List.setIfInBounds_toArray, List.set_cons_zero, List.set_cons_succ]
            refine wpAnyH_done (by kernel_rfl) ?_ _
            have hBl := Lib.hid hHeld.2
            clear hHeld
            go_wp2
            all_goals go_meet
            exact ⟨rfl, hBl⟩
        · have hneX : b ≠ w3.heap.size := by have h1 := BW.out.size; have h2 := HB.out.size; omega
          have hleX : wr.heap.size ≤ w3.heap.size := BW.out.size
          go_simp
          skip
          refine hK.out _ _ (⟨cell_later (bel1' _ _) hHeld.1, Ext.trans' hHeld.2 (bel1' _ _)⟩) (fun hHeld => ?_)
          clear hK K
          try simp only [Act.put, List.setIfInBounds_toArray, List.set_cons_zero, List.set_cons_succ]
          refine held_c 0 fun K hK => ?_
          go_simp
          (go_at_call 17; refine (plain_walk _).mono ?_; rintro e wA ⟨vA, rfl, oA, hbA⟩; obtain ⟨aA, cA, rfl, lA, mA⟩ := oA.form; clear lA mA)
          refine hK.out _ _ (⟨cell_later hbA hHeld.1, Ext.trans' hHeld.2 hbA⟩) (fun hHeld => ?_)
          clear hK K
          try simp only [Act.put, List.setIfInBounds_toArray, List.set_cons_zero, List.set_cons_succ]
          refine held_c 5 fun K hK => ?_
          go_simp
          (go_at_call 37; refine (HBI.out _ _ oA).mono ?_; rintro e wB ⟨rfl, hbB⟩; have hbx : Box wB w3.heap.size [.string ⟨#[]⟩, .string ⟨#[]⟩, .int .i64 0] := wbox_ext_new w3.drew _ _ (Ext.trans' hbA hbB); obtain ⟨e0, e1, e2, ef⟩ := hbx.three)
          refine hK.out _ _ (⟨cell_later hbB hHeld.1, Ext.trans' hHeld.2 hbB⟩) (fun hHeld => ?_)
          clear hK K
          try simp only [Act.put, List.setIfInBounds_toArray, List.set_cons_zero, List.set_cons_succ]
          first | (refine held_t (i := 6) hHeld ?_; apply Exists.intro; refine ⟨fun wq hq => ?_, ?_⟩; (focus ((try dsimp only at hq); go_simp; (first | done | with_reducible rfl | fail)))) | refine held_s (i := 6) hHeld ?_ | fail
          first | (refine held_t (i := 7) hHeld ?_; apply Exists.intro; refine ⟨fun wq hq => ?_, ?_⟩; (focus ((try dsimp only at hq); go_simp; (first | done | with_reducible rfl | fail)))) | refine held_s (i := 7) hHeld ?_ | fail
          first | (refine held_t (i := 8) hHeld ?_; apply Exists.intro; refine ⟨fun wq hq => ?_, ?_⟩; (focus ((try dsimp only at hq); go_simp; (first | done | with_reducible rfl | fail)))) | refine held_s (i := 8) hHeld ?_ | fail
          try simp only [Act.put, List.setIfInBounds_toArray, List.set_cons_zero, List.set_cons_succ]
          refine held_c 10 fun K hK => ?_
          go_simp
          skip
          refine hK.out _ _ (⟨far3 hHeld.1 hneX _ _ _, Below.set3 hHeld.2 hleX _ _ _⟩) (fun hHeld => ?_)
          clear hK K
          try simp only [Act.put, List.setIfInBounds_toArray, List.set_cons_zero, List.set_cons_succ]
          first | (refine held_t (i := 11) hHeld ?_; apply Exists.intro; refine ⟨fun wq hq => ?_, ?_⟩; (focus ((try dsimp only at hq); go_simp; (first | done | with_reducible rfl | fail)))) | refine held_s (i := 11) hHeld ?_ | fail
          try simp only [Act.put, List.setIfInBounds_toArray, List.set_cons_zero, List.set_cons_succ]
          refine wpAnyH_done (by kernel_rfl) ?_ _
          have hBl := Lib.hid hHeld.2
          clear hHeld
          go_wp2
          all_goals go_meet
          exact ⟨rfl, hBl⟩
      case rest =>
        obtain ⟨rfl, BX⟩ := hcut
        go_upto_region 13 with fail
        go_cut [10, 11] from 60 to 68 (fun u8 u9 wx => u9 = .bool bp ∧ Hid (Below wr.heap.size wr wx))
        case first =>
          refine wp_region_held_drew (S := fun w' => w'.cell? ⟨b, off + j, none⟩ = some (.string x) ∧ Below wr.heap.size wr w') (by kernel_rfl) ⟨HCL.out _ BX.out.drew, BX.out.drew⟩ (fun hHeld => ?_)
          first | (refine held_t (i := 1) hHeld ?_; apply Exists.intro; refine ⟨fun wq hq => ?_, ?_⟩; (focus ((try dsimp only at hq); go_simp; (first | done | with_reducible rfl | fail)))) | refine held_s (i := 1) hHeld ?_ | fail
          first | (refine held_t (i := 2) hHeld ?_; apply Exists.intro; refine ⟨fun wq hq => ?_, ?_⟩; (focus ((try dsimp only at hq); go_simp; (first | done | with_reducible rfl | fail)))) | refine held_s (i := 2) hHeld ?_ | fail
          first | (refine held_t (i := 3) hHeld ?_; apply Exists.intro; refine ⟨fun wq hq => ?_, ?_⟩; (focus ((try dsimp only at hq); go_simp; (first | done | with_reducible rfl | fail)))) | refine held_s (i := 3) hHeld ?_ | fail
          first | (refine held_t (i := 4) hHeld ?_; apply Exists.intro; refine ⟨fun wq hq => ?_, ?_⟩; (focus ((try dsimp only at hq); go_simp; (first | done | with_reducible rfl | fail)))) | refine held_s (i := 4) hHeld ?_ | fail
          try simp only [Act.put, List.setIfInBounds_toArray, List.set_cons_zero, List.set_cons_succ]
          refine wpAnyH_ready (rs := [0, 9]) (by kernel_rfl) (by simp) ?_
          refine AllReadyH.cons (by simp only [List.getElem?_toArray, List.getElem?_cons_zero, List.getElem?_cons_succ]; rfl) (fun K hK => ?_) (AllReadyH.cons (by simp only [List.getElem?_toArray, List.getElem?_cons_zero, List.getElem?_cons_succ]; rfl) (fun K hK => ?_) AllReadyH.nil)
          · go_simp
            (go_at_call 17; refine (plain_walk _).mono ?_; rintro e wA ⟨vA, rfl, oA, hbA⟩; obtain ⟨aA, cA, rfl, lA, mA⟩ := oA.form; clear lA mA)
            refine hK.out _ _ (⟨cell_later hbA hHeld.1, Ext.trans' hHeld.2 hbA⟩) (fun hHeld => ?_)
            clear hK K
            try simp only [Act.put, List.setIfInBounds_toArray, List.set_cons_zero, List.set_cons_succ]
            refine wpAnyH_ready (rs := [5, 9]) (by kernel_rfl) (by simp) ?_
            refine AllReadyH.cons (by simp only [List.getElem?_toArray, List.getElem?_cons_zero, List.getElem?_cons_succ]; rfl) (fun K hK => ?_) (AllReadyH.cons (by simp only [List.getElem?_toArray, List.getElem?_cons_zero, List.getElem?_cons_succ]; rfl) (fun K hK => ?_) AllReadyH.nil)
            · go_simp
              (go_at_call 38; refine (HBP.out _ _ oA).mono ?_; rintro e wB ⟨rfl, hbB⟩)
              refine hK.out _ _ (⟨cell_later hbB hHeld.1, Ext.trans' hHeld.2 hbB⟩) (fun hHeld => ?_)
              clear hK K
              try simp only [Act.put, List.setIfInBounds_toArray, List.set_cons_zero, List.set_cons_succ]
              have hS4 := hHeld
              first | (refine held_t (i := 6) hHeld ?_; apply Exists.intro; refine ⟨fun wq hq => ?_, ?_⟩; (focus ((try dsimp only at hq); go_simp; (first | done | with_reducible rfl | fail)))) | refine held_s (i := 6) hHeld ?_ | fail
              first | (refine held_t (i := 7) hHeld ?_; apply Exists.intro; refine ⟨fun wq hq => ?_, ?_⟩; (focus ((try dsimp only at hq); go_simp; (first | done | with_reducible rfl | fail)))) | refine held_s (i := 7) hHeld ?_ | fail
              first | (refine held_t (i := 8) hHeld ?_; apply Exists.intro; refine ⟨fun wq hq => ?_, ?_⟩; (focus ((try dsimp only at hq); go_simp; (first | done | with_reducible rfl | fail)))) | refine held_s (i := 8) hHeld ?_ | fail
              try simp only [Act.put, List.setIfInBounds_toArray, List.set_cons_zero, List.set_cons_succ]
              refine held_c 9 fun K hK => ?_
              go_simp
              skip
              refine hK.out _ _ (⟨cell_later (bel1' _ _) hHeld.1, Ext.trans' hHeld.2 (bel1' _ _)⟩) (fun hHeld => ?_)
              clear hK K
              try simp only [Act.put, List.setIfInBounds_toArray, List.set_cons_zero, List.set_cons_succ]
              refine held_c 10 fun K hK => ?_
              go_simp
              skip
              refine hK.out _ _ (⟨cell_later (bel1' _ _) hS4.1, Ext.trans' hS4.2 (bel1' _ _)⟩) (fun hHeld => ?_)
              clear hK K
              try simp only [Act.put, List.setIfInBounds_toArray, List.set_cons_zero, List.set_cons_succ]
              first | (refine held_t (i := 11) hHeld ?_; apply Exists.intro; refine ⟨fun wq hq => ?_, ?_⟩; (focus ((try dsimp only at hq); go_simp; (first | done | with_reducible rfl | fail)))) | refine held_s (i := 11) hHeld ?_ | fail
              try simp only [Act.put, List.setIfInBounds_toArray, List.set_cons_zero, List.set_cons_succ]
              refine wpAnyH_done (by kernel_rfl) ?_ _
              have hBl := Lib.hid hHeld.2
              clear hHeld
              go_wp2
              all_goals go_meet
              exact ⟨rfl, hBl⟩
            · have hneX : b ≠ wA.heap.size := by have h1 := hHeld.2.size; have h2 := HB.out.size; omega
              have hleX : wr.heap.size ≤ wA.heap.size := hHeld.2.size
              go_simp
              skip
              refine hK.out _ _ (⟨cell_later (bel1' _ _) hHeld.1, Ext.trans' hHeld.2 (bel1' _ _)⟩) (fun hHeld => ?_)
              clear hK K
              try simp only [Act.put, List.setIfInBounds_toArray, List.set_cons_zero, List.set_cons_succ]
              refine held_c 5 fun K hK => ?_
              go_simp
              (go_at_call 38; refine (HBP.out _ _ (Elems.ext oA (bel1' _ _))).mono ?_; rintro e wB ⟨rfl, hbB⟩; have hbx : Box wB wA.heap.size [.string ⟨#[]⟩, .string ⟨#[]⟩, .int .i64 0] := wbox_ext_new wA _ _ hbB; obtain ⟨e0, e1, e2, ef⟩ := hbx.three)
              refine hK.out _ _ (⟨cell_later hbB hHeld.1, Ext.trans' hHeld.2 hbB⟩) (fun hHeld => ?_)
              clear hK K
              try simp only [Act.put, List.setIfInBounds_toArray, List.set_cons_zero, List.set_cons_succ]
              first | (refine held_t (i := 6) hHeld ?_; apply Exists.intro; refine ⟨fun wq hq => ?_, ?_⟩; (focus ((try dsimp only at hq); go_simp; (first | done | with_reducible rfl | fail)))) | refine held_s (i := 6) hHeld ?_ | fail
              first | (refine held_t (i := 7) hHeld ?_; apply Exists.intro; refine ⟨fun wq hq => ?_, ?_⟩; (focus ((try dsimp only at hq); go_simp; (first | done | with_reducible rfl | fail)))) | refine held_s (i := 7) hHeld ?_ | fail
              first | (refine held_t (i := 8) hHeld ?_; apply Exists.intro; refine ⟨fun wq hq => ?_, ?_⟩; (focus ((try dsimp only at hq); go_simp; (first | done | with_reducible rfl | fail)))) | refine held_s (i := 8) hHeld ?_ | fail
              try simp only [Act.put, List.setIfInBounds_toArray, List.set_cons_zero, List.set_cons_succ]
              refine held_c 10 fun K hK => ?_
              go_simp
              skip
              refine hK.out _ _ (⟨far3 hHeld.1 hneX _ _ _, Below.set3 hHeld.2 hleX _ _ _⟩) (fun hHeld => ?_)
              clear hK K
              try simp only [Act.put, List.setIfInBounds_toArray, List.set_cons_zero, List.set_cons_succ]
              first | (refine held_t (i := 11) hHeld ?_; apply Exists.intro; refine ⟨fun wq hq => ?_, ?_⟩; (focus ((try dsimp only at hq); go_simp; (first | done | with_reducible rfl | fail)))) | refine held_s (i := 11) hHeld ?_ | fail
              try simp only [Act.put, List.setIfInBounds_toArray, List.set_cons_zero, List.set_cons_succ]
              refine wpAnyH_done (by kernel_rfl) ?_ _
              have hBl := Lib.hid hHeld.2
              clear hHeld
              go_wp2
              all_goals go_meet
              exact ⟨rfl, hBl⟩
          · have hneX : b ≠ wc.heap.size := by have h1 := BX.out.size; have h2 := HB.out.size; omega
            have hleX : wr.heap.size ≤ wc.heap.size := BX.out.size
            go_simp
            skip
            refine hK.out _ _ (⟨cell_later (bel1' _ _) hHeld.1, Ext.trans' hHeld.2 (bel1' _ _)⟩) (fun hHeld => ?_)
            clear hK K
            try simp only [Act.put, List.setIfInBounds_toArray, List.set_cons_zero, List.set_cons_succ]
            refine held_c 0 fun K hK => ?_
            go_simp
            (go_at_call 17; refine (plain_walk _).mono ?_; rintro e wA ⟨vA, rfl, oA, hbA⟩; obtain ⟨aA, cA, rfl, lA, mA⟩ := oA.form; clear lA mA)
            refine hK.out _ _ (⟨cell_later hbA hHeld.1, Ext.trans' hHeld.2 hbA⟩) (fun hHeld => ?_)
            clear hK K
            try simp only [Act.put, List.setIfInBounds_toArray, List.set_cons_zero, List.set_cons_succ]
            refine held_c 5 fun K hK => ?_
            go_simp
            (go_at_call 38; refine (HBP.out _ _ oA).mono ?_; rintro e wB ⟨rfl, hbB⟩; have hbx : Box wB wc.heap.size [.string ⟨#[]⟩, .string ⟨#[]⟩, .int .i64 0] := wbox_ext_new wc.drew _ _ (Ext.trans' hbA hbB); obtain ⟨e0, e1, e2, ef⟩ := hbx.three)
            refine hK.out _ _ (⟨cell_later hbB hHeld.1, Ext.trans' hHeld.2 hbB⟩) (fun hHeld => ?_)
            clear hK K
            try simp only [Act.put, List.setIfInBounds_toArray, List.set_cons_zero, List.set_cons_succ]
            first | (refine held_t (i := 6) hHeld ?_; apply Exists.intro; refine ⟨fun wq hq => ?_, ?_⟩; (focus ((try dsimp only at hq); go_simp; (first | done | with_reducible rfl | fail)))) | refine held_s (i := 6) hHeld ?_ | fail
            first | (refine held_t (i := 7) hHeld ?_; apply Exists.intro; refine ⟨fun wq hq => ?_, ?_⟩; (focus ((try dsimp only at hq); go_simp; (first | done | with_reducible rfl | fail)))) | refine held_s (i := 7) hHeld ?_ | fail
            first | (refine held_t (i := 8) hHeld ?_; apply Exists.intro; refine ⟨fun wq hq => ?_, ?_⟩; (focus ((try dsimp only at hq); go_simp; (first | done | with_reducible rfl | fail)))) | refine held_s (i := 8) hHeld ?_ | fail
            try simp only [Act.put, List.setIfInBounds_toArray, List.set_cons_zero, List.set_cons_succ]
            refine held_c 10 fun K hK => ?_
            go_simp
            skip
            refine hK.out _ _ (⟨far3 hHeld.1 hneX _ _ _, Below.set3 hHeld.2 hleX _ _ _⟩) (fun hHeld => ?_)
            clear hK K
            try simp only [Act.put, List.setIfInBounds_toArray, List.set_cons_zero, List.set_cons_succ]
            first | (refine held_t (i := 11) hHeld ?_; apply Exists.intro; refine ⟨fun wq hq => ?_, ?_⟩; (focus ((try dsimp only at hq); go_simp; (first | done | with_reducible rfl | fail)))) | refine held_s (i := 11) hHeld ?_ | fail
            try simp only [Act.put, List.setIfInBounds_toArray, List.set_cons_zero, List.set_cons_succ]
            refine wpAnyH_done (by kernel_rfl) ?_ _
            have hBl := Lib.hid hHeld.2
            clear hHeld
            go_wp2
            all_goals go_meet
            exact ⟨rfl, hBl⟩
        case rest =>
          obtain ⟨rfl, BY⟩ := hcut
          cases bi
          case true =>
            go_wp2
            go_ret
            exact ⟨rfl, Ext.trans' HB.out BY.out⟩
          cases bp
          case true =>
            go_wp2
            go_ret
            exact ⟨rfl, Ext.trans' HB.out BY.out⟩
          have hts : tx.size ≤ 3931 := by
            have h1 := lrow_len (W := qW) (k := 130) (l := (l.take j).map atT) (fun y hy => by
              obtain ⟨s, hs, rfl⟩ := List.mem_map.1 hy
              exact head_len [] (atT s))
            have h2 : (bl tx).length = tx.size := bl_len tx
            rw [HTX.out, List.length_cons] at h2
            rw [List.length_map, List.length_take] at h1
            have : min j l.length ≤ 30 := by omega
            omega
          have hqs : (quoteB (bl x)).length ≤ 130 := head_len [] (atT x)
          obtain ⟨ty, hty⟩ : ∃ ty : ByteArray, (if j = 0 then tx else tx ++ ⟨#[44]⟩) = ty := ⟨_, rfl⟩
          have HTY := Lib.hid hty
          have hys : ty.size ≤ 3932 := by
            rw [← hty]
            split
            · omega
            · rw [ByteArray.size_append]; show tx.size + 1 ≤ _; omega
          clear hty
          go_upto_if 74 with fail
          go_cut [6] from 73 to 76 (fun u6 wx => u6 = .string ty ∧ Hid (Below wr.heap.size wr wx))
          case first =>
            by_cases hj0 : j = 0
            · subst hj0
              have hE := HTY.out
              rw [if_pos rfl] at hE
              subst hE
              go_wp2
              all_goals go_meet
              exact ⟨rfl, BY⟩
            · have hd0 : decide ((0 : Int) < (j : Int)) = true := decide_eq_true (by omega)
              have hE := HTY.out
              rw [if_neg hj0] at hE
              have hss : ¬ 9223372036854775807 < 1 + tx.size := by omega
              have hss2 : ¬ 9223372036854775807 < tx.size + 1 := by omega
              go_wp2
              all_goals go_meet
              exact ⟨rfl, BY⟩
          case rest =>
            obtain ⟨rfl, BZ⟩ := hcut
            have c0 := HCL.out _ BZ.out
            (go_wp2_with fail; go_fit (quote_any x _ (HC.out.err.ext (Ext.trans' HB.out BZ.out)) hxs); rintro e w4 ⟨rfl, hb4⟩)
            have B4 := Lib.hid (Ext.trans' BZ.out hb4)
            have c0 := HCL.out _ B4.out
            obtain ⟨tq, htq⟩ : ∃ tq : ByteArray, (⟨(quoteB (bl x)).toArray⟩ : ByteArray) = tq := ⟨_, rfl⟩
            have hqz : tq.size ≤ 130 := by rw [← htq]; simpa [ByteArray.size] using hqs
            rw [htq]
            have HTQ := Lib.hid htq
            have hss : ¬ 9223372036854775807 < ty.size + tq.size := by omega
            have hss2 : ¬ 9223372036854775807 < tq.size + ty.size := by omega
            clear hb4 htq hqs
            (go_wp2_with fail; go_fit (atom_at _ x); rintro e w5 ⟨rfl, hb5⟩)
            have B5 := Lib.hid (Ext.trans' B4.out hb5)
            clear hb5
            have HROW := Lib.hid (show ∀ wq, Below wr.heap.size wr wq → wq.ownsRow w.heap.size 27 4 (.slice a j c) j (((l.take j).map atP).flatMap pCells) from fun wq hq => by
              have h := row_at HRW.out (fun g hg => hq.block g (row_in HRW.out hg).2)
              rw [List.length_map, List.length_take, Nat.min_eq_left (by have := HN.out; omega)] at h
              exact h)
            have hone : ∀ v ∈ pCells (atP x), v.oneCell' = true := fun v hv => by
              simp [pCells] at hv
              rcases hv with rfl | rfl | rfl | rfl <;> rfl
            go_wp2_with (at_builtin; refine wpList_append_k rfl _ _ 25 rfl w.heap.size 27 i0 (.agg #[.int .i64 0, .int .i64 0, .string ⟨#[]⟩, .slice none 0 0]) 4 56 Tryz.underlying25 hi0 hz0 hs0 (by decide) hb0 rfl (.slice a j c) j (((l.take j).map atP).flatMap pCells) rfl (HROW.out _ (Ext.trans' B5.out (bel1' _ _))) (some ⟨w5.heap.size, 0, none⟩) 1 1 (pCells (atP x)) rfl rfl (Or.inr ⟨_, rfl, fun jj u hu => cell_new _ _ _ jj u hu⟩) hone (by unfold maxLen; omega) (by omega) (by have h1 := B5.out.size; have h2 := HB.out.size; simp; omega) (j + 1) _ rfl rfl ?_; intro a7 c7 w7 hown7 hgrow7 hat7)
            have hB7 : Below w.heap.size w w7 := (Ext.trans' HB.out (Ext.trans' B5.out (bel1' _ _))).grown hgrow7 (by have h1 := B5.out.size; have h2 := HB.out.size; simp; omega) (fun g hg => (row_in (HROW.out _ B5.out) hg).1)
            have HB7 := Lib.hid hB7
            have HR7 := Lib.hid (show RowP w7 w.heap.size 27 (.slice a7 (j + 1) c7) ((l.take (j + 1)).map atP) from by
              unfold RowP
              rw [take_next' HX.out, List.flatMap_append, List.length_append, List.length_map, List.length_take, Nat.min_eq_left (by have := HN.out; omega)]
              simpa using hown7)
            have HT7 := Lib.hid (show bl (ty ++ tq) = 91 :: rowW qW ((l.take (j + 1)).map atT) from by
              rw [bl_cat, take_next' HX.out, row_snoc, ← HTY.out, ← HTQ.out]
              by_cases hj0 : j = 0
              · subst hj0
                rw [if_pos rfl, if_pos (by simp), HTX.out]
                rfl
              · have hne : ¬ (l.take j).map atT = [] := fun e => by
                  have := congrArg List.length e
                  rw [List.length_map, List.length_take, Nat.min_eq_left (by have := HN.out; omega)] at this
                  exact hj0 this
                rw [if_neg hj0, if_neg hne, bl_cat, HTX.out]
                show 91 :: (rowW qW ((l.take j).map atT) ++ [44]) ++ quoteB (bl x) = _
                rfl)
            have HO7 := Lib.hid (show ∀ s ∈ l.take (j + 1), noOps opsB s ∧ goodT (atT s) = true from fun s hs => by
              rw [take_next HX.out] at hs
              rcases List.mem_append.1 hs with hs | hs
              · exact HOK.out s hs
              · rw [List.mem_singleton] at hs
                subst hs
                exact ⟨⟨HFB.out.2, HFB.out.1⟩, HGD.out⟩)
            clear hown7 hgrow7 hat7 hB7 HROW hone c0
            go_wp2
            go_roundw
            case rel => exact ⟨j + 1, c7, a7, ty ++ tq, hlt, by go_num, rfl, rfl, HT7, HO7, HR7, HB7⟩
            case measure => simp [intOf]; omega
    · have hjn : j = n := by omega
      subst hjn
      have hd : decide ((j : Int) < (j : Int)) = false := decide_eq_false (by omega)
      have hlj : l.take j = l := List.take_of_length_le (by rw [HN.out]; exact Nat.le_refl _)
      rw [hlj] at HTX HOK HRW
      have hne : l ≠ [] := fun e => by have := HN.out; rw [e] at this; simp at this; omega
      have hok : ∀ s ∈ l, noOps opsB s ∧ formedT (atT s) = true := fun s hs => ⟨(HOK.out s hs).1, (good_parts (HOK.out s hs).2).2.2⟩
      have hrd := list_read (xs := opsB) (by kernel_rfl) hne (by rw [HN.out]; omega) hok tail
      have hgL := list_good (by rw [HN.out]; omega) (fun s hs => (hok s hs).2) tail
      have hwL := write_list (xs := opsB) hne (fun s hs => (hok s hs).1) tail
      have HTM := Lib.hid (show Tms wr (.slice a j c) (l.map atT) from by
        have h := HRW.out.terms (fun p hp => by
          obtain ⟨s, hs, rfl⟩ := List.mem_map.1 hp
          exact leaf_tm wr i64_2 i64_0 (HS4.out s hs)) (by rw [List.length_map, HN.out]; unfold BIG; omega)
        rw [List.map_map] at h
        exact h)
      obtain ⟨L, hL⟩ : ∃ L, listT (l.map atT) (endW tail) = L := ⟨_, rfl⟩
      have HIT := Lib.hid (show ∀ vs, (itemsT (renT vs L)).1.length = j from fun vs => by
        rw [← hL, ren_list, items_list, items_none (by cases tail <;> rfl)]
        show (renL vs (l.map atT) ++ []).length = j
        rw [List.append_nil, renL_len, List.length_map, HN.out])
      rw [hL] at hrd hgL hwL
      have HLL := Lib.hid hL
      have HGL := Lib.hid hgL
      obtain ⟨hlen, hread⟩ := hrd
      obtain ⟨tz, htz⟩ : ∃ tz : ByteArray, (if tail then tx ++ ⟨#[124, 95, 48]⟩ else tx) = tz := ⟨_, rfl⟩
      have hbz : bl tz = 91 :: (rowW qW (l.map atT) ++ tailS tail) := by
        rw [← htz]
        cases tail
        · rw [if_neg (by decide), HTX.out]; show _ = 91 :: (rowW qW (l.map atT) ++ []); rw [List.append_nil]
        · rw [if_pos rfl, bl_cat, HTX.out]; rfl
      have hwz : writeT opsB L = bl tz ++ [93] := by rw [hwL, hbz]; simp
      have hzs : tz.size ≤ 4000 := by
        have h2 : (bl tz).length = tz.size := bl_len tz
        rw [hwz, List.length_append] at hlen
        omega
      have htxs : tx.size ≤ 4000 := by
        rw [← htz] at hzs
        split at hzs
        · rw [ByteArray.size_append] at hzs; omega
        · exact hzs
      have HTZ := Lib.hid htz
      have HWZ := Lib.hid hwz
      have hWT : termTx opsB L = .tuple #[.string (tz ++ ⟨#[93]⟩), .int .i64 0] := by
        show textX (goodB opsB && goodT L) (writeT opsB L) = _
        rw [hgL, show goodB opsB = true from by kernel_rfl, Bool.and_self, textX_ok (by omega), hwz]
        congr 3
      have HWT := Lib.hid hWT
      have hrd2 : readB oneR opsB (bl (tz ++ ⟨#[93, 46]⟩)) = .ok (renT (varsT L []) L, nmsW (varsT L []).length) := by
        rw [bl_cat, ← hread, hwz, List.append_assoc]
        rfl
      have HRD := Lib.hid hrd2
      clear hne hok hwL hL hgL hlen hread htz hbz hwz hWT hrd2 hlj HRW HTX HOK
      obtain ⟨ke, ne, se, hend⟩ : ∃ ke ne se, endW tail = .mk ke ne se [] := by cases tail <;> exact ⟨_, _, _, rfl⟩
      have HEND := Lib.hid hend
      have htv : ∀ wq, TmV wq (endW tail) (.agg #[.int .i64 ke, .int .i64 ne, .string se, .slice none 0 0]) := fun wq => by
        rw [hend]
        cases tail <;> (cases hend; exact leaf_tm wq (by unfold I64; omega) (by unfold I64; omega) (by unfold BIG; decide))
      have HTV := Lib.hid htv
      clear hend htv
      (go_wp2_with fail; go_fit (atom_at wr ⟨#[91, 93]⟩); rintro e w2 ⟨rfl, hb2⟩)
      obtain ⟨w3, hw3, hb3, hz3, hx3⟩ := box_new w2 #[.int .i64 0, .int .i64 0, .string ⟨#[]⟩, .slice none 0 0] 27
      obtain ⟨w4, hw4⟩ : ∃ q, set4 w3 w2.heap.size (.int .i64 2) (.int .i64 0) (.string ⟨#[91, 93]⟩) (.slice none 0 0) = q := ⟨_, rfl⟩
      have hb4 : Below w2.heap.size w2 w4 := hw4 ▸ Below.set4 hb3 (Nat.le_refl _) _ _ _ _
      have B4 := Lib.hid (Ext.trans' hb2 hb4)
      have hX4 : Box w4 w2.heap.size [.int .i64 2, .int .i64 0, .string ⟨#[91, 93]⟩, .slice none 0 0] := hw4 ▸ hx3.all4 _ _ _ _
      have HX4 := Lib.hid hX4
      obtain ⟨q0, q1, q2, q3, qf⟩ := hx3.four
      have B2 := Lib.hid hb2
      have hwle : wr.heap.size ≤ w2.heap.size := hb2.size
      clear hb2 hb3 hz3 hx3 hb4 hX4
      go_upto_if 93 with fail
      (try rw [hw3])
      (try rw [hw4])
      clear hw3 hw4 q0 q1 q2 q3 qf
      go_cut [6] from 93 to 96 (fun u6 wx => u6 = .string tz ∧ Hid (Box wx w2.heap.size [.int .i64 ke, .int .i64 ne, .string se, .slice none 0 0] ∧ Below wr.heap.size wr wx))
      case first =>
        cases tail
        · have he := HEND.out
          unfold endW at he
          rw [if_neg (by decide)] at he
          unfold aT at he
          injection he with e1 e2 e3 _
          have htz : tx = tz := by have := HTZ.out; rw [if_neg (by decide)] at this; exact this
          subst e1
          subst e2
          subst e3
          subst htz
          have HX5 := HX4.out
          clear HEND HTV HTZ
          go_wp2
          all_goals go_meet
          exact ⟨rfl, HX5, B4.out⟩
        · have he := HEND.out
          unfold endW at he
          rw [if_pos rfl] at he
          injection he with e1 e2 e3 _
          have htz : tx ++ ⟨#[124, 95, 48]⟩ = tz := by have := HTZ.out; rw [if_pos rfl] at this; exact this
          subst e1
          subst e2
          subst e3
          subst htz
          have hss : ¬ 9223372036854775807 < tx.size + 3 := by omega
          have hss2 : ¬ 9223372036854775807 < 3 + tx.size := by omega
          clear HEND HTV HTZ hzs
          (go_wp2_with fail; go_fit (var_at w4 5); rintro e w5 ⟨rfl, hb5⟩)
          have HX5 := Lib.hid (HX4.out.ext hb5)
          have HB5 := Lib.hid (Ext.trans' B4.out hb5)
          obtain ⟨b0, b1, b2, b3, bf⟩ := HX5.out.four
          clear hb5
          go_wp2
          all_goals go_meet
          refine ⟨rfl, ?_⟩
          exact ⟨HX5.out.all4 _ _ _ _, Below.set4 HB5.out hwle _ _ _ _⟩
      case rest =>
        obtain ⟨rfl, hbx, hbw⟩ := hcut
        have HBX := Lib.hid hbx
        have HBW := Lib.hid hbw
        have HTC := Lib.hid (HTM.out.ext hbw)
        obtain ⟨c0, c1, c2, c3, cf⟩ := hbx.four
        clear hbx hbw HX4 B4
        go_upto_region 24 with fail
        refine wp_region_held_drew (S := fun w' => (w'.cell? ⟨w2.heap.size, 0, none⟩ = some (.int .i64 ke) ∧ w'.cell? ⟨w2.heap.size, 1, none⟩ = some (.int .i64 ne) ∧ w'.cell? ⟨w2.heap.size, 2, none⟩ = some (.string se) ∧ w'.cell? ⟨w2.heap.size, 3, none⟩ = some (.slice none 0 0)) ∧ Below wc.heap.size wc w') (by kernel_rfl) ⟨⟨c0, c1, c2, c3⟩, (Below.refl _ _).drew⟩ (fun hHeld => ?_)
        first | (refine held_t (i := 1) hHeld ?_; apply Exists.intro; refine ⟨fun wq hq => ?_, ?_⟩; (focus ((try dsimp only at hq); go_simp; (first | done | with_reducible rfl | fail)))) | refine held_s (i := 1) hHeld ?_ | fail
        first | (refine held_t (i := 2) hHeld ?_; apply Exists.intro; refine ⟨fun wq hq => ?_, ?_⟩; (focus ((try dsimp only at hq); go_simp; (first | done | with_reducible rfl | fail)))) | refine held_s (i := 2) hHeld ?_ | fail
        try simp only [Act.put, List.setIfInBounds_toArray, List.set_cons_zero, List.set_cons_succ]
        refine held_c 0 fun K hK => ?_
        go_simp
        (go_at_call 17; refine (plain_walk _).mono ?_; rintro e wA ⟨vA, rfl, oA, hbA⟩)
        refine hK.out _ _ (⟨⟨cell_later hbA hHeld.1.1, cell_later hbA hHeld.1.2.1, cell_later hbA hHeld.1.2.2.1, cell_later hbA hHeld.1.2.2.2⟩, Ext.trans' hHeld.2 hbA⟩) (fun hHeld => ?_)
        clear hK K
        try simp only [Act.put, List.setIfInBounds_toArray, List.set_cons_zero, List.set_cons_succ]
        refine held_c 3 fun K hK => ?_
        go_simp
        (go_at_call 29; refine (list_in (D := fun _ => false) (fun _ _ => rfl) (by rw [hide_none]; exact HTC.out.ext hHeld.2) (by rw [hide_none]; exact HTV.out _)).mono ?_; rw [HLL.out]; rintro e wB ⟨r, rfl, hr, hbB⟩; rw [hide_none] at hr; obtain ⟨kr, nr, sr, ar, mr, cr, rfl⟩ := hr.full; have HR := Lib.hid hr; have HOA := Lib.hid (Elems.ext oA hbB); clear hr)
        refine hK.out _ _ (⟨⟨cell_later hbB hHeld.1.1, cell_later hbB hHeld.1.2.1, cell_later hbB hHeld.1.2.2.1, cell_later hbB hHeld.1.2.2.2⟩, Ext.trans' hHeld.2 hbB⟩) (fun hHeld => ?_)
        clear hK K
        try simp only [Act.put, List.setIfInBounds_toArray, List.set_cons_zero, List.set_cons_succ]
        refine held_c 4 fun K hK => ?_
        go_simp
        (go_at_call 25; refine (wterm_at (HC.out.ext (Ext.trans' HB.out (Ext.trans' HBW.out hHeld.2))) HOA.out HR.out).mono ?_; rw [HWT.out]; rintro e wD ⟨rfl, hbD⟩)
        refine hK.out _ _ (⟨⟨cell_later hbD hHeld.1.1, cell_later hbD hHeld.1.2.1, cell_later hbD hHeld.1.2.2.1, cell_later hbD hHeld.1.2.2.2⟩, Ext.trans' hHeld.2 hbD⟩) (fun hHeld => ?_)
        clear hK K
        try simp only [Act.put, List.setIfInBounds_toArray, List.set_cons_zero, List.set_cons_succ]
        first | (refine held_t (i := 5) hHeld ?_; apply Exists.intro; refine ⟨fun wq hq => ?_, ?_⟩; (focus ((try dsimp only at hq); go_simp; (first | done | with_reducible rfl | fail)))) | refine held_s (i := 5) hHeld ?_ | fail
        first | (refine held_t (i := 6) hHeld ?_; apply Exists.intro; refine ⟨fun wq hq => ?_, ?_⟩; (focus ((try dsimp only at hq); go_simp; (first | done | with_reducible rfl | fail)))) | refine held_s (i := 6) hHeld ?_ | fail
        try simp only [Act.put, List.setIfInBounds_toArray, List.set_cons_zero, List.set_cons_succ]
        first | (refine held_t (i := 7) hHeld ?_; apply Exists.intro; refine ⟨fun wq hq => ?_, ?_⟩; (focus ((try dsimp only at hq); go_simp; (first | done | with_reducible rfl | fail)))) | refine held_s (i := 7) hHeld ?_ | fail
        first | (refine held_t (i := 8) hHeld ?_; apply Exists.intro; refine ⟨fun wq hq => ?_, ?_⟩; (focus ((try dsimp only at hq); go_simp; (first | done | with_reducible rfl | fail)))) | refine held_s (i := 8) hHeld ?_ | fail
        try simp only [Act.put, List.setIfInBounds_toArray, List.set_cons_zero, List.set_cons_succ]
        first | (refine held_t (i := 9) hHeld ?_; apply Exists.intro; refine ⟨fun wq hq => ?_, ?_⟩; (focus ((try dsimp only at hq); go_simp; (first | done | with_reducible rfl | fail)))) | refine held_s (i := 9) hHeld ?_ | fail
        try simp only [Act.put, List.setIfInBounds_toArray, List.set_cons_zero, List.set_cons_succ]
        refine wpAnyH_done (by kernel_rfl) ?_ _
        have HBD := Lib.hid (Ext.trans' HB.out (Ext.trans' HBW.out hHeld.2))
        have hsz2 : (tz ++ ⟨#[93, 46]⟩ : ByteArray).size ≤ 140737488351232 := by rw [ByteArray.size_append]; show tz.size + 2 ≤ _; omega
        have hss : ¬ 9223372036854775807 < tz.size + 2 := by omega
        have hss2 : ¬ 9223372036854775807 < 2 + tz.size := by omega
        have hss3 : ¬ 9223372036854775807 < tz.size + 1 := by omega
        have hss4 : ¬ 9223372036854775807 < 1 + tz.size := by omega
        have hgR := one_good HRD.out
        have hitl := HIT.out (varsT L [])
        obtain ⟨T, hT⟩ : ∃ T, renT (varsT L []) L = T := ⟨_, rfl⟩
        obtain ⟨nm, hnm0⟩ : ∃ nm, nmsW (varsT L []).length = nm := ⟨_, rfl⟩
        have HRD2 := HRD.out
        rw [hT, hnm0] at HRD2
        rw [hT] at hgR hitl
        have HRD3 := Lib.hid HRD2
        have HGR := Lib.hid hgR
        have HITL := Lib.hid hitl
        clear hHeld c0 c1 c2 c3 cf hT hnm0 HRD2 hgR hitl HRD HIT HBX HTC
        go_upto_region 25 with fail
        (go_wp2_with fail; go_fit (plain_walk wD); rintro e wE ⟨vE, rfl, oE, hbE⟩)
        have HBE := Lib.hid (Ext.trans' HBD.out hbE)
        have hOK := oneP_okx HRD3.out hsz2 (HC.out.err.ext HBE.out) oE
        clear hbE oE hsz2
        (go_wp2_with fail; go_fit (hOK); rintro e wF ⟨⟨k7, n7, s7, a7, m7, c7, vn, rfl, htv, hnm⟩, hbF⟩)
        obtain ⟨w8, hw8, hb8, hz8, hx8⟩ := box_new wF #[.int .i64 k7, .int .i64 n7, .string s7, .slice a7 m7 c7] 27
        have HB8 := Lib.hid (Ext.trans' HBE.out (Ext.trans' hbF hb8))
        have HIM := Lib.hid (items_at T w8 _ (TmV.ext hb8 _ _ htv) HGR.out)
        have HW8 := Lib.hid hw8
        obtain ⟨c0, c1, c2, c3, cf⟩ := hx8.four
        clear hOK htv hnm hbF hb8 hz8 hx8 hw8 HBD HBE
        go_upto_region 26 with fail
        rw [HW8.out]
        (go_wp2_with fail; go_fit (HIM.out); rintro e wG ⟨lv, tv, rfl, hlv, htv2, hbG⟩)
        obtain ⟨al2, cl2, rfl, _⟩ := hlv.len
        obtain ⟨k9, n9, s9, a9, m9, c9, rfl⟩ := htv2.full
        rw [HITL.out]
        obtain ⟨w10, hw10, hb10, hz10, hx10⟩ := box_new wG #[.int .i64 k9, .int .i64 n9, .string s9, .slice a9 m9 c9] 27
        have HB10 := Lib.hid (Ext.trans' HB8.out (Ext.trans' hbG hb10))
        have HW10 := Lib.hid hw10
        clear hlv htv2 hbG hb10 hz10 hx10 hw10 HB8 c0 c1 c2 c3 cf HIM HW8
        go_upto_region 27 with fail
        rw [HW10.out]
        go_wp2
        go_ret
        exact ⟨rfl, HB10.out⟩
end Go.Proofs.YtljgkfdnmikpfaaGreatDoor
/- What the cards of this seat share: the package variables of the standard library. -/
namespace Go.Proofs.YtljgkfdnmikpfaaGreatDoor
open Go.Shelf Go.RowKit
set_option linter.unusedVariables false

theorem con_of {l : List (String × DataW Unit)} {w : World} (hl : (l.all fun x => x.2.handleName?.isNone) = true) (hf : l.filter (fun x => x.1 == "internal/strconv.uint64pow10") = [("internal/strconv.uint64pow10", Lib.tabData .u64 Lib.pow10Tab)]) (h : laidMetH Tryz.prog l w) (he : Err w) : Con w := by
  rw [MakeChecks.laidMetH_plain _ _ _ hl] at h
  have h1 := h.filter (fun x => x.1 == "internal/strconv.uint64pow10")
  rw [hf] at h1
  exact ⟨Lib.tabIs_of_head gPow (by kernel_rfl) (t := 227) (e := 207) (n := 20) Tryz.underlying227 Tryz.underlying207 (by kernel_rfl) (by kernel_rfl) h1, he⟩
end Go.Proofs.YtljgkfdnmikpfaaGreatDoor
/- WriteLists, handed in: at every list of names, with a tail or without, the law answers true. The card ties the package variables of the standard library that its row lists. -/
namespace Go.Proofs.YtljgkfdnmikpfaaGreatDoor
open Go.Shelf Go.RowKit
set_option linter.unusedVariables false

theorem lists9_law {w : World} {vl : Value} {l : List ByteArray} (hl : Strs w vl l) (tail : Bool) (hc : Con w) : Calls Tryz.prog 12 #[vl, .bool tail] w fun e w' => e = .returned (.bool true) ∧ Below w.heap.size w w' := lists9_at hc hl tail
theorem ctxWl {w : World} (h : laidMetH Tryz.prog Rows.writeListsRow.laid w) : Con w := con_of (by kernel_rfl) (by kernel_rfl) h (err_of (text := [118, 97, 108, 117, 101, 32, 111, 117, 116, 32, 111, 102, 32, 114, 97, 110, 103, 101]) (by kernel_rfl) (by kernel_rfl) rfl h)
namespace writeLists
open Go.ChangeShapes Go.WideShapes Go.ChangeAt Go.RowKit
theorem own : ownKnob Tryz.prog.godebug = none := by kernel_rfl
theorem laidOut : laidOutB Tryz.prog = true := by kernel_rfl
set_option linter.unusedVariables false
set_option maxRecDepth 100000 in
theorem lifted (os : Os) (started : os.Started) (H : Type) (enc : TypeId × Value → H) :
    ReturnsInHanded {} Tryz.checked os 12 .any (fun w args => (Rows.writeListsSpec.pre enc Tryz.prog Tryz.f12 [] false w args ∧ laidMetH Tryz.prog Rows.writeListsRow.laid w) ∧ sizedMet enc Tryz.prog Tryz.f12 (OpenSpec.ofChange Rows.writeListsSpec) false w args)
      (Rows.writeListsSpec.post enc Tryz.prog Tryz.f12 false true false false) := by
  refine returnsInHanded_of_change_and (C := Tryz.checked) (X := fun w _ => laidMetH Tryz.prog Rows.writeListsRow.laid w) (fun _ _ _ hh h => h.of_heap hh) own started (by kernel_rfl) Tryz.func12
    (ChangeSpec.witness_shaped (enc := enc) (C := Tryz.checked) (os := os) (X := fun w _ => laidMetH Tryz.prog Rows.writeListsRow.laid w) false (World.laidAll Tryz.prog os Rows.writeListsRow.laid) #[.slice none 0 0, .bool false] 8 (World.laidAll_os _ _ _)
      (World.shaped_of_ZipB (by kernel_rfl) (by kernel_rfl)) (by kernel_rfl) (by kernel_rfl) (by kernel_rfl)
      (by rw [MakeChecks.laidMetH_plain _ _ _ (by kernel_rfl)]; exact laidMet_laidAll _ (by kernel_rfl) (by kernel_rfl))) ?_
  intro W base args ds gs before hval0 hW hcnd hsz0 hL _
  have hval : ∀ (j : Nat) t v, Tryz.f12.params[j]? = some t → args[j]? = some v → Value.okWide Tryz.prog W .any base t v := hval0
  have hW' := hW
  obtain ⟨p, q, hA0, hV, rfl, hfz, hnd⟩ := hW
  have hA : DataW.TrodAll enc Tryz.prog W 0 (fun _ => true) true Tryz.f12.params.toList args.toList ds p := hA0
  have hsz : (DataW.weightsEach Tryz.prog (Tryz.f12.params.toList ++ []) (ds ++ gs)).all (· ≤ reachBytes) = true := hsz0
  rw [Tryz.params12] at hA hval hsz
  obtain ⟨v0, vs0, d0, ds0, p0, q0, hargs, rfl, rfl, h0, r0⟩ := trodAll_cons hA
  obtain ⟨v1, vs1, d1, ds1, p1, q1, rfl, rfl, rfl, h1, r1⟩ := trodAll_cons r0
  obtain ⟨rfl, rfl, rfl⟩ := trodAll_nil r1
  obtain rfl : args = #[v0, v1] := by cases args; simp_all
  obtain ⟨rfl, rfl⟩ := trodVars_none hV
  clear hA0 hval0 hsz0
  have k0 := h0
  have lt0 := lt_of_trod h0
  have k1 := h1
  have lt1 := lt_of_trod h1
  obtain ⟨a0, w0⟩ := strs_of_trod Tryz.underlying23 Tryz.underlying9 (by kernel_rfl) (by kernel_rfl) (by obtain ⟨x, y, z, e⟩ := okWide_slice Tryz.underlying23 (hval 0 23 v0 rfl rfl); exact ⟨x, y, z, e⟩) h0 (weights_ok hsz (j := 0) (t := 23) (d := d0) rfl rfl)
  obtain ⟨a1, rfl, rfl, rfl⟩ := open_bool Tryz.underlying4 (hval 1 4 v1 rfl rfl) h1
  refine (lists9_law w0 a1 (ctxWl hL)).mono fun e W' ⟨he, bel⟩ => ?_
  subst he
  exact ⟨_, rfl, _, _, _, [], _, [], hW', trodAll_mk1 (shut_bool Tryz.underlying4 _), (trodAll_cons_mk (Below.trod laidOut (by kernel_rfl) (of_decide_eq_true (by kernel_rfl)) k0 bel lt0) (trodAll_cons_mk (Below.trod laidOut (by kernel_rfl) (of_decide_eq_true (by kernel_rfl)) k1 bel lt1) trodAll_mk0)), rfl, bel.frame _, fun h => by cases h⟩
theorem proved : Rows.WriteListsSaid :=
  OpenClaim.holds_of_wide 12 Tryz.f12 rfl rfl rfl rfl rfl rfl rfl ⟨rfl, rfl, rfl, rfl, rfl⟩ rfl rfl rfl rfl rfl (by kernel_rfl) Tryz.func12 (by kernel_rfl)
    (of_decide_eq_true (by kernel_rfl)) (by unfold Func.isWrapper; first | (rw [if_pos (by decide +kernel)]; kernel_rfl) | (rw [if_neg (by decide +kernel)]; exact ⟨rfl, rfl⟩))
    (fun os started H enc _ => lifted os started H enc)
theorem carded : Rows.WriteListsCardSaid :=
  Claim7.holds_tied_plain_at .later [] [.data, .data, .data, .sentinel, .sentinel] true (true, "f00b49542ba4a8c92a7fc946f6030d37583e9e6c28cfd70f94577bd756c544ac") true
    proved (fun _ h => by cases h) (by kernel_rfl) (fun _ h => by cases h) writeLists_row_tie rfl ⟨rfl, rfl⟩ (by kernel_rfl) rfl
    (fun f fn hf hfn => by
      obtain rfl : f = 12 := Option.some.inj ((show Tryz.prog.funcNamed "sizar/sizarlaw9.WriteLists" = some 12 by kernel_rfl).symm.trans hf) |>.symm
      obtain rfl : fn = Tryz.f12 := (Option.some.inj (Tryz.func12.symm.trans hfn)).symm
      exact ⟨by kernel_rfl, fun j t ht => by
        rw [Tryz.params12] at ht
        have hm : t ∈ [23, 4] := by simpa using Array.mem_of_getElem? ht
        have hall : ([23, 4].all fun u => !Tryz.prog.wantsStandIn u) = true := by kernel_rfl
        exact (show Tryz.prog.wantsStandIn t = false by simpa using List.all_eq_true.1 hall t hm)⟩)
    (by kernel_rfl)
#print axioms carded
end writeLists

end Go.Proofs.YtljgkfdnmikpfaaGreatDoor
