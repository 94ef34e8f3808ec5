/- StackPlays: the walk. -/
import Derived.Test.YtmdilndaipiajaaSPlay
import Derived.Deep.RegionLaw
import Derived.Deep.RegionHeld3
import Derived.Deep.Cut
import Derived.Deep.CutRange
import Derived.Deep.DeepCutAuto
import Derived.Deep.AppendLies
import Derived.Deep.CutBlock
namespace Go.Proofs.Ytmdilndaipiajaa
open Go.RowKit Go.Maps Go.WideMaps

/-- The law's own list: the numbers as it holds them. -/
def IRow (w : World) (v : Value) (zs : List Int) (G : List Nat) : Prop :=
  ∃ (a : Option Addr) (c : Nat), v = .slice a zs.length c ∧ zs.length ≤ c ∧ c ≤ maxLen ∧ (zs = [] ∨ ∃ g, a = some ⟨g, 0, none⟩ ∧ g ∈ G ∧ ∀ (i : Nat) (x : Int), zs[i]? = some x → w.cell? ⟨g, i, none⟩ = some (.int .i64 x))
theorem IRow.apart {w w' : World} {v : Value} {zs : List Int} {G : List Nat} (h : IRow w v zs G) (ha : Apart G w w') : IRow w' v zs G := by
  obtain ⟨a, c, h1, h2, h3, h4⟩ := h
  refine ⟨a, c, h1, h2, h3, ?_⟩
  rcases h4 with h4 | ⟨g, e, hg, hc⟩
  · exact Or.inl h4
  · exact Or.inr ⟨g, e, hg, fun i x hx => ha.cell hg (hc i x hx)⟩
theorem IRow.more {w : World} {v : Value} {zs : List Int} {G G' : List Nat} (h : IRow w v zs G) (hG : ∀ k ∈ G, k ∈ G') : IRow w v zs G' := by
  obtain ⟨a, c, h1, h2, h3, h4⟩ := h
  refine ⟨a, c, h1, h2, h3, ?_⟩
  rcases h4 with h4 | ⟨g, e, hg, hc⟩
  · exact Or.inl h4
  · exact Or.inr ⟨g, e, hG g hg, hc⟩
theorem IRow.take {w : World} {a : Option Addr} {n0 c : Nat} {zs : List Int} {G : List Nat} (h : IRow w (.slice a n0 c) zs G) (n : Nat) (hn : n ≤ zs.length) : IRow w (.slice a n c) (zs.take n) G := by
  obtain ⟨a', c', e, h2, h3, h4⟩ := h
  cases e
  have hl : (zs.take n).length = n := by simp; omega
  refine ⟨a, c, by rw [hl], by omega, h3, ?_⟩
  rcases h4 with rfl | ⟨g, e, hg, hc⟩
  · left; simp
  · refine Or.inr ⟨g, e, hg, fun i x hx => ?_⟩
    rw [List.getElem?_take] at hx
    split at hx
    · exact hc i x hx
    · cases hx
theorem IRow.cell {w : World} {a : Option Addr} {n0 c : Nat} {zs : List Int} {G : List Nat} (h : IRow w (.slice a n0 c) zs G) {i : Nat} {x : Int} (hx : zs[i]? = some x) : ∃ g, a = some ⟨g, 0, none⟩ ∧ g ∈ G ∧ w.cell? ⟨g, i, none⟩ = some (.int .i64 x) := by
  obtain ⟨a', c', e, h2, h3, h4⟩ := h
  cases e
  rcases h4 with rfl | ⟨g, e, hg, hc⟩
  · simp at hx
  · exact ⟨g, e, hg, hc i x hx⟩
theorem IRow.cap {w : World} {a : Option Addr} {n0 c : Nat} {zs : List Int} {G : List Nat} (h : IRow w (.slice a n0 c) zs G) : n0 = zs.length ∧ n0 ≤ c ∧ c ≤ 9223372036854775807 := by
  obtain ⟨a', c', e, h2, h3, h4⟩ := h
  cases e
  unfold maxLen at h3
  exact ⟨rfl, h2, by omega⟩
theorem IRow.icells {w : World} {a : Option Addr} {n c : Nat} {zs : List Int} {G : List Nat} (h : IRow w (.slice a n c) zs G) : ICells w a zs := by
  obtain ⟨a', c', e, _, _, h4⟩ := h
  cases e
  rcases h4 with rfl | ⟨g, e, hg, hc⟩
  · exact Or.inl rfl
  · exact Or.inr ⟨g, 0, e, fun i x hx => by rw [Nat.zero_add]; exact hc i x hx⟩
/-- Where the law's list lies, in whatever world. -/
theorem IRow.src {w wq : World} {a : Option Addr} {n c : Nat} {zs : List Int} {G : List Nat} (h : IRow w (.slice a n c) zs G) (hb : Below w.heap.size w wq) :
    zs.length = 0 ∨ ∃ ad, a = some ad ∧ ∀ j u, (zs.map (Value.int .i64))[j]? = some u → wq.cell? (ad.add j) = some u := by
  rcases h.icells.ext hb with rfl | ⟨b, off, e, hc⟩
  · left; rfl
  · refine Or.inr ⟨_, e, fun j u hu => ?_⟩
    rw [List.getElem?_map, Option.map_eq_some_iff] at hu
    obtain ⟨x, hx1, rfl⟩ := hu
    rw [add_plain]
    exact hc j x hx1
/-- Between two rounds: the stack and the law's list hold the same. -/
def Both (W w : World) (p : Value) (R : Nat) (v : Value) (zs : List Int) : Prop := ∃ G, InI W w p R (zs.map (Value.int .i64)) G ∧ IRow w v zs G
theorem acts_cells {W : World} {a : Option Addr} {n cap : Nat} {l : List ActV} (h : Acts W (.slice a n cap) l) {k : Nat} {x : ActV} (hx : l[k]? = some x) :
    n = l.length ∧ l.length ≤ cap ∧ cap ≤ maxLen ∧ ∃ b off, a = some ⟨b, off, none⟩ ∧ b < W.heap.size ∧ W.cell? ⟨b, off + k * 3, none⟩ = some (.int .i64 x.op) ∧ W.cell? ⟨b, off + k * 3 + 1, none⟩ = some (.int .i64 x.n) ∧ W.cell? ⟨b, off + k * 3 + 2, none⟩ = some x.v := by
  obtain ⟨⟨a', cap', e, h1, h2, h3⟩, _⟩ := h
  cases e
  refine ⟨rfl, h1, h2, ?_⟩
  rcases h3 with rfl | ⟨b, off, rfl, hb, hc⟩
  · simp at hx
  · exact ⟨b, off, rfl, hb, hc k x hx 0 _ rfl, by rw [Nat.add_assoc]; exact hc k x hx 1 _ rfl, by rw [Nat.add_assoc]; exact hc k x hx 2 _ rfl⟩

section
variable {W w : World} {p : Value} {R n : Nat} {zs : List Int} {G : List Nat}
theorem mark_n (h : InI W w p R (zs.map (Value.int .i64)) G) (hn : zs.length = n) : Calls Try.prog 20 #[p] w fun e w' => e = .returned (.int .i64 n) ∧ w = w' := by
  subst hn
  refine (mark_inI h).mono ?_
  rintro e w' ⟨rfl, rfl⟩
  rw [List.length_map]
  exact ⟨rfl, rfl⟩
theorem all_n (h : InI W w p R (zs.map (Value.int .i64)) G) (hn : zs.length = n) : Calls Try.prog 22 #[p] w fun e w' => e = .returned (.slice (some ⟨w.heap.size, 0, none⟩) n n) ∧ InI W w' p R (zs.map (Value.int .i64)) (w.heap.size :: G) ∧ Apart G w w' ∧ ICells w' (some ⟨w.heap.size, 0, none⟩) zs := by
  subst hn
  refine (all_inI h).mono ?_
  rintro e w' ⟨rfl, h1, h2, h3⟩
  rw [List.length_map]
  exact ⟨rfl, h1, h2, icells_new h3⟩
theorem ints_n {a1 a2 : Option Addr} (c1 c2 : Nat) (h1 : ICells w a1 zs) (h2 : ICells w a2 zs) (hn : zs.length = n) (hl : n ≤ 70000) :
    Calls Try.prog 21 #[.slice a1 n c1, .slice a2 n c2] w fun e w' => e = .returned (.bool true) ∧ Below w.heap.size w w' := by
  subst hn
  exact ints_eq c1 c2 h1 h2 hl
theorem room_n (h : InI W w p R (zs.map (Value.int .i64)) G) (hn : zs.length = n) : 1 ≤ R ∧ R ≤ 65536 ∧ n ≤ R := by
  have := h.room
  rw [List.length_map, hn] at this
  exact this
end
theorem last_of {α : Type} (l : List α) : l = [] ∨ ∃ ys x, l = ys ++ [x] := by
  rcases List.eq_nil_or_concat l with h | ⟨ys, x, h⟩
  · exact Or.inl h
  · exact Or.inr ⟨ys, x, by rw [h, List.concat_eq_append]⟩
theorem rev_at {zs : List Int} {n q m j i : Nat} {y : Int} (hn : zs.length = n) (hm : n = q + m) (hj : j < m) (hi : i + j + 1 = n) (hy : zs[i]? = some y) : ((zs.drop q).map (Value.int .i64)).reverse[j]? = some (.int .i64 y) := by
  rw [List.getElem?_reverse (by simp; omega), List.length_map, List.length_drop, List.getElem?_map, List.getElem?_drop, show q + (zs.length - q - 1 - j) = i by omega, hy]
  rfl
theorem row_laid {w : World} {g : Nat} (h : w.heap[g]? = some (.cells #[] 3 (0, 0))) : w.ownsRow 0 3 1 (.slice (some ⟨g, 0, none⟩) 0 0) 0 [] :=
  ⟨by simp, Or.inr ⟨g, 0, #[], rfl, Nat.zero_le _, h, Nat.le_refl _, Nat.zero_le _, rfl, rfl⟩⟩
theorem own_ge {g n c k B : Nat} (e : (Value.slice (some ⟨g, 0, none⟩) n c).ownBlock = some k) (h : B ≤ g) : B ≤ k := by
  simp [Value.ownBlock] at e; omega
theorem grow_below {w6 wx w7 : World} {row : Option Nat} (hb : Below w6.heap.size w6 wx) (hg : wx.grownBy w7 row) (hr : ∀ k, row = some k → w6.heap.size ≤ k) : Below w6.heap.size w6 w7 := hb.grown hg hb.size hr
theorem at_block {w6 wx : World} {v v' : Value} (hb : Below w6.heap.size w6 wx) (hr : ∀ k, v.ownBlock = some k → w6.heap.size ≤ k) (hat : v'.ownBlock = v.ownBlock ∨ v'.ownBlock = some wx.heap.size) : ∀ k, v'.ownBlock = some k → w6.heap.size ≤ k := fun k hk => by
  rcases hat with e | e
  · exact hr k (e ▸ hk)
  · rw [e] at hk; cases hk; exact hb.size
/-- The law's new list is a row of its own. -/
theorem both_end {W w6 w8 : World} {p v8 : Value} {R N : Nat} {xs : List Int} {G : List Nat} (hN : xs.length = N) (ht : InI W w6 p R (xs.map (Value.int .i64)) G) (hb : Below w6.heap.size w6 w8) (ho : w8.ownsRow 0 3 1 v8 N (xs.map (Value.int .i64))) (ha : ∀ k, v8.ownBlock = some k → w6.heap.size ≤ k) :
    Both W w8 p R v8 xs := by
  subst hN
  have ho' : w8.ownsRow 0 3 1 v8 (xs.map (Value.int .i64)).length (xs.map (Value.int .i64)) := by rw [List.length_map]; exact ho
  rcases row_cells ho' with ⟨rfl, he⟩ | ⟨g, c, cur, rfl, hg, hc1, hc2, hc3, hc4⟩
  · have he' : xs = [] := List.map_eq_nil_iff.1 he
    subst he'
    exact ⟨[], (ht.same hb).less [] (by simp), none, 0, rfl, Nat.le_refl _, Nat.zero_le _, Or.inl rfl⟩
  · rw [List.length_map] at hc1 ho' hc4 ha ⊢
    refine ⟨[g], ht.ext hb [g] (fun k hk => by rw [List.mem_singleton] at hk; subst hk; exact Or.inr ⟨ha k rfl, (Array.getElem?_eq_some_iff.1 hg).1⟩), _, c, rfl, hc1, hc2, Or.inr ⟨g, rfl, by simp, fun i x hx => ?_⟩⟩
    rw [blk_cell hg]
    exact cur_at (xs := xs.map (Value.int .i64)) (by rw [List.length_map]; exact hc4) (by rw [List.getElem?_map, hx]; rfl)

set_option maxRecDepth 100000
set_option maxHeartbeats 2000000 in
theorem plays_any (m : Int) (hm : -9223372036854775808 ≤ m ∧ m ≤ 9223372036854775807) (v : Value) (l : List ActV) (W : World) (hl : Acts W v l) :
    Calls Try.prog 4 #[.int .i64 m, v] W fun e w' => IsBool W true e w' := by
  obtain ⟨a, cap, rfl⟩ : ∃ a cap, v = .slice a l.length cap := by obtain ⟨⟨a, cap, e, _⟩, _⟩ := hl; exact ⟨a, cap, e⟩
  have HL := Lib.hid hl
  clear hl
  by_cases h150 : 150 < l.length
  · go_enter Try.func4, Try.ntmps4
    (go_wp2_with fail; go_fit (awake_any W); rintro e w1 ⟨rfl, hb⟩)
    go_wp2
    go_ret
    exact ⟨rfl, hb⟩
  have h150' : l.length ≤ 150 := by omega
  clear h150
  obtain ⟨R, hR⟩ : ∃ R : Nat, (R : Int) = max 1 (min m 65536) := ⟨(max 1 (min m 65536)).toNat, by omega⟩
  have hR1 : 1 ≤ R ∧ R ≤ 65536 := by omega
  have HR := Lib.hid hR
  clear hR
  go_enter Try.func4, Try.ntmps4
  (go_wp2_with fail; go_fit (awake_any W); rintro e w1 ⟨rfl, hb⟩)
  have HB1 := Lib.hid hb; clear hb
  (go_wp2_with fail; go_fit (new_inI HB1.out m R HR.out [] (by simp)); rintro e w2 ⟨bt, rfl, h2, _⟩)
  have HT2 := Lib.hid h2; clear h2
  go_upto_if 27 with fail
  go_cut [6] from 27 to 27 (fun s wx => s = .int .i64 (max m 1) ∧ Hid (InI W wx (.pointer (some ⟨bt, 0, none⟩)) R [] []))
  case first =>
    go_wp2
    all_goals go_meet
    · exact ⟨by congr 1; omega, HT2⟩
    · exact ⟨by congr 1; omega, HT2⟩
  case rest =>
    obtain ⟨rfl, HT2⟩ := hcut
    go_upto_if 29 with fail
    go_cut [6] from 29 to 29 (fun s wx => s = .int .i64 R ∧ Hid (InI W wx (.pointer (some ⟨bt, 0, none⟩)) R [] []))
    case first =>
      have hR := HR.out
      go_wp2
      all_goals go_meet
      · exact ⟨by congr 1; omega, HT2⟩
      · exact ⟨by congr 1; omega, HT2⟩
    case rest =>
      obtain ⟨rfl, HT2⟩ := hcut
      go_wp2_with fail
      go_loopw [7, 8] (fun s i wr => ∃ (k : Nat) (zs : List Int), k ≤ l.length ∧ i = .int .i64 k ∧ Hid (Both W wr (.pointer (some ⟨bt, 0, none⟩)) R s zs)) (fun _ i _ => l.length - (intOf i).toNat)
      case atStart => exact ⟨0, [], by omega, rfl, Lib.hid ⟨[], HT2.out, none, 0, rfl, Nat.le_refl _, Nat.zero_le _, Or.inl rfl⟩⟩
      case round =>
        obtain ⟨k, zs, hk, rfl, HBo⟩ := hrel
        by_cases hlt : k < l.length
        · obtain ⟨x, hx⟩ : ∃ x, l[k]? = some x := ⟨_, List.getElem?_eq_getElem hlt⟩
          obtain ⟨_, hl1, hl2, bl, off, rfl, hbl, d0, d1, d2⟩ := acts_cells HL.out hx
          have hok := HL.out.2 x (List.mem_of_getElem? hx)
          obtain ⟨op, nn, vL, L⟩ := x
          obtain ⟨hop, hnn, hL⟩ := hok
          simp only at d0 d1 d2 hop hnn hL
          obtain ⟨aL, cL, rfl⟩ : ∃ aL cL, vL = .slice aL L.length cL := by obtain ⟨aL, cL, e, _⟩ := hL; exact ⟨aL, cL, e⟩
          have HLL := Lib.hid hL
          clear hL hx
          obtain ⟨G, hT, hK⟩ := HBo.out
          obtain ⟨aw, cw, rfl⟩ := (show ∃ aw cw, _ = Value.slice aw zs.length cw from by obtain ⟨aw, cw, e, _⟩ := hK; exact ⟨aw, cw, e⟩)
          have hb0 := hT.below
          have d0 := cell_later hb0 d0
          have d1 := cell_later hb0 d1
          have d2 := cell_later hb0 d2
          obtain ⟨n, hzn⟩ : ∃ n, zs.length = n := ⟨_, rfl⟩
          have hkl := room_n hT hzn
          have hcap := hK.cap.2
          rw [hzn] at hK hcap ⊢
          have HT := Lib.hid hT
          have HK := Lib.hid hK
          have HZ := Lib.hid hzn
          have hkk : (k : Int) < l.length := by omega
          clear hT hK HBo hzn
          by_cases h50 : 50 < L.length
          · go_wp2
            go_ret
            exact ⟨rfl, hb0.alloc hb0.size _⟩
          have hL50 : L.length ≤ 50 := by omega
          clear h50
          go_upto_block 2 with fail
          have hT3 := HT.out.ext (G' := wr.heap.size :: G) ((Below.refl _ _).alloc (Nat.le_refl _) (.cells #[.int .i64 op, .int .i64 nn, .slice aL L.length cL] 39)) (fun k hk => by
            rcases List.mem_cons.1 hk with rfl | hk
            · exact Or.inr ⟨Nat.le_refl _, by simp⟩
            · exact Or.inl hk)
          have hK3 := (HK.out.apart (Apart.of_below ((Below.refl _ _).alloc (Nat.le_refl _) (.cells #[.int .i64 op, .int .i64 nn, .slice aL L.length cL] 39)) HT.out.glt)).more (G' := wr.heap.size :: G) (fun k hk => List.mem_cons_of_mem _ hk)
          have hA3 := heap_alloc_new wr (.cells #[.int .i64 op, .int .i64 nn, .slice aL L.length cL] 39)
          generalize wr.alloc (.cells #[.int .i64 op, .int .i64 nn, .slice aL L.length cL] 39) = w3 at *
          have HT3 := Lib.hid hT3; have HK3 := Lib.hid hK3; have HA3 := Lib.hid hA3
          have hg3 : wr.heap.size ∈ wr.heap.size :: G := List.mem_cons_self
          generalize hG3 : wr.heap.size :: G = G3 at *
          generalize wr.heap.size = g3 at *
          clear hT3 hK3 hA3 HT HK hG3 d0 d1 d2 hb0
          have d0 : w3.cell? ⟨g3, 0, none⟩ = some (.int .i64 op) := by simp [blk_cell HA3.out]
          have d1 : w3.cell? ⟨g3, 1, none⟩ = some (.int .i64 nn) := by simp [blk_cell HA3.out]
          have d2 : w3.cell? ⟨g3, 2, none⟩ = some (.slice aL L.length cL) := by simp [blk_cell HA3.out]
          go_cut [7, 10, 11, 12, 13, 14, 15] from 44 to 159 (fun s _ _ _ _ _ _ wx => ∃ zs', Hid (Both W wx (.pointer (some ⟨bt, 0, none⟩)) R s zs'))
          case first =>
            by_cases hop0 : op = 0
            · subst hop0
              by_cases hfit : n + L.length ≤ R
              · have hf1 : decide ((n : Int) + (L.length : Int) ≤ (R : Int)) = true := by simp; omega
                have hf2 : (n : Int) + (L.length : Int) ≤ (R : Int) := by omega
                (go_wp2_with fail; go_fit (push_fitsI HT3.out aL L.length cL (L.map (Value.int .i64)) (by simp) (HLL.out.src HT3.out.below) (by simp [Value.oneCell']) (by rw [List.length_map, HZ.out]; exact hfit)); rintro e w6 ⟨rfl, h6, ha6⟩)
                rw [← List.map_append] at h6
                have HT6 := Lib.hid h6; have HK6 := Lib.hid (HK3.out.apart ha6)
                have hA6 := (ha6.2 g3 hg3).trans HA3.out
                clear h6 ha6 d0 d1 d2
                have d2 : w6.cell? ⟨g3, 2, none⟩ = some (.slice aL L.length cL) := by simp [blk_cell hA6]
                have HA6 := Lib.hid hA6
                have hbl6 := (Array.getElem?_eq_some_iff.1 hA6).1
                clear hA6
                have HSC := Lib.hid (fun (wq : World) (hb : Below w6.heap.size w6 wq) => (show n = 0 ∨ _ from by have h := HK6.out.src hb; rw [HZ.out] at h; exact h))
                have HSL := Lib.hid (fun (wq : World) (hb : Below w6.heap.size w6 wq) => HLL.out.src (HT6.out.below.trans (hb.mono HT6.out.below.size)))
                obtain ⟨i0, hi0, hz0, hz1, hz2⟩ := info_parts infoI
                have hzm : (zs.map (Value.int .i64)).length = n := by rw [List.length_map]; exact HZ.out
                have HZM := Lib.hid hzm
                obtain ⟨N, hN⟩ : ∃ N, (zs ++ L).length = N := ⟨_, rfl⟩
                have HNN := Lib.hid hN
                clear hN
                clear hzm
                go_wp2_with fail
                go_region_held3 (fun w' => w'.cell? ⟨g3, 2, none⟩ = some (.slice aL L.length cL)) (first | (exact cell_later HB8.out d2) | (exact cell_later HB7.out d2) | go_keep)
                  (first
                    | (refine step_append_any (by rfl) _ _ _ (by rfl) 0 3 i0 (.int .i64 0) 8 Try.underlying37 hi0 hz0 hz1 hz2 rfl _ 0 [] (by rfl) (row_laid (heap_alloc_new w6 _)) aw n cw (zs.map (Value.int .i64)) (by rfl) HZM.out (HSC.out _ ((Below.refl _ _).alloc (Nat.le_refl _) _).drew) (by simp [Value.oneCell']) (by unfold maxLen; omega) (by omega) (Nat.zero_le _) n (zs.map (Value.int .i64)) (by omega) rfl ?_; intro a7 c7 w7 hown7 hgrow7 hat7; have HB7 := Lib.hid (grow_below ((Below.refl _ _).alloc (Nat.le_refl _) _).drew hgrow7 (fun k e => own_ge e (by omega))); have HA7 := Lib.hid (at_block ((Below.refl _ _).alloc (Nat.le_refl _) _).drew (fun k e => own_ge e (by omega)) hat7); have HO7 := Lib.hid hown7; clear hown7 hgrow7 hat7)
                    | (refine step_append_any (by rfl) _ _ _ (by rfl) 0 3 i0 (.int .i64 0) 8 Try.underlying37 hi0 hz0 hz1 hz2 rfl (.slice a7 n c7) n (zs.map (Value.int .i64)) (by rfl) HO7.out aL L.length cL (L.map (Value.int .i64)) (by rfl) (by simp) (HSL.out _ HB7.out) (by simp [Value.oneCell']) (by unfold maxLen; omega) (by omega) (Nat.zero_le _) N ((zs ++ L).map (Value.int .i64)) (by rw [← HNN.out, List.length_append, HZ.out]) (by rw [List.map_append]) ?_; intro a8 c8 w8 hown8 hgrow8 hat8; have HB8 := Lib.hid (grow_below HB7.out hgrow8 HA7.out); have HA8 := Lib.hid (at_block HB7.out HA7.out hat8); have HO8 := Lib.hid hown8; clear hown8 hgrow8 hat8)
                    | fail)
                all_goals
                  go_wp2_with fail
                  go_meet
                  exact ⟨_, Lib.hid (both_end HNN.out HT6.out HB8.out HO8.out HA8.out)⟩
              · have hf1 : decide ((n : Int) + (L.length : Int) ≤ (R : Int)) = false := by simp; omega
                have hf2 : ¬ ((n : Int) + (L.length : Int) ≤ (R : Int)) := by omega
                (go_wp2_with fail; go_fit (push_fullI HT3.out aL L.length cL (by unfold maxLen; omega) (by rw [List.length_map, HZ.out]; omega)); rintro e w6 ⟨rfl, h6, ha6⟩)
                have HT6 := Lib.hid h6; have HK6 := Lib.hid (HK3.out.apart ha6); clear h6 ha6
                go_wp2_with fail
                go_meet
                exact ⟨_, Lib.hid ⟨_, HT6.out, HK6.out⟩⟩
            · have hop0' : (op == 0) = false := by simp [hop0]
              by_cases hop1 : op = 1
              · subst hop1
                rcases last_of zs with rfl | ⟨ys, x, rfl⟩
                · obtain rfl : n = 0 := by have := HZ.out; simpa using this.symm
                  (go_wp2_with fail; go_fit (pop_missI HT3.out); rintro e w' ⟨rfl, rfl⟩)
                  go_wp2_with fail
                  go_meet
                  exact ⟨[], Lib.hid ⟨G3, HT3.out, HK3.out⟩⟩
                · obtain ⟨n', hn'⟩ : ∃ n', ys.length = n' := ⟨_, rfl⟩
                  obtain rfl : n = n' + 1 := by have := HZ.out; simp at this; omega
                  have HN' := Lib.hid hn'; clear hn'
                  (go_wp2_with fail; go_fit (pop_hitI (ys := ys.map (Value.int .i64)) (x := .int .i64 x) (by have h := HT3.out; rw [List.map_append] at h; exact h)); rintro e w6 ⟨rfl, h6, ha6⟩)
                  have HT6 := Lib.hid h6; have HK6 := Lib.hid (HK3.out.apart ha6)
                  clear h6 ha6
                  obtain ⟨gw, rfl, hgw, cw6⟩ := HK6.out.cell (i := n') (x := x) (by simp [← HN'.out])
                  have HK7 := Lib.hid (show IRow w6 (.slice (some ⟨gw, 0, none⟩) n' cw) ys G3 from by
                    have h := HK6.out.take n' (by simp [← HN'.out])
                    rw [← HN'.out, List.take_left] at h
                    rw [← HN'.out]
                    exact h)
                  go_wp2_with fail
                  go_meet
                  exact ⟨ys, Lib.hid ⟨G3, HT6.out, HK7.out⟩⟩
              · have hop1' : (op == 1) = false := by simp [hop1]
                by_cases hN : 0 ≤ nn ∧ nn ≤ n
                · obtain ⟨q, rfl⟩ : ∃ q : Nat, nn = q := ⟨nn.toNat, by omega⟩
                  obtain ⟨m', hm'⟩ : ∃ m', n = q + m' := ⟨n - q, by omega⟩
                  have hq1 : decide ((0 : Int) ≤ (q : Int)) = true := by simp
                  have hq2 : decide ((q : Int) ≤ (n : Int)) = true := by simp; omega
                  have hq3 : (q : Int) ≤ (n : Int) := by omega
                  have hq4 : (n : Int) - (q : Int) = (m' : Int) := by omega
                  have hq5 : m' ≤ n := by omega
                  have hq6 : q ≤ n := by omega
                  have HM' := Lib.hid hm'
                  clear hm' hN
                  (go_wp2_with fail; go_fit (undo_hitI HT3.out q m' (by rw [HZ.out]; exact HM'.out)); rintro e w6 ⟨rfl, h6, ha6, hc6⟩)
                  have HT6 := Lib.hid h6; have HK6 := Lib.hid (HK3.out.apart ha6); have HC6 := Lib.hid hc6
                  have HA6 := Lib.hid ((ha6.2 g3 hg3).trans HA3.out)
                  clear h6 ha6 hc6 d0 d1 d2
                  have d1 : w6.cell? ⟨g3, 1, none⟩ = some (.int .i64 q) := by simp [blk_cell HA6.out]
                  generalize w3.heap.size = gx at *
                  go_wp2_with fail
                  go_loopw [15] (fun i wq => ∃ j : Nat, j ≤ m' ∧ i = .int .i64 j ∧ Hid (Below w6.heap.size w6 wq)) (fun i _ => m' - (intOf i).toNat)
                  case atStart => exact ⟨0, by omega, rfl, Lib.hid (Below.refl _ _)⟩
                  case round =>
                    obtain ⟨j, hj, rfl, HBq⟩ := hrel
                    by_cases hjl : j < m'
                    · obtain ⟨n0, hn0⟩ : ∃ n0 : Nat, (n : Int) - 1 = (n0 : Int) := ⟨n - 1, by omega⟩
                      obtain ⟨i, hi⟩ : ∃ i : Nat, (n0 : Int) - (j : Int) = (i : Int) := ⟨n0 - j, by omega⟩
                      have hil : (i : Int) < (n : Int) := by omega
                      obtain ⟨y, hy⟩ : ∃ y, zs[i]? = some y := ⟨_, List.getElem?_eq_getElem (by have := HZ.out; omega)⟩
                      obtain ⟨gw, rfl, hgw, cy0⟩ := HK6.out.cell hy
                      have cy := cell_later HBq.out cy0
                      have cx := cell_later HBq.out (HC6.out j (.int .i64 y) (rev_at HZ.out HM'.out hjl (by omega) hy))
                      have hjj : (j : Int) < (m' : Int) := by omega
                      clear hy cy0
                      go_wp2_with fail
                      go_quiet (fail)
                      go_wp2
                      go_roundw
                      case rel => exact ⟨j + 1, by omega, by go_num, Lib.hid (belN HBq.out _)⟩
                      case measure => simp [intOf]; omega
                    · have d1 := cell_later HBq.out d1
                      have HT7 := Lib.hid (HT6.out.same HBq.out)
                      have HK7 := Lib.hid (((HK6.out.take q (by have := HZ.out; omega)).more (fun k hk => List.mem_cons_of_mem gx hk)).apart (Apart.of_below HBq.out HT6.out.glt))
                      go_wp2_with fail
                      go_meet
                      exact ⟨zs.take q, Lib.hid ⟨_, HT7.out, HK7.out⟩⟩
                · by_cases hN0 : nn < 0
                  · have hq1 : decide ((0 : Int) ≤ nn) = false := by simp; omega
                    (go_wp2_with fail; go_fit (undo_missI HT3.out nn (Or.inl hN0)); rintro e w' ⟨rfl, rfl⟩)
                    go_wp2_with fail
                    go_meet
                    exact ⟨zs, Lib.hid ⟨G3, HT3.out, HK3.out⟩⟩
                  · have hq1 : decide ((0 : Int) ≤ nn) = true := by simp; omega
                    have hq2 : decide (nn ≤ (n : Int)) = false := by simp; omega
                    have hq3 : ¬ (nn ≤ (n : Int)) := by omega
                    (go_wp2_with fail; go_fit (undo_missI HT3.out nn (Or.inr (by rw [List.length_map, HZ.out]; omega))); rintro e w' ⟨rfl, rfl⟩)
                    go_wp2_with fail
                    go_meet
                    exact ⟨zs, Lib.hid ⟨G3, HT3.out, HK3.out⟩⟩
          case rest =>
            obtain ⟨zs2, HBo2⟩ := hcut
            obtain ⟨G2, hT2, hK2⟩ := HBo2.out
            obtain ⟨a2, c2, rfl⟩ := (show ∃ aw cw, _ = Value.slice aw zs2.length cw from by obtain ⟨aw, cw, e, _⟩ := hK2; exact ⟨aw, cw, e⟩)
            obtain ⟨n2, hzn2⟩ : ∃ n, zs2.length = n := ⟨_, rfl⟩
            have hkl2 := room_n hT2 hzn2
            have hcap2 := hK2.cap.2
            rw [hzn2] at hK2 hcap2 ⊢
            have HT2 := Lib.hid hT2
            have HK2 := Lib.hid hK2
            have HZ2 := Lib.hid hzn2
            clear hT2 hK2 hzn2 HBo2 HT3 HK3 HA3 d0 d1 d2 hcap hkl HZ
            rcases last_of zs2 with rfl | ⟨ys, x, rfl⟩
            · obtain rfl : n2 = 0 := by have := HZ2.out; simpa using this.symm
              (go_wp2_with fail; go_fit (top_missI HT2.out); rintro e w' ⟨rfl, rfl⟩)
              (go_wp2_with fail; go_fit (mark_n HT2.out HZ2.out); rintro e w' ⟨rfl, rfl⟩)
              (go_wp2_with fail; go_fit (all_n HT2.out HZ2.out); rintro e w9 ⟨rfl, h9, ha9, hic⟩)
              have HT9 := Lib.hid h9; have HK9 := Lib.hid (HK2.out.apart ha9); have HIC := Lib.hid hic
              clear h9 ha9 hic
              (go_wp2_with fail; go_fit (ints_n 0 c2 HIC.out HK9.out.icells HZ2.out (by omega)); rintro e w10 ⟨rfl, h10⟩)
              have HTR := Lib.hid (show Both W w10 (.pointer (some ⟨bt, 0, none⟩)) R (.slice a2 0 c2) [] from
                ⟨_, HT9.out.same h10, (HK9.out.more (fun k hk => List.mem_cons_of_mem _ hk)).apart (Apart.of_below h10 HT9.out.glt)⟩)
              clear h10
              go_wp2
              go_roundw
              case rel => exact ⟨k + 1, [], by omega, by go_num, HTR⟩
              case measure => simp [intOf]; omega
            · obtain ⟨n', hn'⟩ : ∃ n', ys.length = n' := ⟨_, rfl⟩
              obtain rfl : n2 = n' + 1 := by have := HZ2.out; simp at this; omega
              have HN' := Lib.hid hn'; clear hn'
              (go_wp2_with fail; go_fit (top_hitI (ys := ys.map (Value.int .i64)) (x := .int .i64 x) (by have h := HT2.out; rw [List.map_append] at h; exact h)); rintro e w' ⟨rfl, rfl⟩)
              (go_wp2_with fail; go_fit (mark_n HT2.out HZ2.out); rintro e w' ⟨rfl, rfl⟩)
              (go_wp2_with fail; go_fit (all_n HT2.out HZ2.out); rintro e w9 ⟨rfl, h9, ha9, hic⟩)
              have HT9 := Lib.hid h9; have HK9 := Lib.hid (HK2.out.apart ha9); have HIC := Lib.hid hic
              clear h9 ha9 hic
              (go_wp2_with fail; go_fit (ints_n (n' + 1) c2 HIC.out HK9.out.icells HZ2.out (by omega)); rintro e w10 ⟨rfl, h10⟩)
              have HTR := Lib.hid (show Both W w10 (.pointer (some ⟨bt, 0, none⟩)) R (.slice a2 (n' + 1) c2) (ys ++ [x]) from
                ⟨_, HT9.out.same h10, (HK9.out.more (fun k hk => List.mem_cons_of_mem _ hk)).apart (Apart.of_below h10 HT9.out.glt)⟩)
              obtain ⟨gw, rfl, hgw, cx0⟩ := HK9.out.cell (i := n') (x := x) (by simp [← HN'.out])
              have cx := cell_later h10 cx0
              clear h10 cx0
              go_wp2
              go_roundw
              case rel => exact ⟨k + 1, ys ++ [x], by omega, by go_num, HTR⟩
              case measure => simp [intOf]; omega
        · go_wp2
          go_ret
          obtain ⟨G, hT, _⟩ := HBo.out
          exact ⟨rfl, hT.below⟩
end Go.Proofs.Ytmdilndaipiajaa
