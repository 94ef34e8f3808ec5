/- TablePlays: the walk. -/
import Derived.Test.YtjpdigdocdppbaaPlay
import Derived.Test.YtjpdigdocdppbaaAppC
import Derived.Deep.QuietTactic
import Derived.BigQuiet
import Derived.LoopTactic
import Derived.Lib.Strings
namespace Go.Proofs.Ytjpdigdocdppbaa
open Go.RowKit Go.Maps Go.WideMaps

/-- The law's own list: the keys as it holds them. -/
def KRow (w : World) (v : Value) (ks : List ByteArray) (G : List Nat) : Prop :=
  ∃ (a : Option Addr) (c : Nat), v = .slice a ks.length c ∧ ks.length ≤ c ∧ c ≤ maxLen ∧ (ks = [] ∨ ∃ g, a = some ⟨g, 0, none⟩ ∧ g ∈ G ∧ ∀ (i : Nat) (x : ByteArray), ks[i]? = some x → w.cell? ⟨g, i, none⟩ = some (.string x))
theorem KRow.apart {w w' : World} {v : Value} {ks : List ByteArray} {G : List Nat} (h : KRow w v ks G) (ha : Apart G w w') : KRow w' v ks G := by
  obtain ⟨a, c, h1, h2, h3, h4⟩ := h
  refine ⟨a, c, h1, h2, h3, ?_⟩
  rcases h4 with h4 | ⟨g, e, hg, hc⟩
  · exact Or.inl h4
  · exact Or.inr ⟨g, e, hg, fun i x hx => ha.cell hg (hc i x hx)⟩
/-- Between two rounds: the table and the law's list hold the same keys. -/
def Both (W w : World) (p : Value) (R : Nat) (v : Value) (ks : List ByteArray) : Prop := ∃ G, TabIn W w p R ks G ∧ KRow w v ks G
/-- The law's own search. -/
def Sought (ks : List ByteArray) (k : ByteArray) (m : Nat) (at' : Int) : Prop := (at' = -1 ∧ ∀ (j : Nat) y, j < m → ks[j]? = some y → y ≠ k) ∨ (∃ j : Nat, at' = j ∧ j < m ∧ ks[j]? = some k)
theorem sought_no {ks : List ByteArray} {k y : ByteArray} {m : Nat} {at' : Int} (h : Sought ks k m at') (hy : ks[m]? = some y) (hne : y ≠ k) : Sought ks k (m + 1) at' := by
  rcases h with ⟨e, h⟩ | ⟨j, e, hj, h⟩
  · refine Or.inl ⟨e, fun j z hj hz => ?_⟩
    by_cases hjm : j = m
    · subst hjm; rw [hy] at hz; cases hz; exact hne
    · exact h j z (by omega) hz
  · exact Or.inr ⟨j, e, by omega, h⟩
theorem sought_yes {ks : List ByteArray} {k y : ByteArray} {m : Nat} (hy : ks[m]? = some y) (he : y = k) : Sought ks k (m + 1) m := Or.inr ⟨m, rfl, by omega, he ▸ hy⟩
theorem sought_end {ks : List ByteArray} {k : ByteArray} {m : Nat} {at' : Int} (h : Sought ks k m at') (hm : m = ks.length) : (at' = -1 ∧ k ∉ ks) ∨ (∃ j : Nat, at' = j ∧ ks[j]? = some k) := by
  rcases h with ⟨e, h⟩ | ⟨j, e, hj, h⟩
  · refine Or.inl ⟨e, fun hk => ?_⟩
    obtain ⟨i, hi⟩ := List.getElem?_of_mem hk
    exact h i k (by have := (List.getElem?_eq_some_iff.1 hi).1; omega) hi rfl
  · exact Or.inr ⟨j, e, h⟩
theorem acts_cells {W : World} {a : Option Addr} {n cap : Nat} {l : List ActV} (h : Acts W (.slice a n cap) l) {k : Nat} {x : ActV} (hx : l[k]? = some x) :
    n = l.length ∧ l.length ≤ cap ∧ cap ≤ maxLen ∧ ∃ b off, a = some ⟨b, off, none⟩ ∧ b < W.heap.size ∧ W.cell? ⟨b, off + k * 3, none⟩ = some (.int .i64 x.op) ∧ W.cell? ⟨b, off + k * 3 + 1, none⟩ = some (.int .i64 x.n) ∧ W.cell? ⟨b, off + k * 3 + 2, none⟩ = some (.string x.k) := by
  obtain ⟨⟨a', cap', e, h1, h2, h3⟩, _⟩ := h
  cases e
  refine ⟨rfl, h1, h2, ?_⟩
  rcases h3 with rfl | ⟨b, off, rfl, hb, hc⟩
  · simp at hx
  · exact ⟨b, off, rfl, hb, hc k x hx 0 _ rfl, by rw [Nat.add_assoc]; exact hc k x hx 1 _ rfl, by rw [Nat.add_assoc]; exact hc k x hx 2 _ rfl⟩

theorem at_yes {ks : List ByteArray} {k : ByteArray} {nf at' : Int} {bf : Bool} (hn : ks.Nodup) (h : Looks ks k nf bf) (ha : at' = if bf then nf else -1) {i : Nat} (hi : ks[i]? = some k) : at' = i := by
  rcases h with ⟨rfl, j, rfl, hj⟩ | ⟨rfl, rfl, hj⟩
  · simp only [if_true] at ha; rw [ha, nodup_at hn hj hi]
  · exact absurd (List.mem_of_getElem? hi) hj
theorem at_no {ks : List ByteArray} {k : ByteArray} {nf at' : Int} {bf : Bool} (h : Looks ks k nf bf) (ha : at' = if bf then nf else -1) (hi : k ∉ ks) : at' = -1 := by
  rcases h with ⟨rfl, j, rfl, hj⟩ | ⟨rfl, rfl, hj⟩
  · exact absurd (List.mem_of_getElem? hj) hi
  · simpa using ha
theorem TabIn.glt {W w : World} {p : Value} {R : Nat} {ks : List ByteArray} {G : List Nat} (h : TabIn W w p R ks G) : ∀ k ∈ G, k < w.heap.size := by obtain ⟨F, h⟩ := h; exact h.2.2.2.1
theorem KRow.take {w : World} {a : Option Addr} {c : Nat} {ks : List ByteArray} {G : List Nat} (h : KRow w (.slice a ks.length c) ks G) (n : Nat) (hn : n ≤ ks.length) : KRow w (.slice a n c) (ks.take n) G := by
  obtain ⟨a', c', e, h2, h3, h4⟩ := h
  cases e
  have hl : (ks.take n).length = n := by simp; omega
  refine ⟨a, c, by rw [hl], by omega, h3, ?_⟩
  rcases h4 with rfl | ⟨g, e, hg, hc⟩
  · left; simp
  · refine Or.inr ⟨g, e, hg, fun i x hx => ?_⟩
    rw [List.getElem?_take] at hx
    split at hx
    · exact hc i x hx
    · cases hx

theorem row_laid {w : World} {g : Nat} (h : w.heap[g]? = some (.cells #[] 9 (0, 0))) : w.ownsRow 0 9 1 (.slice (some ⟨g, 0, none⟩) 0 0) 0 [] :=
  ⟨by simp, Or.inr ⟨g, 0, #[], rfl, Nat.zero_le _, h, Nat.le_refl _, Nat.zero_le _, rfl, rfl⟩⟩
/-- Where the law's list lies, in whatever world. -/
theorem KRow.src {w wq : World} {a : Option Addr} {c : Nat} {ks : List ByteArray} {G : List Nat} (h : KRow w (.slice a ks.length c) ks G) (hG : ∀ k ∈ G, k < w.heap.size) (hb : Below w.heap.size w wq) :
    ks.length = 0 ∨ ∃ ad, a = some ad ∧ ∀ j u, (ks.map Value.string)[j]? = some u → wq.cell? (ad.add j) = some u := by
  obtain ⟨a', c', e, _, _, h4⟩ := h
  cases e
  rcases h4 with rfl | ⟨g, rfl, hg, hc⟩
  · left; rfl
  · refine Or.inr ⟨_, rfl, fun j u hu => ?_⟩
    rw [List.getElem?_map, Option.map_eq_some_iff] at hu
    obtain ⟨x, hx1, rfl⟩ := hu
    rw [add_plain, Nat.zero_add]
    exact cell_later hb (hc j x hx1)

theorem own_ge {g n c k B : Nat} (e : (Value.slice (some ⟨g, 0, none⟩) n c).ownBlock = some k) (h : B ≤ g) : B ≤ k := by
  simp [Value.ownBlock] at e; omega
theorem grow_below {w6 wx w7 : World} {row : Option Nat} (hb : Below w6.heap.size w6 wx) (hg : wx.grownBy w7 row) (hr : ∀ k, row = some k → w6.heap.size ≤ k) : Below w6.heap.size w6 w7 := hb.grown hg hb.size hr
theorem at_block {w6 wx : World} {v v' : Value} (hb : Below w6.heap.size w6 wx) (hr : ∀ k, v.ownBlock = some k → w6.heap.size ≤ k) (hat : v'.ownBlock = v.ownBlock ∨ v'.ownBlock = some wx.heap.size) : ∀ k, v'.ownBlock = some k → w6.heap.size ≤ k := fun k hk => by
  rcases hat with e | e
  · exact hr k (e ▸ hk)
  · rw [e] at hk; cases hk; exact hb.size
theorem both_end {W w6 w8 : World} {p v8 : Value} {R : Nat} {ks' : List ByteArray} {G : List Nat} (ht : TabIn W w6 p R ks' G) (hb : Below w6.heap.size w6 w8) (ho : w8.ownsRow 0 9 1 v8 ks'.length (ks'.map Value.string)) (ha : ∀ k, v8.ownBlock = some k → w6.heap.size ≤ k) : Both W w8 p R v8 ks' := by
  rw [← flat_one] at ho
  obtain ⟨a, c, rfl, hc, hcell⟩ := stab_cells ho
  have hcm : c ≤ maxLen := by
    rcases ho.2 with ⟨e, _⟩ | ⟨g, cap, cur, e, _, _, _, h, _⟩
    · simp only [Value.slice.injEq] at e; omega
    · simp only [Value.slice.injEq] at e; omega
  rcases hcell with ⟨rfl, rfl⟩ | ⟨g, rfl, hg, hx⟩
  · exact ⟨[], (ht.same hb).less [] (by simp), none, c, rfl, hc, hcm, Or.inl rfl⟩
  · exact ⟨[g], ht.ext hb [g] (fun k hk => by rw [List.mem_singleton] at hk; subst hk; exact Or.inr ⟨ha k rfl, hg⟩), _, c, rfl, hc, hcm, Or.inr ⟨g, rfl, by simp, hx⟩⟩
theorem old_one {wx w7 : World} {row : Option Nat} {g : Nat} {x : Value} {t : TypeId} (hg : wx.grownBy w7 row) (h : wx.heap[g]? = some (.cells #[x] t (0, 0))) (hne : row ≠ some g) : ∀ j u, [x][j]? = some u → w7.cell? ((⟨g, 0, none⟩ : Addr).add j) = some u := fun j u hu => by
  rw [add_plain, Nat.zero_add]
  have h7 : w7.heap[g]? = _ := (hg.block g (Array.getElem?_eq_some_iff.1 h).1 (fun e => hne e.symm)).trans h
  rw [blk_cell h7]
  simpa using hu
theorem laid_two (w6 : World) (E K : Obj) : ((w6.alloc E).alloc K).heap[w6.heap.size]? = some E := (Below.heap_alloc (w6.alloc E) K w6.heap.size (by simp)).trans (heap_alloc_new w6 E)
theorem laid_last (w6 : World) (E K : Obj) : ((w6.alloc K).alloc E).heap[w6.heap.size + 1]? = some E := by
  have := heap_alloc_new (w6.alloc K) E
  simpa using this

set_option maxRecDepth 100000
set_option maxHeartbeats 2000000 in
theorem plays_any (m : Int) (hm : -9223372036854775808 ≤ m ∧ m ≤ 9223372036854775807) (v : Value) (l : List ActV) (W : World) (hl : Acts W v l) :
    Calls Try.prog 4 #[.int .i64 m, v] W fun e w' => IsBool W true e w' := by
  obtain ⟨a, cap, rfl⟩ : ∃ a cap, v = .slice a l.length cap := by obtain ⟨⟨a, cap, e, _⟩, _⟩ := hl; exact ⟨a, cap, e⟩
  have HL := Lib.hid hl
  clear hl
  by_cases h150 : 150 < l.length
  · go_enter Try.func4, Try.ntmps4
    (go_wp2_with fail; go_fit (awake_any W); rintro e w1 ⟨rfl, hb⟩)
    go_wp2
    go_ret
    exact ⟨rfl, hb⟩
  have h150' : l.length ≤ 150 := by omega
  clear h150
  obtain ⟨R, hR⟩ : ∃ R : Nat, (R : Int) = max 1 (min m 65536) := ⟨(max 1 (min m 65536)).toNat, by omega⟩
  have hR1 : 1 ≤ R ∧ R ≤ 65536 := by omega
  have HR := Lib.hid hR
  clear hR
  go_enter Try.func4, Try.ntmps4
  (go_wp2_with fail; go_fit (awake_any W); rintro e w1 ⟨rfl, hb⟩)
  have HB1 := Lib.hid hb; clear hb
  (go_wp2_with fail; go_fit (new_in HB1.out m R HR.out [] (by simp)); rintro e w2 ⟨bt, rfl, h2, _⟩)
  have HT2 := Lib.hid h2; clear h2
  go_upto_if 29 with fail
  go_cut [6] from 29 to 29 (fun s wx => s = .int .i64 (max m 1) ∧ Hid (TabIn W wx (.pointer (some ⟨bt, 0, none⟩)) R [] []))
  case first =>
    go_wp2
    all_goals go_meet
    · exact ⟨by congr 1; omega, HT2⟩
    · exact ⟨by congr 1; omega, HT2⟩
  case rest =>
    obtain ⟨rfl, HT2⟩ := hcut
    go_upto_if 31 with fail
    go_cut [6] from 31 to 31 (fun s wx => s = .int .i64 R ∧ Hid (TabIn W wx (.pointer (some ⟨bt, 0, none⟩)) R [] []))
    case first =>
      have hR := HR.out
      go_wp2
      all_goals go_meet
      · exact ⟨by congr 1; omega, HT2⟩
      · exact ⟨by congr 1; omega, HT2⟩
    case rest =>
      obtain ⟨rfl, HT2⟩ := hcut
      go_wp2_with fail
      go_loopw [7, 8] (fun s i wr => ∃ (k : Nat) (ks : List ByteArray), k ≤ l.length ∧ i = .int .i64 k ∧ Hid (Both W wr (.pointer (some ⟨bt, 0, none⟩)) R s ks)) (fun _ i _ => l.length - (intOf i).toNat)
      case atStart => exact ⟨0, [], by omega, rfl, Lib.hid ⟨[], HT2.out, none, 0, rfl, Nat.le_refl _, Nat.zero_le _, Or.inl rfl⟩⟩
      case round =>
        obtain ⟨k, ks, hk, rfl, HBo⟩ := hrel
        by_cases hlt : k < l.length
        · obtain ⟨x, hx⟩ : ∃ x, l[k]? = some x := ⟨_, List.getElem?_eq_getElem hlt⟩
          obtain ⟨_, hl1, hl2, bl, off, rfl, hbl, d0, d1, d2⟩ := acts_cells HL.out hx
          have hok := HL.out.2 x (List.mem_of_getElem? hx)
          obtain ⟨op, nn, key⟩ := x
          obtain ⟨hop, hnn, hkey⟩ := hok
          simp only at d0 d1 d2 hop hnn hkey
          have HD := Lib.hid (And.intro d0 (And.intro d1 d2))
          clear d0 d1 d2 hx
          obtain ⟨G, hT, hK⟩ := HBo.out
          obtain ⟨aw, cw, rfl, hc1, hc2, hcell⟩ := hK
          have HT := Lib.hid hT
          have HK := Lib.hid hcell
          have HKC := Lib.hid (fun (wq : World) (hb : Below wr.heap.size wr wq) (j : Nat) (y : ByteArray) (hy : ks[j]? = some y) => (show ∃ g, aw = some ⟨g, 0, none⟩ ∧ wq.cell? ⟨g, j, none⟩ = some (.string y) from by
            rcases hcell with rfl | ⟨g, e, hg, hc⟩
            · simp at hy
            · exact ⟨g, e, cell_later hb (hc j y hy)⟩))
          have HDC := Lib.hid (fun (wq : World) (hb : Below wr.heap.size wr wq) => (show wq.cell? ⟨bl, off + k * 3, none⟩ = some (.int .i64 op) ∧ wq.cell? ⟨bl, off + k * 3 + 1, none⟩ = some (.int .i64 nn) ∧ wq.cell? ⟨bl, off + k * 3 + 2, none⟩ = some (.string key) from
            have hb' := hT.below.trans (hb.mono hT.below.size)
            ⟨cell_later hb' HD.out.1, cell_later hb' HD.out.2.1, cell_later hb' HD.out.2.2⟩))
          have HDW := Lib.hid (fun (wq : World) (hb' : Below W.heap.size W wq) => (show wq.cell? ⟨bl, off + k * 3, none⟩ = some (.int .i64 op) ∧ wq.cell? ⟨bl, off + k * 3 + 1, none⟩ = some (.int .i64 nn) ∧ wq.cell? ⟨bl, off + k * 3 + 2, none⟩ = some (.string key) from
            ⟨cell_later hb' HD.out.1, cell_later hb' HD.out.2.1, cell_later hb' HD.out.2.2⟩))
          have HKR := Lib.hid (show KRow wr (.slice aw ks.length cw) ks G from ⟨aw, cw, rfl, hc1, hc2, hcell⟩)
          have hkk : (k : Int) < l.length := by omega
          have hkl : ks.length ≤ 65536 := by have := hT.room; omega
          clear hT hcell HBo
          go_wp2_with fail
          go_loopw [9, 10] (fun s i wq => ∃ (j : Nat) (at' : Int), j ≤ ks.length ∧ i = .int .i64 j ∧ s = .int .i64 at' ∧ Hid (Sought ks key j at') ∧ Hid (Below wr.heap.size wr wq)) (fun _ i _ => ks.length - (intOf i).toNat)
          case atStart => exact ⟨0, -1, by omega, rfl, rfl, Lib.hid (Or.inl ⟨rfl, fun j y h => by omega⟩), Lib.hid (Below.refl _ _)⟩
          case round =>
            obtain ⟨j, at', hj, rfl, rfl, HS, HBq⟩ := hrel
            by_cases hjl : j < ks.length
            · obtain ⟨y, hy⟩ : ∃ y, ks[j]? = some y := ⟨_, List.getElem?_eq_getElem hjl⟩
              obtain ⟨g, rfl, cy⟩ := HKC.out wr HBq.out j y hy
              have cx := (HDC.out wr HBq.out).2.2
              have hjj : (j : Int) < ks.length := by omega
              have HY := Lib.hid hy; clear hy
              cases hq : (y.toList == key.toList)
              · have HQ := Lib.hid (show y ≠ key from fun e => by rw [e] at hq; simp at hq)
                go_wp2_with fail
                go_quiet (fail)
                go_wp2
                go_roundw
                case rel => exact ⟨j + 1, at', by omega, by go_num, rfl, Lib.hid (sought_no HS.out HY.out HQ.out), Lib.hid (belN HBq.out _)⟩
                case measure => simp [intOf]; omega
              · have HQ := Lib.hid (show y = key from bl_inj (by rw [Lib.toList_data, Lib.toList_data] at hq; simpa using hq))
                go_wp2_with fail
                go_quiet (fail)
                go_wp2
                go_roundw
                case rel => exact ⟨j + 1, (j : Int), by omega, by go_num, rfl, Lib.hid (sought_yes HY.out HQ.out), Lib.hid (belN HBq.out _)⟩
                case measure => simp [intOf]; omega
            · have hend := sought_end HS.out (by omega)
              obtain ⟨nf, bf, hlk⟩ := looks_ex ks key
              have hat : at' = if bf then nf else -1 := by
                rcases hlk with ⟨rfl, i, rfl, hi⟩ | ⟨rfl, rfl, hi⟩
                · rcases hend with ⟨_, hn⟩ | ⟨j', rfl, hj'⟩
                  · exact absurd (List.mem_of_getElem? hi) hn
                  · simp only [if_true]; rw [nodup_at HT.out.nodup hi hj']
                · rcases hend with ⟨rfl, hn⟩ | ⟨j', rfl, hj'⟩
                  · rfl
                  · exact absurd (List.mem_of_getElem? hj') hi
              have HAT := Lib.hid hat
              clear hat hend HS
              have cx := (HDC.out wr HBq.out).2.2
              have HTQ := Lib.hid (HT.out.same HBq.out)
              have HKQ := Lib.hid (HKR.out.apart (Apart.of_below HBq.out HT.out.glt))
              clear HBq
              (go_wp2_with fail; go_fit (find_in HTQ.out key hkey hlk); rintro e w5 ⟨rfl, h5, ha5⟩)
              have HT5 := Lib.hid h5; have HK5 := Lib.hid (HKQ.out.apart ha5); clear h5 ha5 HTQ HKQ
              have HLK := Lib.hid hlk; clear hlk
              go_upto_region 22 with fail
              go_cut [76] from 65 to 75 (fun s wx => s = .bool false ∧ Hid (wx = w5))
              case first =>
                rcases HLK.out with ⟨rfl, i, rfl, hi⟩ | ⟨rfl, rfl, hi⟩
                · have e1 := HAT.out
                  simp only [if_true] at e1
                  subst e1
                  go_wp2_with fail
                  go_meet
                  exact ⟨rfl, Lib.hid rfl⟩
                · have e1 := HAT.out
                  simp only [Bool.false_eq_true, if_false] at e1
                  subst e1
                  go_wp2_with fail
                  go_meet
                  exact ⟨rfl, Lib.hid rfl⟩
              case rest =>
                obtain ⟨rfl, hw5⟩ := hcut
                cases hw5.out
                clear hw5
                have hd := HDW.out w5 HT5.out.below
                obtain ⟨d0, d1, d2⟩ := hd
                go_upto_if 82 with fail
                go_cut [7, 9, 13, 14, 15] from 77 to 158 (fun s _ _ _ _ wx => ∃ ks', Hid (Both W wx (.pointer (some ⟨bt, 0, none⟩)) R s ks'))
                case first =>
                  by_cases hop0 : op = 0
                  · subst hop0
                    obtain ⟨n1, b1, ks', hp⟩ := puts_ex R ks key
                    have HP := Lib.hid hp; clear hp
                    (go_wp2_with fail; go_fit (put_in HT5.out key hkey HP.out); rintro e w6 ⟨rfl, h6, ha6⟩)
                    have HT6 := Lib.hid h6; have HK6 := Lib.hid (HK5.out.apart ha6); clear h6 ha6
                    clear d0 d1 d2
                    obtain ⟨d0, d1, d2⟩ := HDW.out w6 HT6.out.below
                    rcases HP.out with ⟨rfl, e0, i, rfl, hi⟩ | ⟨rfl, rfl, hi, e0, hle⟩ | ⟨rfl, rfl, hi, e0, hlt'⟩
                    · have e1 := at_yes HT5.out.nodup HLK.out HAT.out hi
                      subst e1
                      subst e0
                      clear hi
                      go_wp2_with fail
                      go_meet
                      exact ⟨_, Lib.hid ⟨G, HT6.out, HK6.out⟩⟩
                    · have e1 := at_no HLK.out HAT.out hi
                      subst e1
                      subst e0
                      clear hi
                      have hge : ¬ ((ks'.length : Int) < R) := by omega
                      have hge' : decide ((ks'.length : Int) < R) = false := by simp; omega
                      go_wp2_with fail
                      go_meet
                      exact ⟨_, Lib.hid ⟨G, HT6.out, HK6.out⟩⟩
                    · have e1 := at_no HLK.out HAT.out hi
                      subst e1
                      subst e0
                      have hge : ((ks.length : Int) < R) := by omega
                      have hge' : decide ((ks.length : Int) < R) = true := by simp; omega
                      have HSC := Lib.hid (fun (wq : World) (hb : Below w6.heap.size w6 wq) => HK6.out.src (G := G) HT6.out.glt hb)
                      obtain ⟨i0, hi0, hz0, hz1, hz2⟩ := info_parts sInfo
                      have hbl6 := World.block_lt_of_cell? _ _ d2
                      simp only at hbl6
                      clear hlt' hi d0 d1
                      go_wp2_with fail
                      go_region_held3 (fun w' => w'.cell? ⟨bl, off + k * 3 + 2, none⟩ = some (.string key)) (first | (exact cell_later HB8.out d2) | (exact cell_later HB7.out d2) | go_keep)
                        (first
                          | (refine step_append_any (by rfl) _ _ _ (by rfl) 0 9 i0 (.string ⟨#[]⟩) 16 Try.underlying34 hi0 hz0 hz1 hz2 rfl _ 0 [] (by rfl) (row_laid (heap_alloc_new w6 _)) aw ks.length cw (ks.map Value.string) (by rfl) (by simp) (HSC.out _ ((Below.refl _ _).alloc (Nat.le_refl _) _).drew) (by simp [Value.oneCell']) (by unfold maxLen; omega) (by omega) (Nat.zero_le _) ks.length (ks.map Value.string) (by omega) rfl ?_; intro a7 c7 w7 hown7 hgrow7 hat7; have HB7 := Lib.hid (grow_below ((Below.refl _ _).alloc (Nat.le_refl _) _).drew hgrow7 (fun k e => own_ge e (by omega))); have HA7 := Lib.hid (at_block ((Below.refl _ _).alloc (Nat.le_refl _) _).drew (fun k e => own_ge e (by omega)) hat7); have HO7 := Lib.hid hown7; have HG7 := Lib.hid hgrow7; clear hown7 hgrow7 hat7)
                          | (refine step_append_any (by rfl) _ _ _ (by rfl) 0 9 i0 (.string ⟨#[]⟩) 16 Try.underlying34 hi0 hz0 hz1 hz2 rfl _ 0 [] (by rfl) (row_laid (laid_two w6 _ _)) aw ks.length cw (ks.map Value.string) (by rfl) (by simp) (HSC.out _ (((Below.refl _ _).alloc (Nat.le_refl _) _).alloc (by simp) _).drew) (by simp [Value.oneCell']) (by unfold maxLen; omega) (by omega) (Nat.zero_le _) ks.length (ks.map Value.string) (by omega) rfl ?_; intro a7 c7 w7 hown7 hgrow7 hat7; have HB7 := Lib.hid (grow_below (((Below.refl _ _).alloc (Nat.le_refl _) _).alloc (by simp) _).drew hgrow7 (fun k e => own_ge e (by omega))); have HA7 := Lib.hid (at_block (((Below.refl _ _).alloc (Nat.le_refl _) _).alloc (by simp) _).drew (fun k e => own_ge e (by omega)) hat7); have HO7 := Lib.hid hown7; have HG7 := Lib.hid hgrow7; clear hown7 hgrow7 hat7)
                          | (refine step_append_any (by rfl) _ _ _ (by rfl) 0 9 i0 (.string ⟨#[]⟩) 16 Try.underlying34 hi0 hz0 hz1 hz2 rfl _ 0 [] (by rfl) (row_laid (laid_last w6 _ _)) aw ks.length cw (ks.map Value.string) (by rfl) (by simp) (HSC.out _ (((Below.refl _ _).alloc (Nat.le_refl _) _).alloc (by simp) _).drew) (by simp [Value.oneCell']) (by unfold maxLen; omega) (by omega) (Nat.zero_le _) ks.length (ks.map Value.string) (by omega) rfl ?_; intro a7 c7 w7 hown7 hgrow7 hat7; have HB7 := Lib.hid (grow_below (((Below.refl _ _).alloc (Nat.le_refl _) _).alloc (by simp) _).drew hgrow7 (fun k e => own_ge e (by omega))); have HA7 := Lib.hid (at_block (((Below.refl _ _).alloc (Nat.le_refl _) _).alloc (by simp) _).drew (fun k e => own_ge e (by omega)) hat7); have HO7 := Lib.hid hown7; have HG7 := Lib.hid hgrow7; clear hown7 hgrow7 hat7)
                          | (refine step_append_any (by rfl) _ _ _ (by rfl) 0 9 i0 (.string ⟨#[]⟩) 16 Try.underlying34 hi0 hz0 hz1 hz2 rfl (.slice a7 ks.length c7) ks.length (ks.map Value.string) (by rfl) (HO7.out.alloc _) (some _) 1 1 [.string key] (by rfl) (by rfl) (Or.inr ⟨_, rfl, cell_one_new _ _ _⟩) (by simp [Value.oneCell']) (by unfold maxLen; omega) (by omega) (Nat.zero_le _) (ks.length + 1) (ks.map Value.string ++ [.string key]) rfl rfl ?_; intro a8 c8 w8 hown8 hgrow8 hat8; have HB8 := Lib.hid (grow_below (HB7.out.alloc HB7.out.size _) hgrow8 HA7.out); have HA8 := Lib.hid (at_block (HB7.out.alloc HB7.out.size _) HA7.out hat8); have HO8 := Lib.hid hown8; clear hown8 hgrow8 hat8)
                          | (refine step_append_any (by rfl) _ _ _ (by rfl) 0 9 i0 (.string ⟨#[]⟩) 16 Try.underlying34 hi0 hz0 hz1 hz2 rfl (.slice a7 ks.length c7) ks.length (ks.map Value.string) (by rfl) HO7.out (some _) 1 1 [.string key] (by rfl) (by rfl) (Or.inr ⟨_, rfl, old_one HG7.out (heap_alloc_new _ _) (by simp [Value.ownBlock])⟩) (by simp [Value.oneCell']) (by unfold maxLen; omega) (by omega) (Nat.zero_le _) (ks.length + 1) (ks.map Value.string ++ [.string key]) rfl rfl ?_; intro a8 c8 w8 hown8 hgrow8 hat8; have HB8 := Lib.hid (grow_below HB7.out hgrow8 HA7.out); have HA8 := Lib.hid (at_block HB7.out HA7.out hat8); have HO8 := Lib.hid hown8; clear hown8 hgrow8 hat8)
                          | (refine step_append_any (by rfl) _ _ _ (by rfl) 0 9 i0 (.string ⟨#[]⟩) 16 Try.underlying34 hi0 hz0 hz1 hz2 rfl (.slice a7 ks.length c7) ks.length (ks.map Value.string) (by rfl) HO7.out (some _) 1 1 [.string key] (by rfl) (by rfl) (Or.inr ⟨_, rfl, old_one HG7.out (laid_two w6 _ _) (by simp [Value.ownBlock])⟩) (by simp [Value.oneCell']) (by unfold maxLen; omega) (by omega) (Nat.zero_le _) (ks.length + 1) (ks.map Value.string ++ [.string key]) rfl rfl ?_; intro a8 c8 w8 hown8 hgrow8 hat8; have HB8 := Lib.hid (grow_below HB7.out hgrow8 HA7.out); have HA8 := Lib.hid (at_block HB7.out HA7.out hat8); have HO8 := Lib.hid hown8; clear hown8 hgrow8 hat8)
                          | (refine step_append_any (by rfl) _ _ _ (by rfl) 0 9 i0 (.string ⟨#[]⟩) 16 Try.underlying34 hi0 hz0 hz1 hz2 rfl (.slice a7 ks.length c7) ks.length (ks.map Value.string) (by rfl) HO7.out (some _) 1 1 [.string key] (by rfl) (by rfl) (Or.inr ⟨_, rfl, old_one HG7.out (laid_last w6 _ _) (by simp [Value.ownBlock])⟩) (by simp [Value.oneCell']) (by unfold maxLen; omega) (by omega) (Nat.zero_le _) (ks.length + 1) (ks.map Value.string ++ [.string key]) rfl rfl ?_; intro a8 c8 w8 hown8 hgrow8 hat8; have HB8 := Lib.hid (grow_below HB7.out hgrow8 HA7.out); have HA8 := Lib.hid (at_block HB7.out HA7.out hat8); have HO8 := Lib.hid hown8; clear hown8 hgrow8 hat8)
                          | fail)
                      all_goals
                        go_wp2_with fail
                        go_meet
                        exact ⟨_, Lib.hid (both_end HT6.out HB8.out (by simpa using HO8.out) HA8.out)⟩
                  · obtain ⟨b1, ks', hp⟩ := cuts_ex ks nn
                    have HP := Lib.hid hp; clear hp
                    rcases HP.out with ⟨rfl, e0, hi⟩ | ⟨rfl, n, rfl, hn, e0⟩
                    · subst e0
                      by_cases hn0 : nn < 0
                      · have hn1 : decide (0 ≤ nn) = false := by simp; omega
                        (go_wp2_with fail; go_fit (cut_in' HT5.out nn HP.out); rintro e w6 ⟨rfl, h6, ha6⟩)
                        have HT6 := Lib.hid h6; have HK6 := Lib.hid (HK5.out.apart ha6); clear h6 ha6
                        go_wp2_with fail
                        go_meet
                        exact ⟨_, Lib.hid ⟨G, HT6.out, HK6.out⟩⟩
                      · have hn1 : decide (0 ≤ nn) = true := by simp; omega
                        have hn2 : decide (nn ≤ (ks'.length : Int)) = false := by simp; omega
                        have hn3 : ¬ (nn ≤ (ks'.length : Int)) := by omega
                        (go_wp2_with fail; go_fit (cut_in' HT5.out nn HP.out); rintro e w6 ⟨rfl, h6, ha6⟩)
                        have HT6 := Lib.hid h6; have HK6 := Lib.hid (HK5.out.apart ha6); clear h6 ha6
                        go_wp2_with fail
                        go_meet
                        exact ⟨_, Lib.hid ⟨G, HT6.out, HK6.out⟩⟩
                    · have hn1 : decide ((0 : Int) ≤ (n : Int)) = true := by simp
                      have hn2 : decide ((n : Int) ≤ (ks.length : Int)) = true := by simp; omega
                      have hn3 : (n : Int) ≤ (ks.length : Int) := by omega
                      (go_wp2_with fail; go_fit (cut_in' HT5.out n HP.out); rintro e w6 ⟨rfl, h6, ha6⟩)
                      have HT6 := Lib.hid h6; have HK6 := Lib.hid (HK5.out.apart ha6); clear h6 ha6
                      clear d0 d1 d2
                      obtain ⟨d0, d1, d2⟩ := HDW.out w6 HT6.out.below
                      subst e0
                      go_wp2_with fail
                      go_meet
                      exact ⟨_, Lib.hid ⟨G, HT6.out, HK6.out.take n hn⟩⟩
                case rest =>
                  obtain ⟨ks2, HBo2⟩ := hcut
                  obtain ⟨G2, hT2, hK2⟩ := HBo2.out
                  obtain ⟨a2, c2, rfl, hc21, hc22, hcell2⟩ := hK2
                  have HTC := Lib.hid hT2
                  have HKC2 := Lib.hid (show KRow wc (.slice a2 ks2.length c2) ks2 G2 from ⟨a2, c2, rfl, hc21, hc22, hcell2⟩)
                  have hkl2 : ks2.length ≤ 65536 := by have := hT2.room; omega
                  clear hT2 hcell2 HBo2 HKC HDC HKR HK HT d0 d1 d2
                  (go_wp2_with fail; go_fit (all_in HTC.out); rintro e w9 ⟨rfl, h9, ha9, hall⟩)
                  have HT9 := Lib.hid h9; have HK9 := Lib.hid (HKC2.out.apart ha9); have HALL := Lib.hid hall
                  clear h9 ha9 hall
                  (go_wp2_with fail; go_fit (len_in HT9.out); rintro e w' ⟨rfl, rfl⟩)
                  go_wp2_with fail
                  go_loopw [17] (fun i wq => ∃ j : Nat, j ≤ ks2.length ∧ i = .int .i64 j ∧ Hid (Below w9.heap.size w9 wq)) (fun i _ => ks2.length - (intOf i).toNat)
                  case atStart => exact ⟨0, by omega, rfl, Lib.hid (Below.refl _ _)⟩
                  case round =>
                    obtain ⟨j2, hj2, rfl, HBq2⟩ := hrel
                    by_cases hjl2 : j2 < ks2.length
                    · obtain ⟨y, hy⟩ : ∃ y, ks2[j2]? = some y := ⟨_, List.getElem?_eq_getElem hjl2⟩
                      have ca := cell_later HBq2.out (HALL.out j2 y hy)
                      obtain ⟨g2, rfl, cg⟩ : ∃ g, a2 = some ⟨g, 0, none⟩ ∧ wr.cell? ⟨g, j2, none⟩ = some (.string y) := by
                        obtain ⟨a', c', e, _, _, h4⟩ := HK9.out
                        cases e
                        rcases h4 with rfl | ⟨g, e, hg, hc⟩
                        · simp at hjl2
                        · exact ⟨g, e, cell_later HBq2.out (hc j2 y hy)⟩
                      have hjj2 : (j2 : Int) < ks2.length := by omega
                      have HTR := Lib.hid (HT9.out.same HBq2.out)
                      have HY := Lib.hid hy; clear hy
                      (go_wp2_with fail; go_fit (at_hit HTR.out j2 y HY.out); rintro e w' ⟨rfl, rfl⟩)
                      go_wp2_with fail
                      go_quiet (fail)
                      go_wp2
                      go_roundw
                      case rel => exact ⟨j2 + 1, by omega, by go_num, Lib.hid (belN HBq2.out _)⟩
                      case measure => simp [intOf]; omega
                    · have HTR := Lib.hid (show Both W wr (.pointer (some ⟨bt, 0, none⟩)) R (.slice a2 ks2.length c2) ks2 from
                        ⟨G2, (HT9.out.same HBq2.out).less G2 (fun k hk => List.mem_cons_of_mem _ hk), HK9.out.apart (Apart.of_below HBq2.out (fun k hk => HT9.out.glt k (List.mem_cons_of_mem _ hk)))⟩)
                      go_wp2
                      go_roundw
                      case rel => exact ⟨k + 1, ks2, by omega, by go_num, HTR⟩
                      case measure => simp [intOf]; omega
        · go_wp2
          go_ret
          obtain ⟨G, hT, _⟩ := HBo.out
          exact ⟨rfl, hT.below⟩
end Go.Proofs.Ytjpdigdocdppbaa
