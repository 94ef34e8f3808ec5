/- The document's own: the plain operators. -/
import Derived.Test.YthalpdjnclfleaaOpU
namespace Go.Proofs.Ythalpdjnclfleaa
open Go.Shelf Go.RowKit

/-- While the plain ones are laid: the row of the call's own, and the names beside it. -/
def PlainAt (w wr : World) (nb : Nat) (names : List ByteArray) (L : List O) (m : Nat) (r : Value) : Prop :=
  wr.ownsRow w.heap.size 40 3 r m (L.flatMap oCells) ∧ L.length = m ∧ (∀ (j : Nat) (s : ByteArray), names[j]? = some s → wr.cell? ⟨nb, j, none⟩ = some (.string s)) ∧ r.ownBlock ≠ some nb ∧ w.heap.size ≤ nb ∧ nb < wr.heap.size ∧ Below w.heap.size w wr
theorem own_lt {w : World} {B e s n : Nat} {v : Value} {xs : List Value} (h : w.ownsRow B e s v n xs) : ∀ k, v.ownBlock = some k → k < w.heap.size := fun k hk => by
  rcases h.2 with ⟨rfl, _⟩ | ⟨g, cap, cur, rfl, hg, hh, _⟩
  · simp [Value.ownBlock] at hk
  · simp [Value.ownBlock] at hk
    subst hk
    exact (Array.getElem?_eq_some_iff.1 hh).1
theorem PlainAt.next {w wr w4 : World} {nb m : Nat} {names : List ByteArray} {L : List O} {r r' : Value} (h : PlainAt w wr nb names L m r) (x : O) (X : Obj) (hown : w4.ownsRow w.heap.size 40 3 r' (m + 1) ((L ++ [x]).flatMap oCells))
    (hg : (wr.alloc X).grownBy w4 r.ownBlock) (hat : r'.ownBlock = r.ownBlock ∨ r'.ownBlock = some (wr.alloc X).heap.size) : PlainAt w w4 nb names (L ++ [x]) (m + 1) r' := by
  obtain ⟨h1, h2, h3, h4, h5, h6, h7⟩ := h
  have hs : (wr.alloc X).heap.size = wr.heap.size + 1 := by simp
  refine ⟨hown, by rw [List.length_append, h2]; rfl, fun j s hj => ?_, ?_, h5, ?_, ?_⟩
  · rw [World.cell?_of_block (w := wr.alloc X) (hg.block nb (by omega) (fun e => h4 e.symm))]
    exact Lib.cell?_alloc_some _ (h3 j s hj)
  · rcases hat with e | e
    · rw [e]; exact h4
    · rw [e, hs]
      intro e'
      injection e' with e'
      omega
  · have := hg.size
    omega
  · exact (h7.alloc h7.size X).grown hg (by have := h7.size; omega) (own_base h1)
theorem PlainAt.names {w wr : World} {nb m : Nat} {names : List ByteArray} {L : List O} {r : Value} (h : PlainAt w wr nb names L m r) (ns : List ByteArray) : PlainAt w (wr.alloc (.cells (ns.map Value.string).toArray 9)) wr.heap.size ns L m r := by
  obtain ⟨h1, h2, h3, h4, h5, h6, h7⟩ := h
  refine ⟨h1.alloc _, h2, fun j s hj => ?_, fun e => ?_, h7.size, by simp, h7.alloc h7.size _⟩
  · rw [World.cell?_alloc_at _ _ _ _ rfl]
    simp [hj]
  · have := own_lt h1 _ e
    omega
def plain0 : List O := alikeB xfx 1200 names1 ++ alikeB xfy 1100 names2 ++ alikeB xfy 1050 names3 ++ alikeB xfy 1000 names4 ++ alikeB fy 900 names5
def plain9 : List O := alikeB xfy 200 names9 ++ alikeB fy 200 names10
theorem plain_parts : plain0 ++ alikeB xfx 700 names6 ++ alikeB yfx 500 names7 ++ alikeB yfx 400 names8 ++ plain9 = plainB := by
  simp only [plain0, plain9, plainB, List.append_assoc]
theorem alikeB_take (k : ByteArray) (l : Int) (ns : List ByteArray) {j : Nat} {s : ByteArray} (h : ns[j]? = some s) : alikeB k l (ns.take (j + 1)) = alikeB k l (ns.take j) ++ [⟨s, k, l⟩] := by
  unfold alikeB
  rw [List.take_add_one, h, List.map_append]
  rfl
theorem alikeB_all (k : ByteArray) (l : Int) (ns : List ByteArray) {j : Nat} (h : ns.length ≤ j) : alikeB k l (ns.take j) = alikeB k l ns := by rw [List.take_of_length_le h]
theorem five_row (w : World) : (w.alloc (.cells #[.string ⟨#[58, 45]⟩, .string ⟨#[120, 102, 120]⟩, .int .i64 1200, .string ⟨#[59]⟩, .string ⟨#[120, 102, 121]⟩, .int .i64 1100, .string ⟨#[45, 62]⟩, .string ⟨#[120, 102, 121]⟩, .int .i64 1050, .string ⟨#[44]⟩, .string ⟨#[120, 102, 121]⟩, .int .i64 1000, .string ⟨#[92, 43]⟩, .string ⟨#[102, 121]⟩, .int .i64 900] 40)).ownsRow w.heap.size 40 3 (.slice (some ⟨w.heap.size, 0, none⟩) 5 5) 5 (plain0.flatMap oCells) :=
  ⟨rfl, Or.inr ⟨w.heap.size, 5, _, rfl, Nat.le_refl _, heap_alloc_new w _, Nat.le_refl _, by unfold maxLen; omega, rfl, rfl⟩⟩
theorem five_at (w : World) (ns : List ByteArray) : PlainAt w ((w.alloc (.cells #[.string ⟨#[58, 45]⟩, .string ⟨#[120, 102, 120]⟩, .int .i64 1200, .string ⟨#[59]⟩, .string ⟨#[120, 102, 121]⟩, .int .i64 1100, .string ⟨#[45, 62]⟩, .string ⟨#[120, 102, 121]⟩, .int .i64 1050, .string ⟨#[44]⟩, .string ⟨#[120, 102, 121]⟩, .int .i64 1000, .string ⟨#[92, 43]⟩, .string ⟨#[102, 121]⟩, .int .i64 900] 40)).alloc (.cells (ns.map Value.string).toArray 9)) (w.heap.size + 1) ns plain0 5 (.slice (some ⟨w.heap.size, 0, none⟩) 5 5) := by
  refine ⟨(five_row w).alloc _, rfl, fun j s hj => ?_, by simp [Value.ownBlock], by omega, by simp, (bel1' _ _).trans ((bel1' _ _).mono (by simp))⟩
  rw [World.cell?_alloc_at _ _ _ _ (by simp)]
  simp [hj]
theorem three_src (w : World) : ∀ (j : Nat) (u : Value), (plain9.flatMap oCells)[j]? = some u → (w.alloc (.cells #[.string ⟨#[94]⟩, .string ⟨#[120, 102, 121]⟩, .int .i64 200, .string ⟨#[45]⟩, .string ⟨#[102, 121]⟩, .int .i64 200, .string ⟨#[92]⟩, .string ⟨#[102, 121]⟩, .int .i64 200] 40)).cell? ((⟨w.heap.size, 0, none⟩ : Addr).add j) = some u := fun j u hu => by
  rw [add_plain, Nat.zero_add, World.cell?_alloc_at _ _ _ _ rfl]
  have e : plain9.flatMap oCells = [.string ⟨#[94]⟩, .string ⟨#[120, 102, 121]⟩, .int .i64 200, .string ⟨#[45]⟩, .string ⟨#[102, 121]⟩, .int .i64 200, .string ⟨#[92]⟩, .string ⟨#[102, 121]⟩, .int .i64 200] := rfl
  rw [e] at hu
  simpa using hu
theorem names6_lit : (names6.map Value.string).toArray = #[.string ⟨#[61]⟩, .string ⟨#[92, 61]⟩, .string ⟨#[61, 61]⟩, .string ⟨#[92, 61, 61]⟩, .string ⟨#[64, 60]⟩, .string ⟨#[64, 62]⟩, .string ⟨#[64, 61, 60]⟩, .string ⟨#[64, 62, 61]⟩, .string ⟨#[61, 46, 46]⟩, .string ⟨#[105, 115]⟩, .string ⟨#[61, 58, 61]⟩, .string ⟨#[61, 92, 61]⟩, .string ⟨#[60]⟩, .string ⟨#[62]⟩, .string ⟨#[61, 60]⟩, .string ⟨#[62, 61]⟩] := rfl
theorem names7_lit : (names7.map Value.string).toArray = #[.string ⟨#[43]⟩, .string ⟨#[45]⟩, .string ⟨#[47, 92]⟩, .string ⟨#[92, 47]⟩, .string ⟨#[120, 111, 114]⟩] := rfl
theorem names8_lit : (names8.map Value.string).toArray = #[.string ⟨#[42]⟩, .string ⟨#[47, 47]⟩, .string ⟨#[109, 111, 100]⟩, .string ⟨#[114, 101, 109]⟩, .string ⟨#[62, 62]⟩, .string ⟨#[60, 60]⟩] := rfl

set_option maxRecDepth 100000
set_option maxHeartbeats 2000000 in
theorem plainOps_walk (w : World) : Calls Try.prog 15 #[] w fun e w' => ∃ a c, e = .returned (.slice a 35 c) ∧ Ops w' (.slice a 35 c) plainB ∧ Below w.heap.size w w' := by
  obtain ⟨i0, hi0, hz0, hs0, hb0⟩ := infoR_parts
  have ha6 := five_at w names6
  rw [names6_lit] at ha6
  obtain ⟨nb6, hnb6⟩ : ∃ nb, w.heap.size + 1 = nb := ⟨_, rfl⟩
  have HA6 := Lib.hid ha6
  clear ha6
  go_enter Try.func15, Try.ntmps15
  go_wp2_with fail
  rw [hnb6] at HA6
  try rw [hnb6]
  go_loopw [1, 3] (fun r i wr => ∃ (k : Nat) (a' : Option Addr) (c' : Nat), k ≤ 16 ∧ i = .int .i64 k ∧ r = .slice a' (5 + k) c' ∧ Hid (PlainAt w wr nb6 names6 (plain0 ++ alikeB xfx 700 (names6.take k)) (5 + k) (.slice a' (5 + k) c'))) (fun _ i _ => 16 - (intOf i).toNat)
  case atStart => exact ⟨0, _, _, by omega, rfl, rfl, by have := HA6.out; exact Lib.hid (by simpa [alikeB] using this)⟩
  case round =>
    obtain ⟨k, a1, c1, hk, rfl, rfl, HR⟩ := hrel
    by_cases hlt : k < 16
    · obtain ⟨x, hx⟩ : ∃ x, names6[k]? = some x := ⟨_, List.getElem?_eq_getElem (by exact hlt)⟩
      have d0 := HR.out.2.2.1 k x hx
      have HT : Hid (plain0 ++ alikeB xfx 700 (names6.take (k + 1)) = (plain0 ++ alikeB xfx 700 (names6.take k)) ++ [⟨x, xfx, 700⟩]) := Lib.hid (by rw [alikeB_take _ _ _ hx, List.append_assoc])
      have HTF : Hid (((plain0 ++ alikeB xfx 700 (names6.take k)) ++ [(⟨x, xfx, 700⟩ : O)]).flatMap oCells = (plain0 ++ alikeB xfx 700 (names6.take k)).flatMap oCells ++ [(⟨x, xfx, 700⟩ : O)].flatMap oCells) := Lib.hid (by rw [List.flatMap_append])
      have hkk : (k : Int) < 16 := by omega
      have HSZ := Lib.hid HR.out.2.2.2.2.2.2.size
      clear hx
      obtain ⟨L, hL⟩ : ∃ L, plain0 ++ alikeB xfx 700 (names6.take k) = L := ⟨_, rfl⟩
      rw [hL] at HR HT HTF
      clear hL
      go_wp2_with (first
        | (at_builtin; refine wpList_append_k rfl _ _ 37 rfl w.heap.size 40 i0 (.agg #[.string ⟨#[]⟩, .string ⟨#[]⟩, .int .i64 0]) 3 40 Try.underlying37 hi0 hz0 hs0 (by decide) hb0 rfl (.slice a1 (5 + k) c1) (5 + k) (L.flatMap oCells) rfl (HR.out.1.alloc _) (some ⟨wr.heap.size, 0, none⟩) 1 1 ([(⟨x, xfx, 700⟩ : O)].flatMap oCells) rfl rfl (Or.inr ⟨_, rfl, one_src wr ⟨x, xfx, 700⟩ 40⟩) (flat3_one _) (by unfold maxLen; omega) (by omega) (by have := HSZ.out; simp; omega) (5 + (k + 1)) ((L ++ [(⟨x, xfx, 700⟩ : O)]).flatMap oCells) (by omega) HTF.out ?_; intro a4 c4 w4 hown4 hgrow4 hat4
           have HN4 := Lib.hid (HR.out.next ⟨x, xfx, 700⟩ _ hown4 hgrow4 hat4)
           clear hown4 hgrow4 hat4)
        | fail)
      exact ⟨⟨k + 1, a4, c4, by omega, by go_num, rfl, by rw [HT.out]; exact HN4⟩, by simp [intOf]; omega⟩
    · have hkn : k = 16 := by omega
      have hkk : ¬ (k : Int) < 16 := by omega
      have hfin := HR.out
      rw [alikeB_all _ _ _ (by rw [hkn]; exact Nat.le_refl _)] at hfin
      subst hkn
      obtain ⟨L6, hL6⟩ : ∃ L, plain0 ++ alikeB xfx 700 names6 = L := ⟨_, rfl⟩
      rw [hL6] at hfin
      have HL6 := Lib.hid hL6
      have ha := hfin.names names7
      rw [names7_lit] at ha
      have HA7 := Lib.hid ha
      clear ha hfin hL6 HR
      obtain ⟨nb7, hnb7⟩ : ∃ nb, wr.heap.size = nb := ⟨_, rfl⟩
      skip
      go_wp2_with fail
      rw [hnb7] at HA7
      (try rw [hnb7])
      go_loopw [1, 5] (fun r i wr => ∃ (k : Nat) (a' : Option Addr) (c' : Nat), k ≤ 5 ∧ i = .int .i64 k ∧ r = .slice a' (21 + k) c' ∧ Hid (PlainAt w wr nb7 names7 (L6 ++ alikeB yfx 500 (names7.take k)) (21 + k) (.slice a' (21 + k) c'))) (fun _ i _ => 5 - (intOf i).toNat)
      case atStart => exact ⟨0, _, _, by omega, rfl, rfl, by have := HA7.out; exact Lib.hid (by simpa [alikeB] using this)⟩
      case round =>
        obtain ⟨k, a1, c1, hk, rfl, rfl, HR⟩ := hrel
        by_cases hlt : k < 5
        · obtain ⟨x, hx⟩ : ∃ x, names7[k]? = some x := ⟨_, List.getElem?_eq_getElem (by exact hlt)⟩
          have d0 := HR.out.2.2.1 k x hx
          have HT : Hid (L6 ++ alikeB yfx 500 (names7.take (k + 1)) = (L6 ++ alikeB yfx 500 (names7.take k)) ++ [⟨x, yfx, 500⟩]) := Lib.hid (by rw [alikeB_take _ _ _ hx, List.append_assoc])
          have HTF : Hid (((L6 ++ alikeB yfx 500 (names7.take k)) ++ [(⟨x, yfx, 500⟩ : O)]).flatMap oCells = (L6 ++ alikeB yfx 500 (names7.take k)).flatMap oCells ++ [(⟨x, yfx, 500⟩ : O)].flatMap oCells) := Lib.hid (by rw [List.flatMap_append])
          have hkk : (k : Int) < 5 := by omega
          have HSZ := Lib.hid HR.out.2.2.2.2.2.2.size
          clear hx
          obtain ⟨L, hL⟩ : ∃ L, L6 ++ alikeB yfx 500 (names7.take k) = L := ⟨_, rfl⟩
          rw [hL] at HR HT HTF
          clear hL
          go_wp2_with (first
            | (at_builtin; refine wpList_append_k rfl _ _ 37 rfl w.heap.size 40 i0 (.agg #[.string ⟨#[]⟩, .string ⟨#[]⟩, .int .i64 0]) 3 40 Try.underlying37 hi0 hz0 hs0 (by decide) hb0 rfl (.slice a1 (21 + k) c1) (21 + k) (L.flatMap oCells) rfl (HR.out.1.alloc _) (some ⟨wr.heap.size, 0, none⟩) 1 1 ([(⟨x, yfx, 500⟩ : O)].flatMap oCells) rfl rfl (Or.inr ⟨_, rfl, one_src wr ⟨x, yfx, 500⟩ 40⟩) (flat3_one _) (by unfold maxLen; omega) (by omega) (by have := HSZ.out; simp; omega) (21 + (k + 1)) ((L ++ [(⟨x, yfx, 500⟩ : O)]).flatMap oCells) (by omega) HTF.out ?_; intro a4 c4 w4 hown4 hgrow4 hat4
               have HN4 := Lib.hid (HR.out.next ⟨x, yfx, 500⟩ _ hown4 hgrow4 hat4)
               clear hown4 hgrow4 hat4)
            | fail)
          exact ⟨⟨k + 1, a4, c4, by omega, by go_num, rfl, by rw [HT.out]; exact HN4⟩, by simp [intOf]; omega⟩
        · have hkn : k = 5 := by omega
          have hkk : ¬ (k : Int) < 5 := by omega
          have hfin := HR.out
          rw [alikeB_all _ _ _ (by rw [hkn]; exact Nat.le_refl _)] at hfin
          subst hkn
          obtain ⟨L7, hL7⟩ : ∃ L, L6 ++ alikeB yfx 500 names7 = L := ⟨_, rfl⟩
          rw [hL7] at hfin
          have HL7 := Lib.hid hL7
          have ha := hfin.names names8
          rw [names8_lit] at ha
          have HA8 := Lib.hid ha
          clear ha hfin hL7 HR
          obtain ⟨nb8, hnb8⟩ : ∃ nb, wr.heap.size = nb := ⟨_, rfl⟩
          skip
          go_wp2_with fail
          rw [hnb8] at HA8
          (try rw [hnb8])
          go_loopw [1, 7] (fun r i wr => ∃ (k : Nat) (a' : Option Addr) (c' : Nat), k ≤ 6 ∧ i = .int .i64 k ∧ r = .slice a' (26 + k) c' ∧ Hid (PlainAt w wr nb8 names8 (L7 ++ alikeB yfx 400 (names8.take k)) (26 + k) (.slice a' (26 + k) c'))) (fun _ i _ => 6 - (intOf i).toNat)
          case atStart => exact ⟨0, _, _, by omega, rfl, rfl, by have := HA8.out; exact Lib.hid (by simpa [alikeB] using this)⟩
          case round =>
            obtain ⟨k, a1, c1, hk, rfl, rfl, HR⟩ := hrel
            by_cases hlt : k < 6
            · obtain ⟨x, hx⟩ : ∃ x, names8[k]? = some x := ⟨_, List.getElem?_eq_getElem (by exact hlt)⟩
              have d0 := HR.out.2.2.1 k x hx
              have HT : Hid (L7 ++ alikeB yfx 400 (names8.take (k + 1)) = (L7 ++ alikeB yfx 400 (names8.take k)) ++ [⟨x, yfx, 400⟩]) := Lib.hid (by rw [alikeB_take _ _ _ hx, List.append_assoc])
              have HTF : Hid (((L7 ++ alikeB yfx 400 (names8.take k)) ++ [(⟨x, yfx, 400⟩ : O)]).flatMap oCells = (L7 ++ alikeB yfx 400 (names8.take k)).flatMap oCells ++ [(⟨x, yfx, 400⟩ : O)].flatMap oCells) := Lib.hid (by rw [List.flatMap_append])
              have hkk : (k : Int) < 6 := by omega
              have HSZ := Lib.hid HR.out.2.2.2.2.2.2.size
              clear hx
              obtain ⟨L, hL⟩ : ∃ L, L7 ++ alikeB yfx 400 (names8.take k) = L := ⟨_, rfl⟩
              rw [hL] at HR HT HTF
              clear hL
              go_wp2_with (first
                | (at_builtin; refine wpList_append_k rfl _ _ 37 rfl w.heap.size 40 i0 (.agg #[.string ⟨#[]⟩, .string ⟨#[]⟩, .int .i64 0]) 3 40 Try.underlying37 hi0 hz0 hs0 (by decide) hb0 rfl (.slice a1 (26 + k) c1) (26 + k) (L.flatMap oCells) rfl (HR.out.1.alloc _) (some ⟨wr.heap.size, 0, none⟩) 1 1 ([(⟨x, yfx, 400⟩ : O)].flatMap oCells) rfl rfl (Or.inr ⟨_, rfl, one_src wr ⟨x, yfx, 400⟩ 40⟩) (flat3_one _) (by unfold maxLen; omega) (by omega) (by have := HSZ.out; simp; omega) (26 + (k + 1)) ((L ++ [(⟨x, yfx, 400⟩ : O)]).flatMap oCells) (by omega) HTF.out ?_; intro a4 c4 w4 hown4 hgrow4 hat4
                   have HN4 := Lib.hid (HR.out.next ⟨x, yfx, 400⟩ _ hown4 hgrow4 hat4)
                   clear hown4 hgrow4 hat4)
                | fail)
              exact ⟨⟨k + 1, a4, c4, by omega, by go_num, rfl, by rw [HT.out]; exact HN4⟩, by simp [intOf]; omega⟩
            · have hkn : k = 6 := by omega
              have hkk : ¬ (k : Int) < 6 := by omega
              have hfin := HR.out
              rw [alikeB_all _ _ _ (by rw [hkn]; exact Nat.le_refl _)] at hfin
              subst hkn
              obtain ⟨L8, hL8⟩ : ∃ L, L7 ++ alikeB yfx 400 names8 = L := ⟨_, rfl⟩
              rw [hL8] at hfin
              have HALL : Hid (L8 ++ plain9 = plainB) := Lib.hid (by rw [← hL8, ← HL7.out, ← HL6.out]; exact plain_parts)
              have HF := Lib.hid hfin
              have HFF : Hid ((L8 ++ plain9).flatMap oCells = L8.flatMap oCells ++ plain9.flatMap oCells) := Lib.hid (by rw [List.flatMap_append])
              have HSZ := Lib.hid hfin.2.2.2.2.2.2.size
              clear hfin hL8 HR
              go_wp2_with (first
                | (at_builtin; refine wpList_append_k rfl _ _ 37 rfl w.heap.size 40 i0 (.agg #[.string ⟨#[]⟩, .string ⟨#[]⟩, .int .i64 0]) 3 40 Try.underlying37 hi0 hz0 hs0 (by decide) hb0 rfl (.slice a1 32 c1) 32 (L8.flatMap oCells) rfl (HF.out.1.alloc _) (some ⟨wr.heap.size, 0, none⟩) 3 3 (plain9.flatMap oCells) rfl rfl (Or.inr ⟨_, rfl, three_src wr⟩) (flat3_one _) (by unfold maxLen; omega) (by omega) (by have := HSZ.out; simp; omega) 35 ((L8 ++ plain9).flatMap oCells) rfl HFF.out ?_; intro a4 c4 w4 hown4 hgrow4 hat4
                   have HO4 := Lib.hid hown4
                   have HB4 := Lib.hid ((HF.out.2.2.2.2.2.2.alloc HSZ.out _).grown hgrow4 (by have := HSZ.out; simp; omega) (own_base HF.out.1))
                   clear hown4 hgrow4 hat4)
                | fail)
              go_ret
              refine ⟨a4, c4, rfl, ?_, HB4.out⟩
              have h5 := HO4.out
              rw [HALL.out] at h5
              have h6 := ops_owned (B := w.heap.size) (e := 40) (L := plainB) (v := .slice a4 35 c4) (by rw [plain_len]; exact h5)
              exact h6
end Go.Proofs.Ythalpdjnclfleaa
