/- LabelKnown: the chapter's examples. -/
import Derived.Test.YtolfbhanglkpkaaLev
import Derived.Test.YtolfbhanglkpkaaLabM
import Derived.Deep.DeepCutAuto
import Derived.Deep.RegionHeld3
namespace Go.Proofs.Ytolfbhanglkpkaa
open Go.RowKit
def Bad (w : World) (v : Value) : Prop := ∃ ss, Strs w v ss ∧ goodNames (ss.map bl) = false
theorem Bad.ext {w w' : World} {v : Value} (h : Bad w v) (hb : Below w.heap.size w w') : Bad w' v := by
  obtain ⟨ss, h1, h2⟩ := h; exact ⟨ss, h1.ext hb, h2⟩
theorem bad_parse {w : World} {v : Value} (s : ByteArray) (h : Bad w v) (hs : s.size ≤ 100000) : Calls Try.prog 9 #[v, .string s] w fun e w' => e = .returned (.tuple #[.int .u64 0, .bool false]) ∧ w = w' := by
  obtain ⟨ss, h1, h2⟩ := h
  exact parse_at s 0 false h1 hs (parse_no (Or.inr h2))
theorem bad_good {w : World} {v : Value} (h : Bad w v) : Calls Try.prog 10 #[v] w fun e w' => e = .returned (.bool false) ∧ w = w' := by
  obtain ⟨ss, h1, h2⟩ := h
  exact (good_any h1).mono fun e w' h => ⟨by rw [h.1, h2], h.2⟩
theorem bad_text {w : World} {v : Value} (h : Bad w v) : Calls Try.prog 11 #[v, .int .u64 0] w fun e w' => e = .returned (.string ⟨#[]⟩) ∧ Below w.heap.size w w' := by
  obtain ⟨ss, h1, h2⟩ := h
  exact text_at 0 ⟨#[]⟩ h1 (by decide) (text_no (by simp [fits, h2]))
theorem bad_top {w : World} {v : Value} (h : Bad w v) : Calls Try.prog 12 #[v] w fun e w' => e = .returned (.int .u64 0) ∧ w = w' := by
  obtain ⟨ss, h1, h2⟩ := h
  exact (top_any h1).mono fun e w' h => ⟨by rw [h.1]; simp [top, h2], h.2⟩
theorem bad_fits {w : World} {v : Value} (h : Bad w v) : Calls Try.prog 13 #[v, .int .u64 0] w fun e w' => e = .returned (.bool false) ∧ w = w' := by
  obtain ⟨ss, h1, h2⟩ := h
  exact (fits_any 0 (by decide) h1).mono fun e w' h => ⟨by rw [h.1]; simp [fits, h2], h.2⟩

theorem Bad.alloc {w : World} {v : Value} (h : Bad w v) (o : Obj) : Bad (w.alloc o) v := h.ext ((Below.refl _ _).alloc (Nat.le_refl _) o)
theorem bad_laid (w : World) (t : TypeId) (ss : List ByteArray) (b n : Nat) (hb : b = w.heap.size) (hn : ss.length = n) (h : n ≤ 100000) (hs : ∀ s ∈ ss, s.size ≤ 100000) (hg : goodNames (ss.map bl) = false) : Bad (w.alloc (.cells (ss.map Value.string).toArray t)) (.slice (some ⟨b, 0, none⟩) n n) := by
  subst hb; exact ⟨ss, strs_laid w t ss n hn h hs, hg⟩
theorem bad_nil (w : World) : Bad w (.slice none 0 0) := ⟨[], ⟨none, 0, rfl, Nat.le_refl _, by unfold maxLen; omega, by simp, by simp, Or.inl rfl⟩, rfl⟩
/-- Seven slices of names, none of them good. -/
def BadAll (w : World) (b : Nat) : Prop := b < w.heap.size ∧ ∀ k, k < 7 → ∃ v, w.cell? ⟨b, 0 + k, none⟩ = some v ∧ Bad w v
theorem BadAll.ext {w w' : World} {b : Nat} (h : BadAll w b) (hb : Below w.heap.size w w') : BadAll w' b :=
  ⟨Nat.lt_of_lt_of_le h.1 hb.size, fun k hk => by obtain ⟨v, h1, h2⟩ := h.2 k hk; exact ⟨v, cell_later hb h1, h2.ext hb⟩⟩
def wrongTexts : List ByteArray := [⟨#[]⟩, ⟨#[123]⟩, ⟨#[123, 125, 120]⟩, ⟨#[123, 99, 44, 97, 125]⟩, ⟨#[123, 97, 44, 97, 125]⟩, ⟨#[123, 100, 125]⟩, ⟨#[123, 97, 44, 125]⟩, ⟨#[97]⟩, ⟨#[123, 32, 97, 125]⟩, ⟨#[123, 97, 32, 98, 125]⟩]
theorem wrong_all : (wrongTexts.all fun s => parse (abc.map bl) (bl s) == (0, false) && decide (s.size ≤ 100)) = true := by decide +kernel
theorem wrong_at {k : Nat} {s : ByteArray} (h : wrongTexts[k]? = some s) : parse (abc.map bl) (bl s) = (0, false) ∧ s.size ≤ 100000 := by
  have := List.all_eq_true.1 wrong_all s (List.mem_of_getElem? h)
  simp at this
  exact ⟨this.1, Nat.le_trans this.2 (by decide)⟩

def TextsAll (w : World) (c : Nat) : Prop := c < w.heap.size ∧ ∀ (k : Nat) (x : ByteArray), wrongTexts[k]? = some x → w.cell? ⟨c, 0 + k, none⟩ = some (.string x)
theorem TextsAll.ext {w w' : World} {b : Nat} (h : TextsAll w b) (hb : Below w.heap.size w w') : TextsAll w' b :=
  ⟨Nat.lt_of_lt_of_le h.1 hb.size, fun k x hk => cell_later hb (h.2 k x hk)⟩
theorem texts_laid (w : World) (t : TypeId) : TextsAll (w.alloc (.cells (wrongTexts.map Value.string).toArray t)) w.heap.size :=
  ⟨by simp, fun k x hx => by rw [World.cell?_alloc_at _ _ _ _ rfl]; simp [hx]⟩

set_option maxRecDepth 100000 in
set_option maxHeartbeats 2000000 in
theorem known_walk {w : World} : Calls Try.prog 3 #[] w (IsBool w true) := by
  go_enter Try.func3, Try.ntmps3
  (go_wp2_with fail; go_fit (awake_any _); rintro e w1 ⟨rfl, b1⟩)
  go_upto_region 3 with fail
  go_cut [1] (fun s wx => ∃ b, s = .slice (some ⟨b, 0, none⟩) 7 7 ∧ BadAll wx b ∧ Below w.heap.size w wx)
  case first =>
    go_wp2
    go_meet
    refine ⟨_, rfl, ⟨by simp, fun k hk => ?_⟩, ?_⟩
    · rcases (show k = 0 ∨ k = 1 ∨ k = 2 ∨ k = 3 ∨ k = 4 ∨ k = 5 ∨ k = 6 by omega) with rfl | rfl | rfl | rfl | rfl | rfl | rfl
      · exact ⟨_, by rw [World.cell?_alloc_at _ _ _ _ (by simp)]; rfl, bad_nil _⟩
      · exact ⟨_, by rw [World.cell?_alloc_at _ _ _ _ (by simp)]; rfl, ((((((bad_laid w1 9 [⟨#[65]⟩] _ 1 (by simp) rfl (by decide) (by decide) (by decide +kernel)).alloc _).alloc _).alloc _).alloc _).alloc _).alloc _⟩
      · exact ⟨_, by rw [World.cell?_alloc_at _ _ _ _ (by simp)]; rfl, (((((bad_laid _ 9 [⟨#[]⟩] _ 1 (by simp) rfl (by decide) (by decide) (by decide +kernel)).alloc _).alloc _).alloc _).alloc _).alloc _⟩
      · exact ⟨_, by rw [World.cell?_alloc_at _ _ _ _ (by simp)]; rfl, ((((bad_laid _ 9 [⟨#[49, 97]⟩] _ 1 (by simp) rfl (by decide) (by decide) (by decide +kernel)).alloc _).alloc _).alloc _).alloc _⟩
      · exact ⟨_, by rw [World.cell?_alloc_at _ _ _ _ (by simp)]; rfl, (((bad_laid _ 9 [⟨#[97]⟩, ⟨#[97]⟩] _ 2 (by simp) rfl (by decide) (by decide) (by decide +kernel)).alloc _).alloc _).alloc _⟩
      · exact ⟨_, by rw [World.cell?_alloc_at _ _ _ _ (by simp)]; rfl, ((bad_laid _ 9 [⟨#[97, 98, 99, 100, 101, 102, 103, 104, 105, 106, 107, 108, 109, 110, 111, 112, 113]⟩] _ 1 (by simp) rfl (by decide) (by decide) (by decide +kernel)).alloc _).alloc _⟩
      · exact ⟨_, by rw [World.cell?_alloc_at _ _ _ _ (by simp)]; rfl, (bad_laid _ 9 [⟨#[97, 45, 98]⟩] _ 1 (by simp) rfl (by decide) (by decide) (by decide +kernel)).alloc _⟩
    · have := b1.size
      exact ((((((b1.alloc (by omega) _).alloc (by simp; omega) _).alloc (by simp; omega) _).alloc (by simp; omega) _).alloc (by simp; omega) _).alloc (by simp; omega) _).alloc (by simp; omega) _
  case rest =>
    obtain ⟨b, rfl, hbad, hb2⟩ := hcut
    have HB := Lib.hid hbad; clear hbad b1
    go_wp2_with fail
    go_loopw [2] (fun i wr => ∃ k : Nat, k ≤ 7 ∧ i = .int .i64 k ∧ BadAll wr b ∧ Below w.heap.size w wr) (fun i _ => 7 - (intOf i).toNat)
    case atStart => exact ⟨0, by omega, rfl, HB.out, hb2⟩
    case round =>
      obtain ⟨k, hk, rfl, hba, hnx⟩ := hrel
      have HBA := Lib.hid hba; clear hba
      by_cases hlt : k < 7
      · obtain ⟨v, hcx, hbv⟩ := HBA.out.2 k hlt
        have hbl := HBA.out.1
        rw [Nat.zero_add] at hcx
        have HBV := Lib.hid hbv; clear hbv
        (go_wp2_with fail; go_fit (bad_parse ⟨#[123, 125]⟩ HBV.out (by decide)); rintro e w' ⟨rfl, rfl⟩)
        (go_wp2_with fail; go_fit (bad_good HBV.out); rintro e w' ⟨rfl, rfl⟩)
        (go_wp2_with fail; go_fit (bad_text HBV.out); rintro e w3 ⟨rfl, b3⟩)
        have HBA3 := Lib.hid (HBA.out.ext b3)
        have HBV3 := Lib.hid (HBV.out.ext b3)
        have hcx3 := cell_later b3 hcx
        have hb3l := HBA3.out.1
        (go_wp2_with fail; go_fit (bad_top HBV3.out); rintro e w' ⟨rfl, rfl⟩)
        (go_wp2_with fail; go_fit (bad_fits HBV3.out); rintro e w' ⟨rfl, rfl⟩)
        go_wp2
        go_roundw
        case rel => exact ⟨k + 1, by omega, by go_num, HBA3.out, Ext.trans' hnx b3⟩
        case measure => simp [intOf]; omega
      · go_upto_region 10 with fail
        go_cut [5] (fun s wx => ∃ c, s = .slice (some ⟨c, 0, none⟩) 10 10 ∧ TextsAll wx c ∧ Below w.heap.size w wx)
        case first =>
          go_wp2
          go_meet
          exact ⟨_, rfl, texts_laid _ _, hnx.alloc hnx.size _⟩
        case rest =>
          obtain ⟨c, rfl, hta, hb3⟩ := hcut
          have HTA := Lib.hid hta; clear hta HBA hnx
          go_wp2_with fail
          go_loopw [6] (fun i wr => ∃ k : Nat, k ≤ 10 ∧ i = .int .i64 k ∧ TextsAll wr c ∧ Below w.heap.size w wr) (fun i _ => 10 - (intOf i).toNat)
          case atStart => exact ⟨0, by omega, rfl, HTA.out, hb3⟩
          case round =>
            rename_i wq _
            obtain ⟨k, hk, rfl, hta, hnx⟩ := hrel
            have HTA := Lib.hid hta; clear hta
            by_cases hlt : k < 10
            · obtain ⟨x, hx⟩ : ∃ x, wrongTexts[k]? = some x := ⟨_, List.getElem?_eq_getElem hlt⟩
              obtain ⟨hw1, hw2⟩ := wrong_at hx
              have hcx := HTA.out.2 k x hx
              have hcl := HTA.out.1
              rw [Nat.zero_add] at hcx
              have HX := Lib.hid hx; have HW1 := Lib.hid hw1; clear hx hw1
              go_wp2_with fail
              go_region_held3 (fun w' => w'.cell? ⟨c, k, none⟩ = some (.string x)) (first | assumption | exact cell_later (by assumption) (by assumption))
                (first
                  | (go_at_call 14; go_fit (names_any _); rintro e w9 ⟨v9, rfl, h9, b9⟩)
                  | (go_at_call 9; go_fit (parse_at x 0 false (by assumption) hw2 HW1.out); rintro e w8 ⟨rfl, rfl⟩))
              all_goals go_wp2
              all_goals
                go_roundw
                case rel => exact ⟨k + 1, by omega, by go_num, TextsAll.ext (w := wr) HTA.out (by first | assumption | exact Below.undrew (by assumption)), Ext.trans' hnx (by first | assumption | exact Below.undrew (by assumption))⟩
                case measure => simp [intOf]; omega
            · clear HTA
              (go_wp2_with fail; go_fit (names_any _); rintro e w5 ⟨v5, rfl, h5, b5⟩)
              (go_wp2_with fail; go_fit (parse_at ⟨#[123, 125]⟩ 0 true h5 (by decide) (by decide +kernel)); rintro e w' ⟨rfl, rfl⟩)
              have hx5 := Ext.trans' hnx b5
              clear hnx b5 h5
              (go_wp2_with fail; go_fit (names_any _); rintro e w6 ⟨v6, rfl, h6, b6⟩)
              have hlv : Calls Try.prog 15 #[v6, .int .u64 5] w6 (NewNums w6 [0, 1, 4, 5]) := by
                have := levels_any 5 (by decide) h6
                rw [show (if fits (abc.map bl) 5 = true then subs 5 else []) = [0, 1, 4, 5] from by decide +kernel] at this
                exact this
              have HLV := Lib.hid hlv; clear hlv
              (go_wp2_with fail; go_fit (HLV.out); rintro e w7 ⟨v7, rfl, h7, b7⟩)
              have hx7 := Ext.trans' hx5 (Ext.trans' b6 b7)
              clear hx5 b6 b7 h6 HLV
              obtain ⟨a7, cap7, rfl, hcap7, _, _, _, hc7⟩ := h7
              rcases hc7 with hc7 | ⟨g, off, rfl, hg, hc7⟩
              · simp at hc7
              have c0 := hc7 0 0 rfl
              have c1 := hc7 1 1 rfl
              have c2 := hc7 2 4 rfl
              have c3 := hc7 3 5 rfl
              clear hc7
              rw [Nat.add_zero] at c0
              have J14 : Hid (∀ (wj : World) (b : Nat), b = wj.heap.size → Calls Try.prog 16 #[.slice (some ⟨b, 0, none⟩) 2 2] (wj.alloc (.cells #[.int .u64 1, .int .u64 4] 27)) fun e w' => e = .returned (.int .u64 5) ∧ wj.alloc (.cells #[.int .u64 1, .int .u64 4] 27) = w') := Lib.hid fun wj b hb => join2 1 4 _ _ wj hb (by decide) (by decide)
              have M63 : Hid (∀ wj : World, Calls Try.prog 17 #[.int .u64 6, .int .u64 3] wj fun e w' => e = .returned (.int .u64 2) ∧ wj = w') := Lib.hid fun wj => meet_any 6 3 _ (by decide) (by decide)
              have L15 : Hid (∀ wj : World, Calls Try.prog 18 #[.int .u64 1, .int .u64 5] wj fun e w' => e = .returned (.bool true) ∧ wj = w') := Lib.hid fun wj => leq_any 1 5 _ (by decide) (by decide)
              have L25 : Hid (∀ wj : World, Calls Try.prog 18 #[.int .u64 2, .int .u64 5] wj fun e w' => e = .returned (.bool false) ∧ wj = w') := Lib.hid fun wj => leq_any 2 5 _ (by decide) (by decide)
              (go_wp2_with fail; go_fit (names_any _); rintro e w8 ⟨v8, rfl, h8, b8⟩)
              have F8 : Hid (Calls Try.prog 13 #[v8, .int .u64 8] w8 fun e w' => e = .returned (.bool false) ∧ w8 = w') := Lib.hid (by have := fits_any 8 (by decide) h8; rw [show fits (abc.map bl) 8 = false from by decide +kernel] at this; exact this)
              (go_wp2_with fail; go_fit (F8.out); rintro e w' ⟨rfl, rfl⟩)
              (go_wp2_with fail; go_fit (names_any _); rintro e w9 ⟨v9, rfl, h9, b9⟩)
              (go_wp2_with fail; go_fit (text_at 8 ⟨#[]⟩ h9 (by decide) (by decide +kernel)); rintro e w10 ⟨rfl, b10⟩)
              (go_wp2_with fail; go_fit (names_any _); rintro e w11 ⟨v11, rfl, h11, b11⟩)
              have T7 : Hid (Calls Try.prog 12 #[v11] w11 fun e w' => e = .returned (.int .u64 7) ∧ w11 = w') := Lib.hid (by have := top_any h11; rw [show top (abc.map bl) = 7 from by decide +kernel] at this; exact this)
              (go_wp2_with fail; go_fit (T7.out); rintro e w' ⟨rfl, rfl⟩)
              have hb11 := Ext.trans' b8 (Ext.trans' b9 (Ext.trans' b10 b11))
              have hx11 := Ext.trans' hx7 hb11
              have hg11 : g < w11.heap.size := Nat.lt_of_lt_of_le hg hb11.size
              replace c0 := cell_later hb11 c0
              replace c1 := cell_later hb11 c1
              replace c2 := cell_later hb11 c2
              replace c3 := cell_later hb11 c3
              clear b8 b9 b10 b11 h8 h9 h11 F8 T7 hb11 hx7 hg
              (go_wp2_with fail; go_fit (J14.out _ _ rfl); rintro e w' ⟨rfl, rfl⟩)
              (go_wp2_with fail; go_fit (join_none _ _ _); rintro e w' ⟨rfl, rfl⟩)
              (go_wp2_with fail; go_fit (M63.out _); rintro e w' ⟨rfl, rfl⟩)
              (go_wp2_with fail; go_fit (L15.out _); rintro e w' ⟨rfl, rfl⟩)
              (go_wp2_with fail; go_fit (L25.out _); rintro e w' ⟨rfl, rfl⟩)
              (go_wp2_with fail; go_fit (names_any _); rintro e w12 ⟨v12, rfl, h12, b12⟩)
              have L8 : Hid (Calls Try.prog 15 #[v12, .int .u64 8] w12 (NewNums w12 [])) := Lib.hid (by
                have := levels_any 8 (by decide) h12
                rw [show (if fits (abc.map bl) 8 = true then subs 8 else []) = [] from by decide +kernel] at this
                exact this)
              (go_wp2_with fail; go_fit (L8.out); rintro e w13 ⟨v13, rfl, h13, b13⟩)
              obtain ⟨a13, cap13, rfl, _⟩ := h13
              have hx13 : Below w.heap.size w w13 := Below.trans (hx11.alloc hx11.size _) ((Ext.trans' b12 b13).mono (by have := hx11.size; simp; omega))
              clear b12 b13 h12 L8 hx11
              have HG : Hid (∀ (wj : World) (b : Nat), b = wj.heap.size → Calls Try.prog 10 #[.slice (some ⟨b, 0, none⟩) 1 1] (wj.alloc (.cells #[.string ⟨#[97, 95, 49, 98]⟩] 9)) fun e w' => e = .returned (.bool true) ∧ wj.alloc (.cells #[.string ⟨#[97, 95, 49, 98]⟩] 9) = w') := Lib.hid fun wj b hb => by
                subst hb
                have := good_any (strs_laid wj 9 [⟨#[97, 95, 49, 98]⟩] 1 rfl (by decide) (by decide))
                rw [show goodNames (([⟨#[97, 95, 49, 98]⟩] : List ByteArray).map bl) = true from by decide +kernel] at this
                exact this
              (go_wp2_with fail; go_fit (HG.out _ _ rfl); rintro e w' ⟨rfl, rfl⟩)
              go_wp2
              go_ret
              exact ⟨rfl, hx13.alloc hx13.size _⟩
namespace labelKnown
open Go.ChangeShapes Go.WideShapes Go.ChangeAt Go.RowKit
theorem own : ownKnob Try.prog.godebug = none := by kernel_rfl
theorem laidOut : laidOutB Try.prog = true := by kernel_rfl
set_option linter.unusedVariables false
set_option maxRecDepth 100000 in
theorem lifted (os : Os) (started : os.Started) (H : Type) (enc : TypeId × Value → H) :
    ReturnsInHanded {} Try.checked os 3 .any (Rows.labelKnownSpec.pre6 enc Try.prog Try.f3 Rows.labelKnownRow.domain false) (Rows.labelKnownSpec.post enc Try.prog Try.f3 false true false false) := by
  refine returnsInHanded_of_change_sized (C := Try.checked) own started (by kernel_rfl) Try.func3
    (ChangeSpec.witness6 (enc := enc) (C := Try.checked) false ⟨#[], #[], []⟩ 8 (by kernel_rfl) (by kernel_rfl) (by kernel_rfl) (by kernel_rfl)) ?_
  intro W base args ds gs before hval0 hW hcnd hsz0 _
  have hval : ∀ (j : Nat) t v, Try.f3.params[j]? = some t → args[j]? = some v → Value.okWide Try.prog W .any base t v := hval0
  have hW' := hW
  obtain ⟨p, q, hA0, hV, rfl, hfz, hnd⟩ := hW
  have hA : DataW.TrodAll enc Try.prog W 0 (fun _ => true) true Try.f3.params.toList args.toList ds p := hA0
  have hsz : (DataW.weightsEach Try.prog (Try.f3.params.toList ++ []) (ds ++ gs)).all (· ≤ reachBytes) = true := hsz0
  rw [Try.params3] at hA hval hsz
  obtain ⟨rfl, rfl, rfl⟩ := trodAll_none hA
  obtain ⟨rfl, rfl⟩ := trodVars_none hV
  clear hA0 hval0 hsz0


  refine (known_walk ).mono fun e W' ⟨he, bel⟩ => ?_
  subst he
  exact ⟨_, rfl, _, _, _, [], _, [], hW', trodAll_mk1 (shut_bool Try.underlying4 _), rfl, rfl, bel.frame _, fun h => by cases h⟩
theorem proved : Rows.LabelKnownSaid :=
  OpenClaim.holds_of_wide 3 Try.f3 rfl rfl rfl rfl rfl rfl rfl ⟨rfl, rfl, rfl, rfl, rfl⟩ rfl rfl rfl rfl rfl (by kernel_rfl) Try.func3 (by kernel_rfl)
    (of_decide_eq_true (by kernel_rfl)) (by unfold Func.isWrapper; first | (rw [if_pos (by decide +kernel)]; kernel_rfl) | (rw [if_neg (by decide +kernel)]; exact ⟨rfl, rfl⟩))
    (fun os started H enc _ => lifted os started H enc)
#print axioms proved
end labelKnown

end Go.Proofs.Ytolfbhanglkpkaa
