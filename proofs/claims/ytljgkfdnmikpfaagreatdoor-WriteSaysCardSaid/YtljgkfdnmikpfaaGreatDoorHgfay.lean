import Derived.Test.YtljgkfdnmikpfaaGreatDoorHgfaw
import Derived.Test.YtljgkfdnmikpfaaGreatDoorHgfax
import Derived.Test.YtljgkfdnmikpfaaGreatDoorHgfac
import Derived.Test.YtljgkfdnmikpfaaGreatDoorHgfaa
import Derived.Test.YtljgkfdnmikpfaaGreatDoorHgfai
import Derived.Lib.LaidTab
set_option linter.unusedVariables false
set_option linter.unusedSimpArgs false
/- The document's own writer: Write, Plain. -/
namespace Go.Proofs.YtljgkfdnmikpfaaGreatDoor
open Go.Shelf Go.RowKit
set_option linter.unusedVariables false
set_option maxRecDepth 100000

theorem rformed_leaf {k n : Int} {s : ByteArray} (h : formedT (.mk k n s []) = true) : k = 0 ∨ k = 1 ∨ k = 2 := by
  rw [formedT, Bool.and_eq_true] at h
  have h1 := h.1
  unfold plainT at h1
  by_cases h0 : k = 0
  · exact Or.inl h0
  · by_cases h2 : k = 1
    · exact Or.inr (Or.inl h2)
    · rw [if_neg h0, if_neg h2] at h1
      by_cases h3 : k = 2
      · exact Or.inr (Or.inr h3)
      · rw [if_neg h3] at h1; cases h1
theorem rat_all {xs : List O} {vs : List Int} {wb : Nat} {vo vv : Value} (hg : goodB xs = true) (hvl : vs.length ≤ 100000) : ∀ N, IHd xs vs wb vo vv N
  | 0 => fun x hx => by omega
  | N + 1 => fun x hx hgd hin n bs h0 h1 w v hv hw => by
    have ih := rat_all (vo := vo) (vv := vv) (wb := wb) hg hvl N
    have hf := (good_parts hgd).2.2
    cases x with
    | mk k m s ts =>
    cases ts with
    | nil =>
      rcases rformed_leaf hf with rfl | rfl | rfl
      · exact rat_var hvl hw hv (by rw [inV] at hin; exact hin.1 rfl) n bs h0
      · exact rat_int hw hv n bs h0
      · exact rat_name hg hw hv n bs h0
    | cons a r =>
      obtain rfl := formed_kind hf
      by_cases h46 : bl s = [46] ∧ (a :: r).length = 2
      · obtain ⟨h46, hl⟩ := h46
        cases r with
        | nil => cases hl
        | cons y r =>
        cases r with
        | nil => exact rat_list ih hg hw hv hgd (by omega) hin h46 n bs h0
        | cons z r => simp at hl
      · by_cases h12 : bl s = [123, 125] ∧ (a :: r).length = 1
        · obtain ⟨h12, hl⟩ := h12
          cases r with
          | nil => exact rat_brace ih hg hw hv hgd (by omega) hin h12 n bs h0
          | cons y r => simp at hl
        · cases ho : (opW (preO xs) (betO xs) (.mk 2 m s (a :: r))).2 with
          | true => exact rat_op ih hg hw hv hgd (by omega) hin (by simp) h46 h12 ho n bs h0
          | false => exact rat_call ih hg hw hv hgd (by omega) hin (by simp) h46 h12 ho n bs h0
theorem short_far (s : ByteArray) (hs : 4096 < s.size) (w : World) : Calls Tryz.prog 61 #[.string s] w fun e w' => e = .returned (.tuple #[.string ⟨#[]⟩, .int .i64 3]) ∧ w = w' := by
  have hd : decide ((4096 : Int) < (s.size : Int)) = true := decide_eq_true (by omega)
  go_enter Tryz.func61, Tryz.ntmps61
  go_wp2
  go_ret2
  exact ⟨rfl, rfl⟩
/-- What short answers, told by letters. -/
theorem short_any (l : List UInt8) : ∃ (Z : ByteArray) (e : Int), textX true l = .tuple #[.string Z, .int .i64 e] ∧ ∀ wq, Calls Tryz.prog 61 #[.string (baS l)] wq fun q w' => q = .returned (.tuple #[.string Z, .int .i64 e]) ∧ wq = w' := by
  have hz : (baS l).size = l.length := by rw [size_bl, bl_baS]
  by_cases h : 4096 < l.length
  · exact ⟨_, _, textX_far h, fun wq => short_far _ (by omega) wq⟩
  · exact ⟨_, _, textX_ok (by omega), fun wq => short_at _ (by omega) wq⟩
set_option maxHeartbeats 4000000 in
theorem plain8_core {Z1 : ByteArray} {e1 : Int} {q : ByteArray → List UInt8} {nm : Int → List UInt8} {t : Tm} (hg : goodT t = true) (hm : mayW (QC q) (NC nm) t) (hN : ∀ i : Nat, i < (varsT t []).length → NC nm i) (hl : ∀ i : Nat, i < (varsT t []).length → (nm i).length ≤ 1000)
    (hlen : (plainW q nm (varsT t []) t).length ≤ 1000000) (hs : ∀ wq, Calls Tryz.prog 61 #[.string (baS (plainW q nm (varsT t []) t))] wq fun e w' => e = .returned (.tuple #[.string Z1, .int .i64 e1]) ∧ wq = w') {w : World} {v : Value} (hv : TmV w t v) :
    Calls Tryz.prog 34 #[v] w fun e w' => e = .returned (.tuple #[.string Z1, .int .i64 e1]) ∧ Below w.heap.size w w' := by
  obtain ⟨k, n, s, a, m, c, rfl⟩ := hv.full
  obtain ⟨w1, hw1, hb1, hz1, hx1⟩ := box_new w #[.int .i64 k, .int .i64 n, .string s, .slice a m c] 66
  have HV := Lib.hid hv
  have HB1 := Lib.hid hb1
  have HG := rgood_at t w1 _ (TmV.ext hb1 _ _ hv)
  rw [hg] at HG
  have HG := Lib.hid HG
  obtain ⟨Z, hZ⟩ : ∃ Z, baS (plainW q nm (varsT t []) t) = Z := ⟨_, rfl⟩
  have HP := Lib.hid (fun (wb : Nat) (vv : Value) (wq : World) (hq : Below w.heap.size w wq) (hw : WrAt wq wb vv (varsT t [])) => plainT_at hN hl wb vv _ t (Nat.lt_succ_self _) hm (by omega) wq _ (TmV.ext hq _ _ hv) hw)
  rw [hZ] at HP
  have HVA := Lib.hid (fun (wq : World) (hq : Below w.heap.size w wq) => rVars_at t wq _ (TmV.ext hq _ _ hv))
  rw [hg] at HVA
  simp only [if_true] at HVA
  rw [hZ] at hs
  have HS := Lib.hid hs
  clear hs
  obtain ⟨b0, b1, b2, b3, bf⟩ := hx1.four
  have HX1 := Lib.hid hx1
  clear hv hb1 hx1 hz1 hg hZ hm hN hl hlen
  go_enter Tryz.func34, Tryz.ntmps34
  go_wp2_with fail
  (try rw [hw1])
  clear hw1
  (go_wp2_with fail; go_fit (HG.out); rintro e w2 ⟨rfl, hb2⟩)
  have HB2 := Lib.hid (Ext.trans' HB1.out hb2)
  obtain ⟨b0, b1, b2, b3, bf⟩ := (HX1.out.ext hb2).four
  clear hb2
  go_wp2_with fail
  refine wp_region_held_drew (S := fun w' => (w'.cell? ⟨w.heap.size, 0, none⟩ = some (.int .i64 k) ∧ w'.cell? ⟨w.heap.size, 1, none⟩ = some (.int .i64 n) ∧ w'.cell? ⟨w.heap.size, 2, none⟩ = some (.string s) ∧ w'.cell? ⟨w.heap.size, 3, none⟩ = some (.slice a m c)) ∧ Below w2.heap.size w2 w') (by kernel_rfl) ⟨⟨b0, b1, b2, b3⟩, (Below.refl _ _).drew⟩ (fun hHeld => ?_)
  first | (refine held_t (i := 0) hHeld ?_; apply Exists.intro; refine ⟨fun wq hq => ?_, ?_⟩; (focus ((try dsimp only at hq); go_simp; (first | done | with_reducible rfl | fail)))) | refine held_s (i := 0) hHeld ?_ | fail
  first | (refine held_t (i := 4) hHeld ?_; apply Exists.intro; refine ⟨fun wq hq => ?_, ?_⟩; (focus ((try dsimp only at hq); go_simp; (first | done | with_reducible rfl | fail)))) | refine held_s (i := 4) hHeld ?_ | fail
  try simp only [Act.put, List.setIfInBounds_toArray, List.set_cons_zero, List.set_cons_succ]
  refine held_c 1 fun K hK => ?_
  go_simp
  (go_at_call 62; refine (HVA.out _ (Ext.trans' HB2.out hHeld.2)).mono ?_; rintro e w3 ⟨vv, rfl, hnv, hb3⟩; obtain ⟨va, vc, rfl, _⟩ := hnv.len; have HNV := Lib.hid hnv; clear hnv)
  refine hK.out _ _ (⟨⟨cell_later hb3 hHeld.1.1, cell_later hb3 hHeld.1.2.1, cell_later hb3 hHeld.1.2.2.1, cell_later hb3 hHeld.1.2.2.2⟩, Ext.trans' hHeld.2 hb3⟩) (fun hHeld => ?_)
  clear hK K
  try simp only [Act.put, List.setIfInBounds_toArray, List.set_cons_zero, List.set_cons_succ]
  first | (refine held_t (i := 2) hHeld ?_; apply Exists.intro; refine ⟨fun wq hq => ?_, ?_⟩; (focus ((try dsimp only at hq); go_simp; (first | done | with_reducible rfl | fail)))) | refine held_s (i := 2) hHeld ?_ | fail
  try simp only [Act.put, List.setIfInBounds_toArray, List.set_cons_zero, List.set_cons_succ]
  refine held_c 3 fun K hK => ?_
  go_simp
  skip
  refine hK.out _ _ (⟨⟨cell_later (bel1' _ _) hHeld.1.1, cell_later (bel1' _ _) hHeld.1.2.1, cell_later (bel1' _ _) hHeld.1.2.2.1, cell_later (bel1' _ _) hHeld.1.2.2.2⟩, Ext.trans' hHeld.2 (bel1' _ _)⟩) (fun hHeld => ?_)
  clear hK K
  try simp only [Act.put, List.setIfInBounds_toArray, List.set_cons_zero, List.set_cons_succ]
  refine held_c 5 fun K hK => ?_
  go_simp
  (go_at_call 64; refine (HP.out _ _ _ (Ext.trans' HB2.out hHeld.2) ⟨by simp, HNV.out.ext (bel1' _ _)⟩).mono ?_; rintro e w4 ⟨rfl, hb4⟩)
  refine hK.out _ _ (⟨⟨cell_later hb4 hHeld.1.1, cell_later hb4 hHeld.1.2.1, cell_later hb4 hHeld.1.2.2.1, cell_later hb4 hHeld.1.2.2.2⟩, Ext.trans' hHeld.2 hb4⟩) (fun hHeld => ?_)
  clear hK K
  try simp only [Act.put, List.setIfInBounds_toArray, List.set_cons_zero, List.set_cons_succ]
  refine held_c 6 fun K hK => ?_
  go_simp
  (go_at_call 61; refine (HS.out _).mono ?_; rintro e w5 ⟨rfl, rfl⟩)
  refine hK.out _ _ (hHeld) (fun hHeld => ?_)
  clear hK K
  try simp only [Act.put, List.setIfInBounds_toArray, List.set_cons_zero, List.set_cons_succ]
  first | (refine held_t (i := 7) hHeld ?_; apply Exists.intro; refine ⟨fun wq hq => ?_, ?_⟩; (focus ((try dsimp only at hq); go_simp; (first | done | with_reducible rfl | fail)))) | refine held_s (i := 7) hHeld ?_ | fail
  first | (refine held_t (i := 8) hHeld ?_; apply Exists.intro; refine ⟨fun wq hq => ?_, ?_⟩; (focus ((try dsimp only at hq); go_simp; (first | done | with_reducible rfl | fail)))) | refine held_s (i := 8) hHeld ?_ | fail
  first | (refine held_t (i := 9) hHeld ?_; apply Exists.intro; refine ⟨fun wq hq => ?_, ?_⟩; (focus ((try dsimp only at hq); go_simp; (first | done | with_reducible rfl | fail)))) | refine held_s (i := 9) hHeld ?_ | fail
  first | (refine held_t (i := 10) hHeld ?_; apply Exists.intro; refine ⟨fun wq hq => ?_, ?_⟩; (focus ((try dsimp only at hq); go_simp; (first | done | with_reducible rfl | fail)))) | refine held_s (i := 10) hHeld ?_ | fail
  try simp only [Act.put, List.setIfInBounds_toArray, List.set_cons_zero, List.set_cons_succ]
  refine wpAnyH_done (by kernel_rfl) ?_ _
  have HF := Lib.hid (Ext.trans' HB2.out hHeld.2)
  go_wp2
  go_ret2
  exact ⟨rfl, HF.out⟩
/-! A term without operators: the two ways of saying it. -/
theorem plainD_step {vs : List Int} {k n : Int} {s : ByteArray} {ts : List Tm} (hf : formedT (.mk k n s ts) = true) (hin : inV vs (.mk k n s ts)) (ih : ∀ y ∈ ts, plainW qB numW vs y = PLAIN vs y) : plainW qB numW vs (.mk k n s ts) = PLAIN vs (.mk k n s ts) := by
  rw [PLAIN_eq]
  unfold calledW
  rw [plainW]
  cases ts with
  | nil =>
    rcases rformed_leaf hf with rfl | rfl | rfl
    · rw [if_pos rfl, idx_var (by rw [inV] at hin; exact hin.1 rfl)]
      show _ = headW vs (.mk 0 n s []) ++ []
      rw [List.append_nil]; rfl
    · rw [if_neg (by decide), if_pos rfl]
      show _ = headW vs (.mk 1 n s []) ++ []
      rw [List.append_nil]; rfl
    · rw [if_neg (by decide), if_neg (by decide)]
      show _ = headW vs (.mk 2 n s []) ++ []
      rw [List.append_nil]; rfl
  | cons a r =>
    obtain rfl := formed_kind hf
    rw [if_neg (by decide), if_neg (by decide), if_neg (by show ¬ (false = true); decide)]
    show qB s ++ argsW qB numW vs true (a :: r) ++ [41] = headW vs (.mk 2 n s (a :: r)) ++ (if (a :: r).isEmpty = true then [] else 40 :: (rowW (PLAIN vs) (a :: r) ++ [41]))
    rw [if_neg (by show ¬ (false = true); decide)]
    have hrow : ∀ (l : List Tm) (first : Bool) (y : Tm), (∀ z ∈ y :: l, plainW qB numW vs z = PLAIN vs z) → argsW qB numW vs first (y :: l) = (if first then 40 else 44) :: rowW (PLAIN vs) (y :: l) := by
      intro l
      induction l with
      | nil => intro first y h; rw [argsW, argsW, h y (by simp), List.append_nil]; rfl
      | cons z l ihl =>
        intro first y h
        rw [argsW, ihl false z (fun q hq => h q (List.mem_cons_of_mem _ hq)), h y (by simp)]
        rfl
    rw [hrow r true a ih]
    show quoteB (bl s) ++ 40 :: rowW (PLAIN vs) (a :: r) ++ [41] = quoteB (bl s) ++ (40 :: (rowW (PLAIN vs) (a :: r) ++ [41]))
    simp
theorem plainD_same {vs : List Int} : ∀ (N : Nat) (t : Tm), sizeN t ≤ N → goodT t = true → inV vs t → plainW qB numW vs t = PLAIN vs t
  | 0, t, h, _, _ => by have := size_pos t; omega
  | N + 1, .mk k n s ts, h, hg, hin => plainD_step (good_parts hg).2.2 hin fun y hy =>
    plainD_same N y (by have := arg_size (x := .mk k n s ts) hy; omega) (good_arg hg hy) (inV_arg hin hy)
end Go.Proofs.YtljgkfdnmikpfaaGreatDoor
/- The document's own writer: Write and Plain, at every term. -/
namespace Go.Proofs.YtljgkfdnmikpfaaGreatDoor
open Go.Shelf Go.RowKit
set_option linter.unusedVariables false
set_option maxRecDepth 100000

theorem mays_of {P : ByteArray → Prop} {Q : Int → Prop} : ∀ {l : List Tm}, (∀ y ∈ l, mayW P Q y) → maysW P Q l
  | [], _ => by rw [maysW]; trivial
  | x :: r, h => by rw [maysW]; exact ⟨h x (by simp), mays_of fun y hy => h y (List.mem_cons_of_mem _ hy)⟩
theorem may_tm {w : World} : ∀ (N : Nat) (x : Tm), sizeN x ≤ N → ∀ v, TmV w x v → mayW (QC qB) (NC numW) x
  | 0, x, h, _, _ => by have := size_pos x; omega
  | N + 1, .mk k n s ts, h, v, hv => by
    obtain ⟨u, rfl, hs, _, hn, hu⟩ := tmV_iff.1 hv
    obtain ⟨a, c, rfl, _⟩ := hu.len
    rw [mayW]
    refine ⟨fun _ => rnum_nc hn, fun _ _ => rquote_qc hs, mays_of fun y hy => ?_⟩
    obtain ⟨i, hi⟩ := List.getElem?_of_mem hy
    obtain ⟨b, off, k1, n1, s1, u1, _, _, _, _, _, _, _, _, _, _, htv⟩ := hu.get hi
    exact may_tm N y (by have := arg_size (x := .mk k n s ts) hy; omega) _ htv
theorem vars_small {x : Tm} (hg : goodT x = true) : (varsT x []).length ≤ 100000 := by
  have h1 := (vars_len x []).1
  have h2 := (good_parts hg).1
  simp only [List.length_nil] at h1
  omega
theorem inV_vars {x : Tm} (hg : goodT x = true) : inV (varsT x []) x := inV_of x [] (good_parts hg).2.2 (fun n hn => hn)
set_option maxHeartbeats 2000000 in
theorem rplain_bad {x : Tm} (hg : goodT x = false) {w : World} {v : Value} (hv : TmV w x v) : Calls Tryz.prog 34 #[v] w fun e w' => e = .returned (.tuple #[.string ⟨#[]⟩, .int .i64 1]) ∧ Below w.heap.size w w' := by
  obtain ⟨k, n, s, a, m, c, rfl⟩ := hv.full
  obtain ⟨w1, hw1, hb1, hz1, hx1⟩ := box_new w #[.int .i64 k, .int .i64 n, .string s, .slice a m c] 66
  have HB1 := Lib.hid hb1
  have HG := rgood_at x w1 _ (TmV.ext hb1 _ _ hv)
  rw [hg] at HG
  have HG := Lib.hid HG
  obtain ⟨b0, b1, b2, b3, bf⟩ := hx1.four
  clear hv hb1 hx1 hz1 hg
  go_enter Tryz.func34, Tryz.ntmps34
  go_wp2_with fail
  (try rw [hw1])
  clear hw1
  (go_wp2_with fail; go_fit (HG.out); rintro e w2 ⟨rfl, hb2⟩)
  have HB2 := Lib.hid (Ext.trans' HB1.out hb2)
  clear hb2
  go_wp2
  go_ret2
  exact ⟨rfl, HB2.out⟩
theorem rplain_all {x : Tm} {w : World} {v : Value} (hv : TmV w x v) : Calls Tryz.prog 34 #[v] w fun e w' => e = .returned (textX (goodT x) (PLAIN (varsT x []) x)) ∧ Below w.heap.size w w' := by
  cases hg : goodT x with
  | false => rw [textX_no]; exact rplain_bad hg hv
  | true =>
    have hs := plainD_same _ x (Nat.le_refl _) hg (inV_vars hg)
    obtain ⟨Z, e1, h1, h2⟩ := short_any (plainW qB numW (varsT x []) x)
    have hl : (plainW qB numW (varsT x []) x).length ≤ 1000000 := by
      rw [hs]
      have a1 := plainT_len (varsT x []) _ x (Nat.le_refl _)
      have a2 := (good_parts hg).1
      omega
    rw [← hs, h1]
    have hvl := vars_small hg
    exact plain8_core hg (may_tm _ x (Nat.le_refl _) v hv) (fun i hi => rnum_nc (by unfold R; omega)) (fun i hi => by have := pnumW_len (n := (i : Int)) (by unfold R; omega); omega) hl h2 hv
set_option maxHeartbeats 4000000 in
theorem rwrite_bad {xs : List O} {x : Tm} (hg : (goodB xs && goodT x) = false) {w : World} {vo v : Value} (ho : Ops w vo xs) (hv : TmV w x v) : Calls Tryz.prog 31 #[vo, v] w fun e w' => e = .returned (.tuple #[.string ⟨#[]⟩, .int .i64 1]) ∧ Below w.heap.size w w' := by
  obtain ⟨k, n, s, a, m, c, rfl⟩ := hv.full
  obtain ⟨ao, co, rfl, hl1, hl2⟩ := ho.form
  obtain ⟨mo, hmo⟩ : ∃ m, xs.length = m := ⟨_, rfl⟩
  rw [hmo] at ho ⊢
  obtain ⟨w1, hw1, hb1, hz1, hx1⟩ := box_new w #[.int .i64 k, .int .i64 n, .string s, .slice a m c] 66
  have HB1 := Lib.hid hb1
  have HGO := Lib.hid (goodOps_walk (ho.ext hb1))
  have HV1 := Lib.hid (TmV.ext hb1 _ _ hv)
  obtain ⟨b0, b1, b2, b3, bf⟩ := hx1.four
  clear hv hb1 hx1 hz1 ho hmo hl1
  cases hgb : goodB xs
  · rw [hgb] at HGO
    go_enter Tryz.func31, Tryz.ntmps31
    go_wp2_with fail
    (try rw [hw1])
    clear hw1
    (go_wp2_with fail; go_fit (HGO.out); rintro e w2 ⟨rfl, hb2⟩)
    have HB2 := Lib.hid (Ext.trans' HB1.out hb2)
    clear hb2
    go_wp2
    go_ret2
    exact ⟨rfl, HB2.out⟩
  · rw [hgb] at HGO hg
    rw [Bool.true_and] at hg
    go_enter Tryz.func31, Tryz.ntmps31
    go_wp2_with fail
    (try rw [hw1])
    clear hw1
    (go_wp2_with fail; go_fit (HGO.out); rintro e w2 ⟨rfl, hb2⟩)
    have HB2 := Lib.hid (Ext.trans' HB1.out hb2)
    have b0 := cell_later hb2 b0
    have b1 := cell_later hb2 b1
    have b2 := cell_later hb2 b2
    have b3 := cell_later hb2 b3
    have HG := rgood_at x w2 _ (TmV.ext hb2 _ _ HV1.out)
    rw [hg] at HG
    have HG := Lib.hid HG
    clear hb2
    (go_wp2_with fail; go_fit (HG.out); rintro e w3 ⟨rfl, hb3⟩)
    have HB3 := Lib.hid (Ext.trans' HB2.out hb3)
    clear hb3
    go_wp2
    go_ret2
    exact ⟨rfl, HB3.out⟩
set_option maxHeartbeats 8000000 in
theorem rwrite_ok {Z1 : ByteArray} {e1 : Int} {xs : List O} {x : Tm} (hgb : goodB xs = true) (hg : goodT x = true) (hs : ∀ wq, Calls Tryz.prog 61 #[.string (baS (writeT xs x))] wq fun e w' => e = .returned (.tuple #[.string Z1, .int .i64 e1]) ∧ wq = w') {w : World} {vo v : Value} (ho : Ops w vo xs) (hv : TmV w x v) :
    Calls Tryz.prog 31 #[vo, v] w fun e w' => e = .returned (.tuple #[.string Z1, .int .i64 e1]) ∧ Below w.heap.size w w' := by
  obtain ⟨k, n, s, a, m, c, rfl⟩ := hv.full
  obtain ⟨ao, co, rfl, hl1, hl2⟩ := ho.form
  obtain ⟨mo, hmo⟩ : ∃ m, xs.length = m := ⟨_, rfl⟩
  rw [hmo] at ho ⊢
  obtain ⟨w1, hw1, hb1, hz1, hx1⟩ := box_new w #[.int .i64 k, .int .i64 n, .string s, .slice a m c] 66
  have HB1 := Lib.hid hb1
  have HGO := Lib.hid (goodOps_walk (ho.ext hb1))
  have HV := Lib.hid hv
  have HO := Lib.hid ho
  have HX1 := Lib.hid hx1
  rw [hgb] at HGO
  have HVA := Lib.hid (fun (wq : World) (hq : Below w.heap.size w wq) => rVars_at x wq _ (TmV.ext hq _ _ hv))
  rw [hg] at HVA
  simp only [if_true] at HVA
  have HAT := Lib.hid (fun (wb : Nat) (vv : Value) (wq : World) (hq : Below w.heap.size w wq) (hw : WdAt wq wb (.slice ao mo co) vv xs (varsT x [])) => rat_all hgb (vars_small hg) (sizeN x + 1) x (Nat.lt_succ_self _) hg (inV_vars hg) 1200 false (by omega) (by omega) wq _ (TmV.ext hq _ _ hv) hw)
  obtain ⟨Z, hZ⟩ : ∃ Z, baS (ATW xs (varsT x []) false 1200 x) = Z := ⟨_, rfl⟩
  rw [hZ] at HAT
  have HS : Hid (∀ wq, Calls Tryz.prog 61 #[.string Z] wq fun e w' => e = .returned (.tuple #[.string Z1, .int .i64 e1]) ∧ wq = w') := Lib.hid (fun wq => by rw [← hZ]; exact hs wq)
  obtain ⟨b0, b1, b2, b3, bf⟩ := hx1.four
  have HGT := Lib.hid hg
  clear hv hb1 hx1 hz1 ho hmo hl1 hZ hs hgb hg
  go_enter Tryz.func31, Tryz.ntmps31
  go_wp2_with fail
  (try rw [hw1])
  clear hw1
  (go_wp2_with fail; go_fit (HGO.out); rintro e w2 ⟨rfl, hb2⟩)
  have HB2 := Lib.hid (Ext.trans' HB1.out hb2)
  have HX2 := Lib.hid (HX1.out.ext hb2)
  obtain ⟨b0, b1, b2, b3, bf⟩ := HX2.out.four
  have HG := rgood_at x w2 _ (TmV.ext HB2.out _ _ HV.out)
  rw [HGT.out] at HG
  have HG := Lib.hid HG
  clear hb2
  (go_wp2_with fail; go_fit (HG.out); rintro e w3 ⟨rfl, hb3⟩)
  have HB3 := Lib.hid (Ext.trans' HB2.out hb3)
  obtain ⟨b0, b1, b2, b3, bf⟩ := (HX2.out.ext hb3).four
  clear hb3
  go_upto_region 3 with fail
  refine wp_region_held_drew (S := fun w' => (w'.cell? ⟨w.heap.size, 0, none⟩ = some (.int .i64 k) ∧ w'.cell? ⟨w.heap.size, 1, none⟩ = some (.int .i64 n) ∧ w'.cell? ⟨w.heap.size, 2, none⟩ = some (.string s) ∧ w'.cell? ⟨w.heap.size, 3, none⟩ = some (.slice a m c)) ∧ Below w3.heap.size w3 w') (by kernel_rfl) ⟨⟨b0, b1, b2, b3⟩, (Below.refl _ _).drew⟩ (fun hHeld => ?_)
  first | (refine held_t (i := 0) hHeld ?_; apply Exists.intro; refine ⟨fun wq hq => ?_, ?_⟩; (focus ((try dsimp only at hq); go_simp; (first | done | with_reducible rfl | fail)))) | refine held_s (i := 0) hHeld ?_ | fail
  first | (refine held_t (i := 1) hHeld ?_; apply Exists.intro; refine ⟨fun wq hq => ?_, ?_⟩; (focus ((try dsimp only at hq); go_simp; (first | done | with_reducible rfl | fail)))) | refine held_s (i := 1) hHeld ?_ | fail
  try simp only [Act.put, List.setIfInBounds_toArray, List.set_cons_zero, List.set_cons_succ]
  first | (refine held_t (i := 5) hHeld ?_; apply Exists.intro; refine ⟨fun wq hq => ?_, ?_⟩; (focus ((try dsimp only at hq); go_simp; (first | done | with_reducible rfl | fail)))) | refine held_s (i := 5) hHeld ?_ | fail
  try simp only [Act.put, List.setIfInBounds_toArray, List.set_cons_zero, List.set_cons_succ]
  refine held_c 2 fun K hK => ?_
  go_simp
  (go_at_call 62; refine (HVA.out _ (Ext.trans' HB3.out hHeld.2)).mono ?_; rintro e w4 ⟨vv, rfl, hnv, hb4⟩; obtain ⟨va, vc, rfl, _⟩ := hnv.len; have HNV := Lib.hid hnv; clear hnv)
  refine hK.out _ _ (⟨⟨cell_later hb4 hHeld.1.1, cell_later hb4 hHeld.1.2.1, cell_later hb4 hHeld.1.2.2.1, cell_later hb4 hHeld.1.2.2.2⟩, Ext.trans' hHeld.2 hb4⟩) (fun hHeld => ?_)
  clear hK K
  try simp only [Act.put, List.setIfInBounds_toArray, List.set_cons_zero, List.set_cons_succ]
  first | (refine held_t (i := 3) hHeld ?_; apply Exists.intro; refine ⟨fun wq hq => ?_, ?_⟩; (focus ((try dsimp only at hq); go_simp; (first | done | with_reducible rfl | fail)))) | refine held_s (i := 3) hHeld ?_ | fail
  try simp only [Act.put, List.setIfInBounds_toArray, List.set_cons_zero, List.set_cons_succ]
  refine held_c 4 fun K hK => ?_
  go_simp
  skip
  refine hK.out _ _ (⟨⟨cell_later (bel1' _ _) hHeld.1.1, cell_later (bel1' _ _) hHeld.1.2.1, cell_later (bel1' _ _) hHeld.1.2.2.1, cell_later (bel1' _ _) hHeld.1.2.2.2⟩, Ext.trans' hHeld.2 (bel1' _ _)⟩) (fun hHeld => ?_)
  clear hK K
  try simp only [Act.put, List.setIfInBounds_toArray, List.set_cons_zero, List.set_cons_succ]
  refine held_c 6 fun K hK => ?_
  go_simp
  (go_at_call 63; refine (HAT.out _ _ _ (Ext.trans' HB3.out hHeld.2) ⟨by simp, by simp, HNV.out.ext (bel1' _ _), HO.out.ext (Ext.trans' HB3.out hHeld.2)⟩).mono ?_; rintro e w5 ⟨rfl, hb5⟩)
  refine hK.out _ _ (⟨⟨cell_later hb5 hHeld.1.1, cell_later hb5 hHeld.1.2.1, cell_later hb5 hHeld.1.2.2.1, cell_later hb5 hHeld.1.2.2.2⟩, Ext.trans' hHeld.2 hb5⟩) (fun hHeld => ?_)
  clear hK K
  try simp only [Act.put, List.setIfInBounds_toArray, List.set_cons_zero, List.set_cons_succ]
  refine held_c 7 fun K hK => ?_
  go_simp
  (go_at_call 61; refine (HS.out _).mono ?_; rintro e w6 ⟨rfl, rfl⟩)
  refine hK.out _ _ (hHeld) (fun hHeld => ?_)
  clear hK K
  try simp only [Act.put, List.setIfInBounds_toArray, List.set_cons_zero, List.set_cons_succ]
  first | (refine held_t (i := 8) hHeld ?_; apply Exists.intro; refine ⟨fun wq hq => ?_, ?_⟩; (focus ((try dsimp only at hq); go_simp; (first | done | with_reducible rfl | fail)))) | refine held_s (i := 8) hHeld ?_ | fail
  first | (refine held_t (i := 9) hHeld ?_; apply Exists.intro; refine ⟨fun wq hq => ?_, ?_⟩; (focus ((try dsimp only at hq); go_simp; (first | done | with_reducible rfl | fail)))) | refine held_s (i := 9) hHeld ?_ | fail
  try simp only [Act.put, List.setIfInBounds_toArray, List.set_cons_zero, List.set_cons_succ]
  first | (refine held_t (i := 10) hHeld ?_; apply Exists.intro; refine ⟨fun wq hq => ?_, ?_⟩; (focus ((try dsimp only at hq); go_simp; (first | done | with_reducible rfl | fail)))) | refine held_s (i := 10) hHeld ?_ | fail
  first | (refine held_t (i := 11) hHeld ?_; apply Exists.intro; refine ⟨fun wq hq => ?_, ?_⟩; (focus ((try dsimp only at hq); go_simp; (first | done | with_reducible rfl | fail)))) | refine held_s (i := 11) hHeld ?_ | fail
  try simp only [Act.put, List.setIfInBounds_toArray, List.set_cons_zero, List.set_cons_succ]
  refine wpAnyH_done (by kernel_rfl) ?_ _
  have HF := Lib.hid (Ext.trans' HB3.out hHeld.2)
  clear hHeld
  go_wp2
  go_ret2
  exact ⟨rfl, HF.out⟩
theorem rwrite_all {xs : List O} {x : Tm} {w : World} {vo v : Value} (ho : Ops w vo xs) (hv : TmV w x v) : Calls Tryz.prog 31 #[vo, v] w fun e w' => e = .returned (termTx xs x) ∧ Below w.heap.size w w' := by
  unfold termTx
  cases hg : (goodB xs && goodT x) with
  | false => rw [textX_no]; exact rwrite_bad hg ho hv
  | true =>
    obtain ⟨h1, h2⟩ := both_true hg
    obtain ⟨Z, e1, h3, h4⟩ := short_any (writeT xs x)
    rw [h3]
    exact rwrite_ok h1 h2 h4 ho hv
end Go.Proofs.YtljgkfdnmikpfaaGreatDoor
/- The laws' own tables as the document's. -/
namespace Go.Proofs.YtljgkfdnmikpfaaGreatDoor
open Go.Shelf Go.RowKit
set_option linter.unusedVariables false
set_option maxRecDepth 100000
set_option maxHeartbeats 2000000 in
theorem ownOps9_walk {w : World} {v : Value} {xs : List O} (h : Ops w v xs) (hl : xs.length ≤ 5000) :
    Calls Tryz.prog 32 #[.agg #[v]] w fun e w' => ∃ a c, e = .returned (.slice a xs.length c) ∧ Ops w' (.slice a xs.length c) xs ∧ Below w.heap.size w w' := by
  obtain ⟨a, c, rfl, hl1, hl2⟩ := h.form
  unfold maxLen at hl2
  have H := Lib.hid h
  clear h
  obtain ⟨i0, hi0, hz0, hs0, hb0⟩ := infoR_parts
  go_enter Tryz.func32, Tryz.ntmps32
  go_wp2_with fail
  go_loopw [3, 4] (fun r i wr => ∃ (k : Nat) (a' : Option Addr) (c' : Nat), k ≤ xs.length ∧ i = .int .i64 k ∧ r = .slice a' k c' ∧ Hid (wr.ownsRow (w.heap.size + 1) 114 3 (.slice a' k c') k ((xs.take k).flatMap oCells) ∧
    wr.cell? ⟨w.heap.size, 0, none⟩ = some (.slice a xs.length c) ∧ w.heap.size + 1 ≤ wr.heap.size ∧ Below (w.heap.size + 1) (w.alloc (.cells #[.slice a xs.length c] 36)) wr)) (fun _ i _ => xs.length - (intOf i).toNat)
  case atStart => exact ⟨0, none, 0, by omega, rfl, rfl, Lib.hid ⟨⟨rfl, Or.inl ⟨rfl, rfl⟩⟩, by simp, by simp, Below.refl _ _⟩⟩
  case round =>
    obtain ⟨k, a1, c1, hk, rfl, rfl, HB⟩ := hrel
    have c0 := HB.out.2.1
    have HBW : Hid (Below w.heap.size w wr) := Lib.hid (Below.trans (bel1' _ _) (HB.out.2.2.2.mono (by simp)))
    by_cases hlt : k < xs.length
    · obtain ⟨x, hx⟩ : ∃ x, xs[k]? = some x := ⟨_, List.getElem?_eq_getElem hlt⟩
      obtain ⟨b, off, rfl, hbs, d0, d1, d2⟩ := (H.out.ext HBW.out).cells hx
      have HT : Hid ((xs.take (k + 1)).flatMap oCells = (xs.take k).flatMap oCells ++ [x].flatMap oCells) := Lib.hid (by rw [List.take_add_one, hx, List.flatMap_append]; rfl)
      have HDD := Lib.hid (fun (wq : World) (hb : Below (w.heap.size + 1) (w.alloc (.cells #[.slice (some ⟨b, off, none⟩) xs.length c] 36)) wq) => (show wq.cell? ⟨w.heap.size, 0, none⟩ = some (.slice (some ⟨b, off, none⟩) xs.length c) ∧ wq.cell? ⟨b, off + k * 3, none⟩ = some (.string x.n) ∧ wq.cell? ⟨b, off + k * 3 + 1, none⟩ = some (.string x.k) ∧ wq.cell? ⟨b, off + k * 3 + 2, none⟩ = some (.int .i64 x.l) from by
        refine ⟨(hb.cell (p := ⟨w.heap.size, 0, none⟩) (by simp)).trans (by simp), ?_⟩
        obtain ⟨b', off', e, _, h⟩ := (H.out.ext (Below.trans (bel1' _ _) (hb.mono (by simp)))).cells hx
        cases e
        exact h))
      clear hx
      have hone := fun (wq : World) => one_src wq x 114
      rcases x with ⟨xn, xk, xl⟩
      simp only at d0 d1 d2 hone HDD
      have HONE := Lib.hid hone
      clear hone
      have hkk : (k : Int) < xs.length := by omega
      have HSZ := Lib.hid HB.out.2.2.1
      go_wp2_with fail
      go_region_held3 (fun w' => w'.cell? ⟨w.heap.size, 0, none⟩ = some (.slice (some ⟨b, off, none⟩) xs.length c) ∧ w'.cell? ⟨b, off + k * 3, none⟩ = some (.string xn) ∧ w'.cell? ⟨b, off + k * 3 + 1, none⟩ = some (.string xk) ∧ w'.cell? ⟨b, off + k * 3 + 2, none⟩ = some (.int .i64 xl))
        (first | exact ⟨c0, d0, d1, d2⟩ | exact HDD.out _ HB4.out | go_keep)
        (first
          | (refine step_append_k (by rfl) _ _ 62 (by rfl) (w.heap.size + 1) 114 i0 (.agg #[.string ⟨#[]⟩, .string ⟨#[]⟩, .int .i64 0]) 3 40 Tryz.underlying62 hi0 hz0 hs0 (by decide) hb0 rfl (.slice a1 k c1) k ((xs.take k).flatMap oCells) (by rfl) (HB.out.1.alloc _) (some ⟨wr.heap.size, 0, none⟩) 1 1 ([(⟨xn, xk, xl⟩ : O)].flatMap oCells) (by rfl) (by rfl) (Or.inr ⟨_, rfl, HONE.out wr⟩) (flat3_one _) (by unfold maxLen; omega) (by omega) (by have := HSZ.out; simp; omega) (k + 1) ((xs.take (k + 1)).flatMap oCells) rfl HT.out ?_; intro a4 c4 w4 hown4 hgrow4 hat4; have HO4 := Lib.hid hown4; have HB4 := Lib.hid ((HB.out.2.2.2.alloc HSZ.out (.cells #[.string xn, .string xk, .int .i64 xl] 114)).drew.grown hgrow4 (by have := HSZ.out; simp; omega) (own_base HB.out.1)); clear hown4 hgrow4 hat4)
          | fail)
      go_wp2
      go_roundw
      case rel => exact ⟨k + 1, a4, c4, by omega, by go_num, rfl, Lib.hid ⟨HO4.out, (HDD.out _ HB4.out).1, by have := HB4.out.size; simpa using this, HB4.out⟩⟩
      case measure => simp [intOf]; omega
    · have hkn : k = xs.length := by omega
      subst hkn
      have hown := HB.out.1
      rw [List.take_length] at hown
      have HO := Lib.hid (ops_owned hown)
      clear hown
      go_wp2
      go_ret
      exact ⟨_, _, rfl, HO.out, HBW.out⟩
end Go.Proofs.YtljgkfdnmikpfaaGreatDoor
/- WriteSays: what is written is as the document says: the law, walked. -/
namespace Go.Proofs.YtljgkfdnmikpfaaGreatDoor
open Go.Shelf Go.RowKit
set_option linter.unusedVariables false
set_option maxRecDepth 100000

theorem textX_form (g : Bool) (l : List UInt8) : ∃ (Z : ByteArray) (e : Int), textX g l = .tuple #[.string Z, .int .i64 e] := by
  cases g
  · exact ⟨_, _, textX_no l⟩
  · by_cases h : 4096 < l.length
    · exact ⟨_, _, textX_far h⟩
    · exact ⟨_, _, textX_ok (by omega)⟩
set_option maxHeartbeats 8000000 in
theorem says9_at {w : World} (hc : Con w) {xs : List O} {vl : Value} (ho : Ops w vl xs) {x : Tm} {v : Value} (hv : TmV w x v) :
    Calls Tryz.prog 8 #[vl, v] w fun e w' => e = .returned (.bool true) ∧ Below w.heap.size w w' := by
  obtain ⟨k, n, s, a, m, c, rfl⟩ := hv.full
  obtain ⟨ao, co, rfl, hl1, hl2⟩ := ho.form
  obtain ⟨nl, hnl⟩ : ∃ q, xs.length = q := ⟨_, rfl⟩
  rw [hnl] at ho hl1 ⊢
  have HNL := Lib.hid hnl
  obtain ⟨w1, hw1, hb1, hz1, hx1⟩ := box_new w #[.int .i64 k, .int .i64 n, .string s, .slice a m c] 27
  have HC := Lib.hid hc
  have HO := Lib.hid ho
  have HV := Lib.hid hv
  have HB1 := Lib.hid hb1
  have HX1 := Lib.hid hx1
  have HAW := Lib.hid (awake9_at (hc.ext hb1))
  clear hc ho hv hb1 hx1 hz1 hnl
  go_enter Tryz.func8, Tryz.ntmps8
  go_wp2_with fail
  (try rw [hw1])
  clear hw1
  (go_wp2_with fail; go_fit (HAW.out); rintro e w2 ⟨rfl, hb2⟩)
  have HB2 := Lib.hid (Ext.trans' HB1.out hb2)
  have HX2 := Lib.hid (HX1.out.ext hb2)
  clear hb2 HAW HX1
  by_cases hbig : 60 < nl
  · have hd : decide ((60 : Int) < (nl : Int)) = true := decide_eq_true (by omega)
    go_wp2
    go_ret
    exact ⟨rfl, HB2.out⟩
  have hda : decide ((60 : Int) < (nl : Int)) = false := decide_eq_false (by omega)
  have hdp := deep9_at _ x (Nat.le_refl _) 70 (by unfold I64; omega) w2 _ (TmV.ext HB2.out _ _ HV.out)
  obtain ⟨b0, b1, b2, b3, bf⟩ := HX2.out.four
  cases hdeep : deepT x 70
  case true =>
    rw [hdeep] at hdp
    clear hdeep
    (go_wp2_with fail; go_fit (hdp); rintro e w3 ⟨rfl, hb3⟩)
    have HB3 := Lib.hid (Ext.trans' HB2.out hb3)
    clear hb3 hdp
    go_wp2
    go_ret
    exact ⟨rfl, HB3.out⟩
  rw [hdeep] at hdp
  clear hdeep
  (go_wp2_with fail; go_fit (hdp); rintro e w3 ⟨rfl, hb3⟩)
  have HB3 := Lib.hid (Ext.trans' HB2.out hb3)
  have HX3 := Lib.hid (HX2.out.ext hb3)
  clear hb3 hdp b0 b1 b2 b3 bf HX2
  obtain ⟨w4, hw4, hb4, hz4, hx4⟩ := box_new w3 #[.slice ao nl co] 36
  have HB4 := Lib.hid (Ext.trans' HB3.out hb4)
  have HX4 := Lib.hid (HX3.out.ext hb4)
  have HT4 := Lib.hid hx4
  have HW4 := Lib.hid hw4
  obtain ⟨Z, e1, hZ⟩ := textX_form (goodB xs && goodT x) (writeT xs x)
  obtain ⟨Y, e2, hY⟩ := textX_form (goodT x) (PLAIN (varsT x []) x)
  have HWT := Lib.hid (fun (wq : World) (hq : Below w.heap.size w wq) => wterm_at (HC.out.ext hq) (HO.out.ext hq) (TmV.ext hq _ _ HV.out))
  have HWP := Lib.hid (fun (wq : World) (hq : Below w.heap.size w wq) => wplain_at (HC.out.ext hq) (TmV.ext hq _ _ HV.out))
  have HRW := Lib.hid (fun (wq : World) (vo v' : Value) (h1 : Ops wq vo xs) (h2 : TmV wq x v') => rwrite_all h1 h2)
  have HRP := Lib.hid (fun (wq : World) (v' : Value) (h2 : TmV wq x v') => rplain_all h2)
  have HOO := Lib.hid (fun (wq : World) (hq : Below w.heap.size w wq) => ownOps9_walk (HO.out.ext hq) (by rw [HNL.out]; omega))
  have HOW := Lib.hid (fun (wq : World) (hq : Below w.heap.size w wq) => own9_at x (fun _ => false) wq _ (fun _ _ => rfl) (TmV.ext hq _ _ HV.out))
  unfold termTx at HWT HRW
  rw [hZ] at HWT HRW
  rw [hY] at HWP HRP
  rw [HNL.out] at HOO
  clear hZ hY hb4 hz4 hx4 hw4
  go_upto_region 6 with fail
  rw [HW4.out]
  obtain ⟨b0, b1, b2, b3, bf⟩ := HX4.out.four
  have c0 := HT4.out.cells 0 _ rfl
  (go_wp2_with fail; go_fit (HWT.out w4 HB4.out); rintro e w5 ⟨rfl, hb5⟩)
  have HB5 := Lib.hid (Ext.trans' HB4.out hb5)
  have HX5 := Lib.hid (HX4.out.ext hb5)
  have HT5 := Lib.hid (HT4.out.ext hb5)
  clear hb5 HX4 HT4 HW4 b0 b1 b2 b3 bf c0
  obtain ⟨b0, b1, b2, b3, bf⟩ := HX5.out.four
  have c0 := HT5.out.cells 0 _ rfl
  go_upto_region 7 with fail
  refine wp_region_held_drew (S := fun w' => (w'.cell? ⟨w.heap.size, 0, none⟩ = some (.int .i64 k) ∧ w'.cell? ⟨w.heap.size, 1, none⟩ = some (.int .i64 n) ∧ w'.cell? ⟨w.heap.size, 2, none⟩ = some (.string s) ∧ w'.cell? ⟨w.heap.size, 3, none⟩ = some (.slice a m c) ∧ w'.cell? ⟨w3.heap.size, 0, none⟩ = some (.slice ao nl co)) ∧ Below w5.heap.size w5 w') (by kernel_rfl) ⟨⟨b0, b1, b2, b3, c0⟩, (Below.refl _ _).drew⟩ (fun hHeld => ?_)
  first | (refine held_t (i := 0) hHeld ?_; apply Exists.intro; refine ⟨fun wq hq => ?_, ?_⟩; (focus ((try dsimp only at hq); go_simp; (first | done | with_reducible rfl | fail)))) | refine held_s (i := 0) hHeld ?_ | fail
  first | (refine held_t (i := 2) hHeld ?_; apply Exists.intro; refine ⟨fun wq hq => ?_, ?_⟩; (focus ((try dsimp only at hq); go_simp; (first | done | with_reducible rfl | fail)))) | refine held_s (i := 2) hHeld ?_ | fail
  try simp only [Act.put, List.setIfInBounds_toArray, List.set_cons_zero, List.set_cons_succ]
  refine held_c 1 fun K hK => ?_
  go_simp
  (go_at_call 32; refine (HOO.out _ (Ext.trans' HB5.out hHeld.2)).mono ?_; rintro e wA ⟨oa, oc, rfl, hoA, hbA⟩)
  refine hK.out _ _ (⟨⟨cell_later hbA hHeld.1.1, cell_later hbA hHeld.1.2.1, cell_later hbA hHeld.1.2.2.1, cell_later hbA hHeld.1.2.2.2.1, cell_later hbA hHeld.1.2.2.2.2⟩, Ext.trans' hHeld.2 hbA⟩) (fun hHeld => ?_)
  clear hK K
  try simp only [Act.put, List.setIfInBounds_toArray, List.set_cons_zero, List.set_cons_succ]
  refine held_c 3 fun K hK => ?_
  go_simp
  (go_at_call 33; refine (HOW.out _ (Ext.trans' HB5.out hHeld.2)).mono ?_; rintro e wB ⟨vB, rfl, htB, hbB⟩)
  refine hK.out _ _ (⟨⟨cell_later hbB hHeld.1.1, cell_later hbB hHeld.1.2.1, cell_later hbB hHeld.1.2.2.1, cell_later hbB hHeld.1.2.2.2.1, cell_later hbB hHeld.1.2.2.2.2⟩, Ext.trans' hHeld.2 hbB⟩) (fun hHeld => ?_)
  clear hK K
  try simp only [Act.put, List.setIfInBounds_toArray, List.set_cons_zero, List.set_cons_succ]
  refine held_c 4 fun K hK => ?_
  go_simp
  (go_at_call 31; refine (HRW.out _ _ _ (hoA.ext hbB) htB.bare).mono ?_; rintro e wC ⟨rfl, hbC⟩)
  refine hK.out _ _ (⟨⟨cell_later hbC hHeld.1.1, cell_later hbC hHeld.1.2.1, cell_later hbC hHeld.1.2.2.1, cell_later hbC hHeld.1.2.2.2.1, cell_later hbC hHeld.1.2.2.2.2⟩, Ext.trans' hHeld.2 hbC⟩) (fun hHeld => ?_)
  clear hK K
  try simp only [Act.put, List.setIfInBounds_toArray, List.set_cons_zero, List.set_cons_succ]
  first | (refine held_t (i := 5) hHeld ?_; apply Exists.intro; refine ⟨fun wq hq => ?_, ?_⟩; (focus ((try dsimp only at hq); go_simp; (first | done | with_reducible rfl | fail)))) | refine held_s (i := 5) hHeld ?_ | fail
  first | (refine held_t (i := 6) hHeld ?_; apply Exists.intro; refine ⟨fun wq hq => ?_, ?_⟩; (focus ((try dsimp only at hq); go_simp; (first | done | with_reducible rfl | fail)))) | refine held_s (i := 6) hHeld ?_ | fail
  try simp only [Act.put, List.setIfInBounds_toArray, List.set_cons_zero, List.set_cons_succ]
  first | (refine held_t (i := 7) hHeld ?_; apply Exists.intro; refine ⟨fun wq hq => ?_, ?_⟩; (focus ((try dsimp only at hq); go_simp; (first | done | with_reducible rfl | fail)))) | refine held_s (i := 7) hHeld ?_ | fail
  try simp only [Act.put, List.setIfInBounds_toArray, List.set_cons_zero, List.set_cons_succ]
  first | (refine held_t (i := 8) hHeld ?_; apply Exists.intro; refine ⟨fun wq hq => ?_, ?_⟩; (focus ((try dsimp only at hq); go_simp; (first | done | with_reducible rfl | fail)))) | refine held_s (i := 8) hHeld ?_ | fail
  first | (refine held_t (i := 9) hHeld ?_; apply Exists.intro; refine ⟨fun wq hq => ?_, ?_⟩; (focus ((try dsimp only at hq); go_simp; (first | done | with_reducible rfl | fail)))) | refine held_s (i := 9) hHeld ?_ | fail
  try simp only [Act.put, List.setIfInBounds_toArray, List.set_cons_zero, List.set_cons_succ]
  refine wpAnyH_done (by kernel_rfl) ?_ _
  have HB6 := Lib.hid (Ext.trans' HB5.out hHeld.2)
  have HX6 := Lib.hid (HX5.out.ext hHeld.2)
  clear hHeld b0 b1 b2 b3 bf c0 htB hoA HX5 HT5
  obtain ⟨b0, b1, b2, b3, bf⟩ := HX6.out.four
  (go_wp2_with fail; go_fit (HWP.out wC HB6.out); rintro e w7 ⟨rfl, hb7⟩)
  have HB7 := Lib.hid (Ext.trans' HB6.out hb7)
  have HX7 := Lib.hid (HX6.out.ext hb7)
  clear hb7 b0 b1 b2 b3 bf HX6
  obtain ⟨b0, b1, b2, b3, bf⟩ := HX7.out.four
  (go_wp2_with fail; go_fit (HOW.out w7 HB7.out); rintro e w8 ⟨v8, rfl, ht8, hb8⟩)
  have HB8 := Lib.hid (Ext.trans' HB7.out hb8)
  have HP8 := Lib.hid (HRP.out w8 v8 ht8.bare)
  clear hb8 ht8
  (go_wp2_with fail; go_fit (HP8.out); rintro e w9 ⟨rfl, hb9⟩)
  have HB9 := Lib.hid (Ext.trans' HB8.out hb9)
  clear hb9
  go_wp2
  go_ret
  exact ⟨rfl, HB9.out⟩
end Go.Proofs.YtljgkfdnmikpfaaGreatDoor
/- Operators that came in: one, a slice of them. -/
namespace Go.Proofs.YtljgkfdnmikpfaaGreatDoor
open Go.RowKit Go.ChangeShapes Go.WideShapes Go.ChangeAt Go.Deep
set_option maxRecDepth 100000

theorem wf_range0 {a : Int} (h : (Lit.int .i64 a).wf = true) : -9223372036854775808 ≤ a ∧ a ≤ 9223372036854775807 := by
  simpa [Lit.wf, IntKind.min, IntKind.max, IntKind.signed, IntKind.bits] using h
theorem op_parse {H : Type} {enc : TypeId × Value → H} {W : World} {n : Nat} {cs : List Value} {D : DataW H} {pl : List MemPlace} (hd : DataW.trod enc Tryz.prog W 0 (fun _ => true) true n 33 cs = some (D, pl))
    (hw : ∀ m ∈ D.weights Tryz.prog 33, m ≤ 140737488351232) : ∃ x : O, cs = oCells x ∧ oOk x := by
  obtain ⟨xs, n', rfl, hx, hl, hxl, hf⟩ := DataW.trod_struct Tryz.underlying33 hd
  have e1 : Tryz.prog.cellsOf 33 = 3 := by kernel_rfl
  have e2 : Tryz.prog.cellsOf 3 = 1 := by kernel_rfl
  have e3 : Tryz.prog.cellsOf 9 = 1 := by kernel_rfl
  rw [e1] at hl
  obtain ⟨c0, c1, c2, rfl⟩ : ∃ c0 c1 c2, cs = [c0, c1, c2] := by
    match cs, hl with
    | [a, b, c], _ => exact ⟨a, b, c, rfl⟩
  obtain ⟨y0, y1, y2, rfl⟩ : ∃ y0 y1 y2, xs = [y0, y1, y2] := by
    match xs, hxl with
    | [a, b, c], _ => exact ⟨a, b, c, rfl⟩
  have f0 : DataW.trod enc Tryz.prog W 0 (fun _ => true) true n' 9 (([c0, c1, c2].drop 0).take (Tryz.prog.cellsOf 9)) = [y0, y1, y2][0]? := hf 0 _ rfl
  have f1 : DataW.trod enc Tryz.prog W 0 (fun _ => true) true n' 9 (([c0, c1, c2].drop 1).take (Tryz.prog.cellsOf 9)) = [y0, y1, y2][1]? := hf 1 _ rfl
  have f2 : DataW.trod enc Tryz.prog W 0 (fun _ => true) true n' 3 (([c0, c1, c2].drop 2).take (Tryz.prog.cellsOf 3)) = [y0, y1, y2][2]? := hf 2 _ rfl
  rw [e3] at f0 f1
  rw [e2] at f2
  simp only [List.drop_zero, List.drop_succ_cons, List.take_succ_cons, List.take_zero, List.getElem?_cons_zero, List.getElem?_cons_succ] at f0 f1 f2
  obtain ⟨s, q0, r0, s0⟩ := DataW.trod_string Tryz.underlying9 f0
  obtain ⟨t, q1, r1, s1⟩ := DataW.trod_string Tryz.underlying9 f1
  obtain ⟨a, q2, r2, s2⟩ := DataW.trod_int Tryz.underlying3 f2
  obtain rfl := (List.cons.inj q0).1
  obtain rfl := (List.cons.inj q1).1
  obtain rfl := (List.cons.inj q2).1
  simp only [Prod.mk.injEq] at hx
  have h0 := hw s.data.toList.length (by
    rw [hx.1, r0]
    simp [DataW.weights, Tryz.underlying33, DataW.weightsEach])
  have h1 := hw t.data.toList.length (by
    rw [hx.1, r1]
    simp [DataW.weights, Tryz.underlying33, DataW.weightsEach])
  exact ⟨⟨s, t, a⟩, rfl, h0, h1, wf_range0 s2⟩
theorem ops_of_trod {H : Type} {enc : TypeId × Value → H} {W : World} {v : Value} {d : DataW H} {ps : List MemPlace} (h : DataW.Trod enc Tryz.prog W 0 (fun _ => true) true 34 v d ps)
    (hv : Value.okWide Tryz.prog W .any 0 34 v) (hw : ∀ n ∈ d.weights Tryz.prog 34, n ≤ 140737488351232) : ∃ l, Ops W v l ∧ ∀ x ∈ l, oOk x := by
  obtain ⟨l, h1, h2, _⟩ := elems_of_trod (α := O) Tryz.underlying34 (S := 3) (B := 40) (by kernel_rfl) (by omega) (by kernel_rfl) oCells oOk
    (by obtain ⟨x, y, z, e⟩ := okWide_slice Tryz.underlying34 hv; exact ⟨x, y, z, e⟩) h hw (fun n cs D pl hd hw' => op_parse hd hw')
  exact ⟨l, h1, h2⟩
end Go.Proofs.YtljgkfdnmikpfaaGreatDoor
/- What the cards of this seat share: the package variables of the standard library. -/
namespace Go.Proofs.YtljgkfdnmikpfaaGreatDoor
open Go.Shelf Go.RowKit
set_option linter.unusedVariables false

theorem con_of {l : List (String × DataW Unit)} {w : World} (hl : (l.all fun x => x.2.handleName?.isNone) = true) (hf : l.filter (fun x => x.1 == "internal/strconv.uint64pow10") = [("internal/strconv.uint64pow10", Lib.tabData .u64 Lib.pow10Tab)]) (h : laidMetH Tryz.prog l w) (he : Err w) : Con w := by
  rw [MakeChecks.laidMetH_plain _ _ _ hl] at h
  have h1 := h.filter (fun x => x.1 == "internal/strconv.uint64pow10")
  rw [hf] at h1
  exact ⟨Lib.tabIs_of_head gPow (by kernel_rfl) (t := 227) (e := 207) (n := 20) Tryz.underlying227 Tryz.underlying207 (by kernel_rfl) (by kernel_rfl) h1, he⟩
end Go.Proofs.YtljgkfdnmikpfaaGreatDoor
/- WriteSays, handed in: at every table and term the law answers true. The card ties the package variables of the standard library that its row lists. -/
namespace Go.Proofs.YtljgkfdnmikpfaaGreatDoor
open Go.Shelf Go.RowKit
set_option linter.unusedVariables false

theorem says9_law {w : World} {vl v : Value} {l : List O} {x : Tm} (hl : Ops w vl l ∧ ∀ o ∈ l, oOk o) (hx : IsTm w v x) (hc : Con w) : Calls Tryz.prog 8 #[vl, v] w fun e w' => e = .returned (.bool true) ∧ Below w.heap.size w w' := says9_at hc hl.1 hx
theorem ctxWs {w : World} (h : laidMetH Tryz.prog Rows.writeSaysRow.laid w) : Con w := con_of (by kernel_rfl) (by kernel_rfl) h (err_of (text := [118, 97, 108, 117, 101, 32, 111, 117, 116, 32, 111, 102, 32, 114, 97, 110, 103, 101]) (by kernel_rfl) (by kernel_rfl) rfl h)
namespace writeSays
open Go.ChangeShapes Go.WideShapes Go.ChangeAt Go.RowKit
theorem own : ownKnob Tryz.prog.godebug = none := by kernel_rfl
theorem laidOut : laidOutB Tryz.prog = true := by kernel_rfl
set_option linter.unusedVariables false
set_option maxRecDepth 100000 in
theorem lifted (os : Os) (started : os.Started) (H : Type) (enc : TypeId × Value → H) :
    ReturnsInHanded {} Tryz.checked os 8 .any (fun w args => (Rows.writeSaysSpec.pre enc Tryz.prog Tryz.f8 [] false w args ∧ laidMetH Tryz.prog Rows.writeSaysRow.laid w) ∧ sizedMet enc Tryz.prog Tryz.f8 (OpenSpec.ofChange Rows.writeSaysSpec) false w args)
      (Rows.writeSaysSpec.post enc Tryz.prog Tryz.f8 false true false false) := by
  refine returnsInHanded_of_change_and (C := Tryz.checked) (X := fun w _ => laidMetH Tryz.prog Rows.writeSaysRow.laid w) (fun _ _ _ hh h => h.of_heap hh) own started (by kernel_rfl) Tryz.func8
    (ChangeSpec.witness_shaped (enc := enc) (C := Tryz.checked) (os := os) (X := fun w _ => laidMetH Tryz.prog Rows.writeSaysRow.laid w) false (World.laidAll Tryz.prog os Rows.writeSaysRow.laid) #[.slice none 0 0, .agg #[.int .i64 0,.int .i64 0,.string ⟨#[]⟩,.slice none 0 0]] 8 (World.laidAll_os _ _ _)
      (World.shaped_of_ZipB (by kernel_rfl) (by kernel_rfl)) (by kernel_rfl) (by kernel_rfl) (by kernel_rfl)
      (by rw [MakeChecks.laidMetH_plain _ _ _ (by kernel_rfl)]; exact laidMet_laidAll _ (by kernel_rfl) (by kernel_rfl))) ?_
  intro W base args ds gs before hval0 hW hcnd hsz0 hL _
  have hval : ∀ (j : Nat) t v, Tryz.f8.params[j]? = some t → args[j]? = some v → Value.okWide Tryz.prog W .any base t v := hval0
  have hW' := hW
  obtain ⟨p, q, hA0, hV, rfl, hfz, hnd⟩ := hW
  have hA : DataW.TrodAll enc Tryz.prog W 0 (fun _ => true) true Tryz.f8.params.toList args.toList ds p := hA0
  have hsz : (DataW.weightsEach Tryz.prog (Tryz.f8.params.toList ++ []) (ds ++ gs)).all (· ≤ reachBytes) = true := hsz0
  rw [Tryz.params8] at hA hval hsz
  obtain ⟨v0, vs0, d0, ds0, p0, q0, hargs, rfl, rfl, h0, r0⟩ := trodAll_cons hA
  obtain ⟨v1, vs1, d1, ds1, p1, q1, rfl, rfl, rfl, h1, r1⟩ := trodAll_cons r0
  obtain ⟨rfl, rfl, rfl⟩ := trodAll_nil r1
  obtain rfl : args = #[v0, v1] := by cases args; simp_all
  obtain ⟨rfl, rfl⟩ := trodVars_none hV
  clear hA0 hval0 hsz0
  have k0 := h0
  have lt0 := lt_of_trod h0
  have k1 := h1
  have lt1 := lt_of_trod h1
  obtain ⟨a0, w0⟩ := ops_of_trod h0 (hval 0 34 v0 rfl rfl) (weights_ok hsz (j := 0) (t := 34) (d := d0) rfl rfl)
  obtain ⟨a1, w1⟩ := term_of_trod h1 (hval 1 27 v1 rfl rfl) (weights_ok hsz (j := 1) (t := 27) (d := d1) rfl rfl)
  refine (says9_law w0 w1 (ctxWs hL)).mono fun e W' ⟨he, bel⟩ => ?_
  subst he
  exact ⟨_, rfl, _, _, _, [], _, [], hW', trodAll_mk1 (shut_bool Tryz.underlying4 _), (trodAll_cons_mk (Below.trod laidOut (by kernel_rfl) (of_decide_eq_true (by kernel_rfl)) k0 bel lt0) (trodAll_cons_mk (Below.trod laidOut (by kernel_rfl) (of_decide_eq_true (by kernel_rfl)) k1 bel lt1) trodAll_mk0)), rfl, bel.frame _, fun h => by cases h⟩
theorem proved : Rows.WriteSaysSaid :=
  OpenClaim.holds_of_wide 8 Tryz.f8 rfl rfl rfl rfl rfl rfl rfl ⟨rfl, rfl, rfl, rfl, rfl⟩ rfl rfl rfl rfl rfl (by kernel_rfl) Tryz.func8 (by kernel_rfl)
    (of_decide_eq_true (by kernel_rfl)) (by unfold Func.isWrapper; first | (rw [if_pos (by decide +kernel)]; kernel_rfl) | (rw [if_neg (by decide +kernel)]; exact ⟨rfl, rfl⟩))
    (fun os started H enc _ => lifted os started H enc)
theorem carded : Rows.WriteSaysCardSaid :=
  Claim7.holds_tied_plain_at .later [] [.data, .data, .data, .sentinel, .sentinel] true (true, "f00b49542ba4a8c92a7fc946f6030d37583e9e6c28cfd70f94577bd756c544ac") true
    proved (fun _ h => by cases h) (by kernel_rfl) (fun _ h => by cases h) writeSays_row_tie rfl ⟨rfl, rfl⟩ (by kernel_rfl) rfl
    (fun f fn hf hfn => by
      obtain rfl : f = 8 := Option.some.inj ((show Tryz.prog.funcNamed "sizar/sizarlaw9.WriteSays" = some 8 by kernel_rfl).symm.trans hf) |>.symm
      obtain rfl : fn = Tryz.f8 := (Option.some.inj (Tryz.func8.symm.trans hfn)).symm
      exact ⟨by kernel_rfl, fun j t ht => by
        rw [Tryz.params8] at ht
        have hm : t ∈ [34, 27] := by simpa using Array.mem_of_getElem? ht
        have hall : ([34, 27].all fun u => !Tryz.prog.wantsStandIn u) = true := by kernel_rfl
        exact (show Tryz.prog.wantsStandIn t = false by simpa using List.all_eq_true.1 hall t hm)⟩)
    (by kernel_rfl)
#print axioms carded
end writeSays

end Go.Proofs.YtljgkfdnmikpfaaGreatDoor
