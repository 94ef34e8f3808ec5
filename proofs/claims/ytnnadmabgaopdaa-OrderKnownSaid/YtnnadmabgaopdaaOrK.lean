/- OrderKeys walked. -/
import Derived.Test.YtnnadmabgaopdaaOrA
import Derived.Test.YtnnadmabgaopdaaDeep10
namespace Go.Proofs.Ytnnadmabgaopdaa
open Go.RowKit
set_option linter.unusedVariables false

abbrev w2b (W : World) (k n : Int) (s : ByteArray) (u : Value) (k' n' : Int) (s' : ByteArray) (u' : Value) : World :=
  (W.alloc (box4 k n s u 25)).alloc (box4 k' n' s' u' 25)
theorem cells2 (W : World) (k n : Int) (s : ByteArray) (u : Value) (k' n' : Int) (s' : ByteArray) (u' : Value) (wr : World)
    (hb : Below (w2b W k n s u k' n' s' u').heap.size (w2b W k n s u k' n' s' u') wr) :
    (wr.cell? ⟨W.heap.size, 0, none⟩ = some (.int .i64 k) ∧ wr.cell? ⟨W.heap.size, 1, none⟩ = some (.int .i64 n) ∧ wr.cell? ⟨W.heap.size, 2, none⟩ = some (.string s) ∧ wr.cell? ⟨W.heap.size, 3, none⟩ = some u) ∧
    (wr.cell? ⟨W.heap.size + 1, 0, none⟩ = some (.int .i64 k') ∧ wr.cell? ⟨W.heap.size + 1, 1, none⟩ = some (.int .i64 n') ∧ wr.cell? ⟨W.heap.size + 1, 2, none⟩ = some (.string s') ∧ wr.cell? ⟨W.heap.size + 1, 3, none⟩ = some u') := by
  have h1 := Ext.trans' (bel1' (W.alloc (box4 k n s u 25)) (box4 k' n' s' u' 25)) hb
  have a := box_cells W _ _ _ _ _ h1
  have b := box_cells (W.alloc (box4 k n s u 25)) _ _ _ _ _ hb
  simp only [World.size_alloc] at b
  exact ⟨a, b⟩
theorem less_int (a b : Int) (h : a ≠ b) : decide (cmpI a b < 0) = decide (a < b) ∧ cmpI a b ≠ 0 := by
  unfold cmpI
  by_cases h1 : a < b
  · rw [if_pos h1]; simp [h1]
  · have h2 : b < a := by omega
    rw [if_neg h1, if_pos h2]; simp [h1]
theorem less_bytes (a b : List UInt8) (h : a ≠ b) : decide (cmpB a b < 0) = Op.bytesLess a b ∧ cmpB a b ≠ 0 := by
  refine ⟨?_, fun e => h ((bytes_zero a b).1 e)⟩
  unfold cmpB
  cases h1 : Op.bytesLess a b
  · cases h2 : Op.bytesLess b a <;> rfl
  · rfl
theorem or_ne {x y : Int} (h : x ≠ 0) : or2 x y = x := if_neg h
theorem or_eq {x y : Int} (h : x = 0) : or2 x y = y := if_pos h
/-- What a good one's fields are. -/
theorem good_fields {k n : Int} {s : ByteArray} {ts : List Tm} (h : goodT (.mk k n s ts) = true) : (k = 0 ∧ s.data.toList = [] ∧ ts = []) ∨ (k = 1 ∧ s.data.toList = [] ∧ ts = []) ∨ (k = 2 ∧ n = 0) := by
  have hf := (good_parts h).2.2
  rw [formedT, Bool.and_eq_true] at hf
  have := hf.1
  unfold plainT at this
  by_cases h0 : k = 0
  · subst h0
    simp at this
    exact Or.inl ⟨rfl, by simpa using this.1.2, this.2⟩
  · rw [if_neg h0] at this
    by_cases h1 : k = 1
    · subst h1
      simp at this
      exact Or.inr (Or.inl ⟨rfl, by simpa using this.1, this.2⟩)
    · rw [if_neg h1] at this
      by_cases h2 : k = 2
      · subst h2
        simp at this
        exact Or.inr (Or.inr ⟨rfl, this.1.1.1⟩)
      · rw [if_neg h2] at this
        cases this
theorem keys_facts {k n : Int} {s : ByteArray} {ts : List Tm} {k' n' : Int} {s' : ByteArray} {ts' : List Tm} (hx : goodT (.mk k n s ts) = true) (hy : goodT (.mk k' n' s' ts') = true) {K L p : Int}
    (hK : placeK k ts.length = K) (hL : placeK k' ts'.length = L) (hp : cmpG (.mk k n s ts) (.mk k' n' s' ts') = p) :
    (K ≠ L → decide (p < 0) = decide (K < L) ∧ p ≠ 0) ∧ (K = L → K = 3 → (ts.length : Int) ≠ ts'.length → decide (p < 0) = decide ((ts.length : Int) < ts'.length) ∧ p ≠ 0) ∧
    (K = L → (K = 3 → (ts.length : Int) = ts'.length) → s.toList ≠ s'.toList → decide (p < 0) = Op.bytesLess s.toList s'.toList ∧ p ≠ 0) ∧ (K = L → s.toList = s'.toList → K < 2 ∨ K = 3 ∨ p = 0) := by
  have e : cmpG (.mk k n s ts) (.mk k' n' s' ts') = cmpT (.mk k n s ts) (.mk k' n' s' ts') := cmpG_ok (by rw [hx, hy]; rfl)
  rw [e, cmp_mk] at hp
  unfold firstK at hp
  rw [hK, hL] at hp
  rw [Lib.toList_data, Lib.toList_data]
  refine ⟨fun h => ?_, fun h h3 hc => ?_, fun h hc hs => ?_, fun h hs => ?_⟩
  · obtain ⟨h1, h2⟩ := less_int K L h
    rw [or_ne (x := cmpI K L) h2, or_ne (x := cmpI K L) h2] at hp
    subst hp
    exact ⟨h1, h2⟩
  · have hn : n = n' := by
      have gx := good_fields hx
      have gy := good_fields hy
      unfold placeK at hK hL
      split at hK <;> split at hL <;> omega
    obtain ⟨h1, h2⟩ := less_int (ts.length : Int) ts'.length hc
    have a1 : or2 (cmpI ↑ts.length ↑ts'.length) (cmpB s.data.toList s'.data.toList) = cmpI ↑ts.length ↑ts'.length := or_ne h2
    rw [or_eq (x := cmpI K L) (int_zero.2 h), or_eq (x := cmpI n n') (int_zero.2 hn), a1, or_ne h2] at hp
    subst hp
    exact ⟨h1, h2⟩
  · have hn : n = n' ∧ ts.length = ts'.length := by
      have gx := good_fields hx
      have gy := good_fields hy
      have q1 : ∀ {l : List Tm}, l = [] → l.length = 0 := fun e => by rw [e]; rfl
      rcases gx with ⟨rfl, b1, rfl⟩ | ⟨rfl, b1, rfl⟩ | ⟨rfl, rfl⟩ <;> rcases gy with ⟨rfl, b2, rfl⟩ | ⟨rfl, b2, rfl⟩ | ⟨rfl, rfl⟩ <;> unfold placeK at hK hL <;> simp at hK hL
      · exact absurd (b1.trans b2.symm) hs
      · omega
      · split at hL <;> omega
      · omega
      · exact absurd (b1.trans b2.symm) hs
      · split at hL <;> omega
      · split at hK <;> omega
      · split at hK <;> omega
      · refine ⟨rfl, ?_⟩
        by_cases h3 : K = 3
        · have := hc h3
          omega
        · have z1 : ts.length = 0 := by split at hK <;> omega
          have z2 : ts'.length = 0 := by split at hL <;> omega
          omega
    obtain ⟨h1, h2⟩ := less_bytes s.data.toList s'.data.toList hs
    rw [or_eq (x := cmpI K L) (int_zero.2 h), or_eq (x := cmpI n n') (int_zero.2 hn.1), or_eq (x := cmpI ↑ts.length ↑ts'.length) (int_zero.2 (by omega)), or_ne h2] at hp
    subst hp
    exact ⟨h1, h2⟩
  · by_cases h2 : K < 2
    · exact Or.inl h2
    · by_cases h3 : K = 3
      · exact Or.inr (Or.inl h3)
      · refine Or.inr (Or.inr ?_)
        have gx := good_fields hx
        have gy := good_fields hy
        have hk : k = 2 ∧ n = 0 ∧ ts = [] := by
          unfold placeK at hK
          rcases gx with ⟨rfl, _, rfl⟩ | ⟨rfl, _, rfl⟩ | ⟨rfl, rfl⟩
          · simp at hK; omega
          · simp at hK; omega
          · refine ⟨rfl, rfl, ?_⟩
            cases ts with
            | nil => rfl
            | cons a r => simp at hK; omega
        have hk' : k' = 2 ∧ n' = 0 ∧ ts' = [] := by
          unfold placeK at hL
          rcases gy with ⟨rfl, _, rfl⟩ | ⟨rfl, _, rfl⟩ | ⟨rfl, rfl⟩
          · simp at hL; omega
          · simp at hL; omega
          · refine ⟨rfl, rfl, ?_⟩
            cases ts' with
            | nil => rfl
            | cons a r => simp at hL; omega
        obtain ⟨rfl, rfl, rfl⟩ := hk
        obtain ⟨rfl, rfl, rfl⟩ := hk'
        rw [← hp, int_zero.2 h, (bytes_zero _ _).2 hs]
        rfl
set_option maxHeartbeats 16000000 in
set_option maxRecDepth 100000 in
theorem keys_walk {W : World} {v0 v1 : Value} {x y : Tm} (hx : TmV W x v0) (hy : TmV W y v1) : Calls Try.prog 6 #[v0, v1] W fun e w' => IsBool W true e w' := by
  have i40 : I64 40 := by unfold I64; omega
  have DX := fun (w : World) (hb : Below W.heap.size W w) => deep10_at _ x (Nat.le_refl _) 40 i40 w _ (TmV.ext hb _ _ hx)
  have DY := fun (w : World) (hb : Below W.heap.size W w) => deep10_at _ y (Nat.le_refl _) 40 i40 w _ (TmV.ext hb _ _ hy)
  have GX := fun (w : World) (hb : Below W.heap.size W w) => Good_at x w _ (TmV.ext hb _ _ hx)
  have GY := fun (w : World) (hb : Below W.heap.size W w) => Good_at y w _ (TmV.ext hb _ _ hy)
  have CXY := fun (w : World) (hb : Below W.heap.size W w) => Cmp_at (TmV.ext hb _ _ hx) (TmV.ext hb _ _ hy)
  cases x with
  | mk k n s ts =>
  cases y with
  | mk k' n' s' ts' =>
  obtain ⟨u, rfl, _, _, _, hu⟩ := tmV_iff.1 hx
  obtain ⟨u', rfl, _, _, _, hu'⟩ := tmV_iff.1 hy
  obtain ⟨a, c, rfl, h1, h2, h3⟩ := hu.len
  obtain ⟨a', c', rfl, h1', h2', h3'⟩ := hu'.len
  obtain ⟨K, hK⟩ : ∃ K, placeK k ts.length = K := ⟨_, rfl⟩
  obtain ⟨L, hL⟩ : ∃ K, placeK k' ts'.length = K := ⟨_, rfl⟩
  have KX := fun (w : World) => key_at (k := k) (n := n) (s := s) (a := a) h1 h2 w
  have KY := fun (w : World) => key_at (k := k') (n := n') (s := s') (a := a') h1' h2' w
  have HF := fun (e : goodT (.mk k n s ts) = true) (e' : goodT (.mk k' n' s' ts') = true) => keys_facts e e' hK hL rfl
  rw [hK] at KX
  rw [hL] at KY
  generalize cmpG (.mk k n s ts) (.mk k' n' s' ts') = p at CXY HF
  generalize deepT (.mk k n s ts) 40 = dx at DX
  generalize deepT (.mk k' n' s' ts') 40 = dy at DY
  generalize goodT (.mk k n s ts) = gx at GX HF
  generalize goodT (.mk k' n' s' ts') = gy at GY HF
  obtain ⟨m, hm⟩ : ∃ m, ts.length = m := ⟨_, rfl⟩
  obtain ⟨m', hm'⟩ : ∃ m, ts'.length = m := ⟨_, rfl⟩
  rw [hm] at DX GX CXY KX HF ⊢
  rw [hm'] at DY GY CXY KY HF ⊢
  have DX := Lib.hid DX
  have DY := Lib.hid DY
  have GX := Lib.hid GX
  have GY := Lib.hid GY
  have CXY := Lib.hid CXY
  have KX := Lib.hid KX
  have KY := Lib.hid KY
  have HF := Lib.hid HF
  have hw : Below W.heap.size W (w2b W k n s (.slice a m c) k' n' s' (.slice a' m' c')) := (bel1' W _).alloc (by simp) _
  have HC := Lib.hid (cells2 W k n s (.slice a m c) k' n' s' (.slice a' m' c'))
  have HW := Lib.hid hw
  clear hx hy hw i40 hu hu' h1 h2 h3 h1' h2' h3' hK hL hm hm'
  go_enter Try.func6, Try.ntmps6
  (go_wp2_with fail; go_fit (oawake_at _); rintro e w1 ⟨rfl, b1⟩)
  have H1 := Lib.hid (Ext.trans' HW.out b1)
  have B1 := Lib.hid b1
  obtain ⟨⟨c0, c1, c2, c3⟩, d0, d1, d2, d3⟩ := HC.out _ b1
  clear b1
  (go_wp2_with fail; go_fit (DX.out _ H1.out); rintro e w2 ⟨rfl, b2⟩)
  have H2 := Lib.hid (Ext.trans' H1.out b2)
  have B2 := Lib.hid (Ext.trans' B1.out b2)
  obtain ⟨⟨c0, c1, c2, c3⟩, d0, d1, d2, d3⟩ := HC.out _ B2.out
  clear b2 H1 B1
  cases dx
  rotate_left
  · go_wp2
    go_ret
    exact ⟨rfl, H2.out⟩
  (go_wp2_with fail; go_fit (DY.out _ H2.out); rintro e w3 ⟨rfl, b3⟩)
  have H3 := Lib.hid (Ext.trans' H2.out b3)
  have B3 := Lib.hid (Ext.trans' B2.out b3)
  obtain ⟨⟨c0, c1, c2, c3⟩, d0, d1, d2, d3⟩ := HC.out _ B3.out
  clear b3 H2 B2
  cases dy
  rotate_left
  · go_wp2
    go_ret
    exact ⟨rfl, H3.out⟩
  (go_wp2_with fail; go_fit (GX.out _ H3.out); rintro e w5 ⟨rfl, b5⟩)
  have H5 := Lib.hid (Ext.trans' H3.out b5)
  have B5 := Lib.hid (Ext.trans' B3.out b5)
  obtain ⟨⟨c0, c1, c2, c3⟩, d0, d1, d2, d3⟩ := HC.out _ B5.out
  clear b5 H3 B3
  cases gx
  · go_wp2
    go_ret
    exact ⟨rfl, H5.out⟩
  (go_wp2_with fail; go_fit (GY.out _ H5.out); rintro e w6 ⟨rfl, b6⟩)
  have H6 := Lib.hid (Ext.trans' H5.out b6)
  have B6 := Lib.hid (Ext.trans' B5.out b6)
  obtain ⟨⟨c0, c1, c2, c3⟩, d0, d1, d2, d3⟩ := HC.out _ B6.out
  clear b6 H5 B5
  cases gy
  · go_wp2
    go_ret
    exact ⟨rfl, H6.out⟩
  have HG := Lib.hid (HF.out (by first | rfl | trivial) (by first | rfl | trivial))
  clear DX DY GX GY HF
  (go_wp2_with fail; go_fit (KX.out _); rintro e w7 ⟨rfl, b7⟩)
  have H7 := Lib.hid (Ext.trans' H6.out b7)
  have B7 := Lib.hid (Ext.trans' B6.out b7)
  obtain ⟨⟨c0, c1, c2, c3⟩, d0, d1, d2, d3⟩ := HC.out _ B7.out
  clear b7 H6 B6
  (go_wp2_with fail; go_fit (KY.out _); rintro e w8 ⟨rfl, b8⟩)
  have H8 := Lib.hid (Ext.trans' H7.out b8)
  have B8 := Lib.hid (Ext.trans' B7.out b8)
  obtain ⟨⟨c0, c1, c2, c3⟩, d0, d1, d2, d3⟩ := HC.out _ B8.out
  clear b8 H7 B7
  (go_wp2_with fail; go_fit (CXY.out _ H8.out); rintro e w9 ⟨rfl, b9⟩)
  have H9 := Lib.hid (Ext.trans' H8.out b9)
  clear b9 H8 B8 CXY KX KY HC
  obtain ⟨f1, f2, f3, f4⟩ := HG.out
  clear HG
  by_cases hk : K = L
  · have k1 : (K != L) = false := by simpa using hk
    by_cases hk3 : K = 3
    · have k3 : (K == 3) = true := by simpa using hk3
      by_cases hc : (m : Int) = m'
      · have c1 : ((m : Int) != m') = false := by rw [hc]; simp
        by_cases hs : s.toList = s'.toList
        · have s1 : (s.toList == s'.toList) = true := by rw [hs]; simp
          have k2 : ¬ K < 2 := by omega
          clear f1 f2 f3 f4 hk hk3 hc hs
          go_wp2
          go_ret
          exact ⟨rfl, H9.out⟩
        · have s1 : (s.toList == s'.toList) = false := beq_false_of_ne hs
          obtain ⟨g1, g2⟩ := f3 hk (fun _ => hc) hs
          have g3 : (decide (p < 0) == Op.bytesLess s.toList s'.toList) = true := by rw [g1]; simp
          have g4 : (p != 0) = true := by simpa using g2
          clear f1 f2 f3 f4 hk hk3 hc hs g1 g2
          go_wp2
          go_ret
          exact ⟨rfl, H9.out⟩
      · have c1 : ((m : Int) != m') = true := by simpa using hc
        obtain ⟨g1, g2⟩ := f2 hk hk3 hc
        have g4 : (p != 0) = true := by simpa using g2
        by_cases hmm : (m : Int) < m'
        · have g5 : p < 0 := by simpa [hmm] using g1
          clear f1 f2 f3 f4 hk hk3 g1 g2
          go_wp2
          go_ret
          exact ⟨rfl, H9.out⟩
        · have g5 : ¬ p < 0 := by simpa [hmm] using g1
          clear f1 f2 f3 f4 hk hk3 g1 g2
          go_wp2
          go_ret
          exact ⟨rfl, H9.out⟩
    · have k3 : (K == 3) = false := beq_false_of_ne hk3
      by_cases hs : s.toList = s'.toList
      · have s1 : (s.toList == s'.toList) = true := by rw [hs]; simp
        rcases f4 hk hs with g | g | g
        · clear f1 f2 f3 f4 hk hk3 hs
          go_wp2
          go_ret
          exact ⟨rfl, H9.out⟩
        · exact absurd g hk3
        · have g5 : (p == 0) = true := by simpa using g
          clear f1 f2 f3 f4 hk hk3 hs g
          by_cases k2 : K < 2
          · go_wp2
            go_ret
            exact ⟨rfl, H9.out⟩
          · go_wp2
            go_ret
            exact ⟨rfl, H9.out⟩
      · have s1 : (s.toList == s'.toList) = false := beq_false_of_ne hs
        obtain ⟨g1, g2⟩ := f3 hk (fun e => absurd e hk3) hs
        have g3 : (decide (p < 0) == Op.bytesLess s.toList s'.toList) = true := by rw [g1]; simp
        have g4 : (p != 0) = true := by simpa using g2
        clear f1 f2 f3 f4 hk hk3 hs g1 g2
        go_wp2
        go_ret
        exact ⟨rfl, H9.out⟩
  · have k1 : (K != L) = true := by simpa using hk
    obtain ⟨g1, g2⟩ := f1 hk
    have g3 : (decide (p < 0) == decide (K < L)) = true := by rw [g1]; simp
    have g4 : (p != 0) = true := by simpa using g2
    clear f1 f2 f3 f4 hk g1 g2
    go_wp2
    go_ret
    exact ⟨rfl, H9.out⟩
end Go.Proofs.Ytnnadmabgaopdaa
