/- The law LabelTexts, walked. -/
import Derived.Test.YtolfbhanglkpkaaLabL
namespace Go.Proofs.Ytolfbhanglkpkaa
open Go.RowKit

def text3 (x : Nat) : ByteArray := ⟨(text (abc.map bl) x).toArray⟩
theorem text3_inj : ∀ x, x < 8 → ∀ y, y < 8 → (bl (text3 x) = bl (text3 y) ↔ x = y) := by decide +kernel
theorem leq_anti {a b : Nat} (h : leq a b = true) (h' : leq b a = true) : a = b := by
  apply Nat.eq_of_testBit_eq
  intro i
  have h1 := leq_iff.1 h i
  have h2 := leq_iff.1 h' i
  cases ha : a.testBit i <;> cases hb : b.testBit i <;> simp_all
theorem meet_join (x y : Nat) : x &&& (x ||| y) = x := by
  apply Nat.eq_of_testBit_eq; intro i; simp [Nat.testBit_and, Nat.testBit_or]; cases x.testBit i <;> simp
theorem join_meet (x y : Nat) : x ||| (x &&& y) = x := by
  apply Nat.eq_of_testBit_eq; intro i; simp [Nat.testBit_and, Nat.testBit_or]; cases x.testBit i <;> simp
theorem join2 (x y b : Nat) (t : TypeId) (w : World) (hb : b = w.heap.size) (hx : x < 18446744073709551616) (hy : y < 18446744073709551616) :
    Calls Try.prog 16 #[.slice (some ⟨b, 0, none⟩) 2 2] (w.alloc (.cells #[.int .u64 x, .int .u64 y] t)) fun e w' => e = .returned (.int .u64 (x ||| y : Nat)) ∧ w.alloc (.cells #[.int .u64 x, .int .u64 y] t) = w' := by
  subst hb
  have h := join_some w.heap.size 0 2 2 [x, y] (w.alloc (.cells #[.int .u64 x, .int .u64 y] t)) rfl (by decide) (by simp [hx, hy]) (fun i z hz => by
    rw [World.cell?_alloc_at _ _ _ _ rfl]
    match i, hz with
    | 0, hz => simp at hz; simp [hz]
    | 1, hz => simp at hz; simp [hz])
  exact h.mono fun e w' ⟨h1, h2⟩ => ⟨by rw [h1]; simp [joinL], h2⟩

set_option maxHeartbeats 800000 in
theorem texts_core (a b x y : Nat) (w : World) (ha : bits .and .u64 (a : Int) 7 = (x : Int)) (hb : bits .and .u64 (b : Int) 7 = (y : Int)) (hx : x < 8) (hy : y < 8) :
    Calls Try.prog 6 #[.int .u64 a, .int .u64 b] w (IsBool w true) := by
  have hor : x ||| y < 18446744073709551616 := or_lt (by omega) (by omega)
  have hand : x &&& y < 18446744073709551616 := Nat.lt_of_le_of_lt Nat.and_le_left (by omega)
  have hmj := meet_join x y
  have hjm := join_meet x y
  have HM := Lib.hid (And.intro hmj hjm); clear hmj hjm
  have JJ : Hid (∀ (wj : World) (b : Nat), b = wj.heap.size → Calls Try.prog 16 #[.slice (some ⟨b, 0, none⟩) 2 2] (wj.alloc (.cells #[.int .u64 x, .int .u64 y] 27)) fun e w' => e = .returned (.int .u64 (x ||| y : Nat)) ∧ wj.alloc (.cells #[.int .u64 x, .int .u64 y] 27) = w') := Lib.hid fun wj b hb => join2 _ _ _ _ wj hb (by omega) (by omega)
  have MM : Hid (∀ wj : World, Calls Try.prog 17 #[.int .u64 x, .int .u64 y] wj fun e w' => e = .returned (.int .u64 (x &&& y : Nat)) ∧ wj = w') := Lib.hid fun wj => meet_any _ _ _ (by omega) (by omega)
  obtain ⟨tx, htx⟩ : ∃ t, text3 x = t := ⟨_, rfl⟩
  obtain ⟨ty, hty⟩ : ∃ t, text3 y = t := ⟨_, rfl⟩
  have hxe : text (abc.map bl) x = bl tx := by rw [← htx]; rfl
  have hye : text (abc.map bl) y = bl ty := by rw [← hty]; rfl
  have hinj : (tx.toList == ty.toList) = (x == y) := by
    rw [Bool.eq_iff_iff, Lib.toList_data, Lib.toList_data]; simp only [beq_iff_eq]
    rw [← htx, ← hty]; exact text3_inj x hx y hy
  have HXE := Lib.hid hxe; have HYE := Lib.hid hye; clear hxe hye htx hty
  have e3 : ((x : Int) == (y : Int)) = (x == y) := by rw [Bool.eq_iff_iff]; simp; omega
  have hl : (leq x y && leq y x) = (x == y) := by
    rw [Bool.eq_iff_iff]; simp only [Bool.and_eq_true, beq_iff_eq]
    constructor
    · intro h; exact leq_anti h.1 h.2
    · intro h; subst h; simp [leq]
  rw [← hl] at hinj e3
  clear hl
  have hq : x ||| y = x ||| y := rfl
  generalize x ||| y = o at *
  generalize x &&& y = n at *
  clear hq
  cases e2 : leq x y <;> cases e4 : leq y x
  all_goals (rw [e2, e4] at hinj e3; simp only [Bool.and_self, Bool.and_true, Bool.and_false] at hinj e3)
  all_goals
    go_enter Try.func6, Try.ntmps6
    (go_wp2_with fail; go_fit (awake_any _); rintro e w1 ⟨rfl, b1⟩)
    (go_wp2_with fail; go_fit (names_any _); rintro e w2 ⟨v2, rfl, h2, b2⟩)
    (go_wp2_with fail; go_fit (text_at x tx h2 (by omega) HXE.out); rintro e w3 ⟨rfl, b3⟩)
    (go_wp2_with fail; go_fit (text_at y ty (h2.ext b3) (by omega) HYE.out); rintro e w4 ⟨rfl, b4⟩)
    have hz : w.heap.size ≤ w4.heap.size := Nat.le_trans b1.size (Nat.le_trans b2.size (Nat.le_trans b3.size b4.size))
    have B := Lib.hid (Ext.trans' b1 (Ext.trans' b2 (Ext.trans' b3 b4))); clear b1 b2 b3 b4
    (go_wp2_with fail; go_fit (leq_any x y _ (by omega) (by omega)); rintro e w5 ⟨rfl, rfl⟩)
    try (go_wp2_with fail; go_fit (leq_any y x _ (by omega) (by omega)); rintro e w5 ⟨rfl, rfl⟩)
    (go_wp2_with fail; go_fit (JJ.out _ _ rfl); rintro e w6 ⟨rfl, rfl⟩)
    (go_wp2_with fail; go_fit (meet_any _ _ _ (by omega) hor); rintro e w7 ⟨rfl, rfl⟩)
    rw [HM.out.1]
    (go_wp2_with fail; go_fit (MM.out _); rintro e w8 ⟨rfl, rfl⟩)
    (go_wp2_with fail; go_fit (join2 _ _ _ _ _ (by simp) (by omega) hand); rintro e w9 ⟨rfl, rfl⟩)
    rw [HM.out.2]
    go_wp2
    go_ret
    exact ⟨rfl, (B.out.alloc hz _).alloc (by simp; omega) _⟩
end Go.Proofs.Ytolfbhanglkpkaa
