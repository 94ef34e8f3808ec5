/- Tables of strings: look, Find, Put, At, Len. -/
import Derived.Test.YtjpdigdocdppbaaTab
import Derived.Lib.SliceRun
namespace Go.Proofs.Ytjpdigdocdppbaa
open Go.RowKit Go.Maps Go.WideMaps

/-- p is a table of strings. -/
abbrev STab (F : List Nat) (w : World) (p : Value) (R : Nat) (ks : List ByteArray) : Prop :=
  IsTab Try.prog 9 3 50 1 (fun s => [Value.string s]) (fun s => .string s.data.toList) (fun s => s.size ≤ 140737488351232) F w p R ks
theorem sLaw : Keyed Try.prog 9 := string_keyed Try.underlying9
theorem sZero (w : World) : (zeroValue 3).run Try.prog w = .ok (.int .i64 0) w := by kernel_rfl
theorem sInj (a b : ByteArray) (_ : a.size ≤ 140737488351232) (_ : b.size ≤ 140737488351232) (h : Lit.string a.data.toList = Lit.string b.data.toList) : a = b := bl_inj (by simpa using h)
theorem sKey (s : ByteArray) : WideAt.IsKeyLit (.string s.data.toList) := trivial

theorem look_idle (p1 p2 p3 : Value) (w : World) :
    CallsD Try.prog 22 #[p1, p2, p3] .returning w fun e u' w' => e = .returned (.tuple #[]) ∧ u' = .returning ∧ w' = w := by
  refine callsD_of_wpS Try.func22 rfl fun c₀ cs hu => ?_
  apply wpS_seq
  apply wpS_region
  simp [wpOpsS, go_sem, recoverD, hu, Try.ntmps22, Exit.thenS]
  refine wpS_cond (t := false) (by simp [Act.eval, Array.replicate]) ?_
  simp only [Bool.false_eq_true, if_false]
  refine wpS_of_wp (wp_skip ?_)
  cases c₀
  simp_all [bodyPostS, results, Try.results22]

set_option maxHeartbeats 400000 in
theorem look_any {F : List Nat} {w : World} {p : Value} {R : Nat} {ks : List ByteArray} (h : STab F w p R ks) (k : ByteArray) (hk : k.size ≤ 140737488351232) {n : Int} {b : Bool} (hl : Looks ks k n b) :
    Calls Try.prog 20 #[p, .string k] w fun e w' => e = .returned (.tuple #[.int .i64 n, .bool b, .bool true]) ∧ Below w.heap.size w w' := by
  obtain ⟨bt, bm, v, D, rfl, hne, h1, h2, rfl, hbt, hr, hm, hN, hR⟩ := h
  have hmf : ∀ (fn : Fn) (first cap : Array Value) (w : World), (Instr.makeFunc fn first cap).run Try.prog w = .ok (.func fn first cap) w := fun _ _ _ _ => rfl
  have hkey := keyOf_string_mk Try.underlying9 (s := k) (by unfold maxLen; omega)
  have c2 : w.cell? ⟨bt, 2, none⟩ = some (.map (some bm)) := by simp [World.cell?, hbt]
  have c2' : ∀ o1 o2 o3, (((w.alloc o1).alloc o2).alloc o3).cell? ⟨bt, 2, none⟩ = some (.map (some bm)) := fun o1 o2 o3 => Lib.cell?_alloc_some _ (Lib.cell?_alloc_some _ (Lib.cell?_alloc_some _ c2))
  have hbl := (Array.getElem?_eq_some_iff.1 hbt).1
  have HM := Lib.hid hm
  have HB := Lib.hid hbt
  clear hm hbt
  go_enter_defers Try.func20, Try.ntmps20
  go_wp2_with (first
    | (at_lookup; refine wpList_lookup_own_ok_int _ rfl _ _ 48 rfl 9 3 .i64 sLaw Try.underlying48 Try.underlying3 (sZero _) bm ks.length D rfl (((HM.out.alloc _).alloc _).alloc _) _ _ rfl hkey ?_; intro c hat hwc)
    | go_region | go_in)
  refine leaves_cons (f := 22) (args := #[.pointer (some ⟨w.heap.size, 0, none⟩), .pointer (some ⟨w.heap.size + 1, 0, none⟩), .pointer (some ⟨w.heap.size + 1 + 1, 0, none⟩)]) (by simp) (by simp [go_sem]) ?_
  refine (look_idle _ _ _ _).mono ?_
  rintro e u' w'' ⟨rfl, rfl, rfl⟩
  have hc : c = n ∧ has D (.string k.data.toList) = b := by
    rcases hl with ⟨rfl, i, rfl, hi⟩ | ⟨rfl, rfl, hi⟩
    · have e1 := hN.at' i k hi (.lit (.int .i64 0))
      rw [hat] at e1
      simp only [DataW.lit.injEq, Lit.int.injEq, true_and] at e1
      exact ⟨e1, (hN.has k hk).2 ⟨i, hi⟩⟩
    · have e0 : has D (.string k.data.toList) = false := by
        rw [Bool.eq_false_iff]
        intro e; obtain ⟨i, hi'⟩ := (hN.has k hk).1 e
        exact hi (List.mem_of_getElem? hi')
      have e1 := atKey_of_not_has e0 (.lit (.int .i64 0))
      rw [hat] at e1
      simp only [DataW.lit.injEq, Lit.int.injEq, true_and] at e1
      exact ⟨e1, e0⟩
  obtain ⟨rfl, rfl⟩ := hc
  simp [Leaves, settle, results, Try.results20, go_sem]

  exact ((((Below.refl _ _).alloc (by simp <;> omega) _).alloc (by simp <;> omega) _).alloc (by simp <;> omega) _).drew
end Go.Proofs.Ytjpdigdocdppbaa
