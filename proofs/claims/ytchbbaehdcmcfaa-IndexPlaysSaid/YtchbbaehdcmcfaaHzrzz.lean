/- Words that the walks use: what is put into a list of slots, what stands in a list. -/
import Derived.Deep.RegionHeld3
namespace Go
theorem lay4 {α : Type} : (∀ (l : List α) (i : Nat) (a : α), l.toArray.setIfInBounds i a = (l.set i a).toArray) ∧ (∀ (x : α) (xs : List α) (a : α), (x :: xs).set 0 a = a :: xs) ∧ ∀ (x : α) (xs : List α) (n : Nat) (a : α), (x :: xs).set (n + 1) a = x :: xs.set n a :=
  ⟨fun _ _ _ => List.setIfInBounds_toArray .., fun _ _ _ => rfl, fun _ _ _ _ => rfl⟩
theorem ops3 {α : Type} : (∀ (l : List α) (i : Nat), l.toArray[i]? = l[i]?) ∧ (∀ (x : α) (xs : List α), (x :: xs)[0]? = some x) ∧ ∀ (x : α) (xs : List α) (n : Nat), (x :: xs)[n + 1]? = xs[n]? :=
  ⟨fun _ _ => List.getElem?_toArray .., fun _ _ => rfl, fun _ _ _ => rfl⟩
end Go
