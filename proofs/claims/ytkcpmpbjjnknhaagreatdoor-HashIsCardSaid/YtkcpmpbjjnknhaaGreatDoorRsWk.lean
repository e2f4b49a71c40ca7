/-
  A row of whole numbers of one's own, whose slice lies in a box: what is done with both is said by their blocks.
-/
import Derived.Test.YtkcpmpbjjnknhaaGreatDoorWkR
import Derived.Test.YtkcpmpbjjnknhaaGreatDoorKitI
import Derived.Test.YtkcpmpbjjnknhaaGreatDoorKitA
namespace Go.Proofs.YtkcpmpbjjnknhaaGreatDoor
open Go.ChangeShapes Go.WideShapes Go.ChangeAt Go.RowKit
set_option linter.unusedVariables false

section
variable {ops : Array Oper} {Q : Exit → Act → World → Prop} {n d : Nat} {E : Env} {o : Oper} {rest : List Oper} {w w' : World} {x y : Operand} {t t' : TypeId}
theorem own_kept {M : Nat → Prop} {base e size k : Nat} {v : Value} {xs : List Value} (h : w.ownsRow base e size v k xs) (g : Kept M w w') (hM : ∀ q, v.ownBlock = some q → M q) : w'.ownsRow base e size v k xs :=
  ⟨h.1, h.2.imp id fun ⟨q, cap, cur, hv, hb, hq, r⟩ => ⟨q, cap, cur, hv, hb, (g.block q (Array.getElem?_eq_some_iff.1 hq).1 (hM q (by rw [hv]; rfl))).trans hq, r⟩⟩
theorem own_castN {base : Nat} {v : Value} {xs ys : List Int} (h : w.ownsRow base 3 1 v xs.length (xs.map (Value.int .i64))) (e : xs = ys) : w.ownsRow base 3 1 v ys.length (ys.map (Value.int .i64)) := e ▸ h
theorem slv_inj {r s : SlV} (h : r.v = s.v) : r = s := by
  obtain ⟨A, m, c⟩ := r
  obtain ⟨A', m', c'⟩ := s
  cases h
  rfl
theorem own_num {base k : Nat} {r : SlV} {ys : List Int} (h : w.ownsRow base 3 1 r.v k (ys.map (Value.int .i64))) : SlN w w.heap.size r ys := by
  obtain ⟨s, e, q⟩ := own_SlN h
  rw [slv_inj e]
  exact q
theorem SlN.kept {m : Nat → Prop} {B : Nat} {s : SlV} {xs : List Int} (h : SlN w B s xs) (k : Kept m w w') (hm : ∀ p, s.A = some p → p.block < B → m p.block) (hB : B ≤ w.heap.size) : SlN w' B s xs :=
  ⟨h.1, h.2.1, h.2.2.1, fun h0 => by
    obtain ⟨b, o, e, hb, hc⟩ := h.2.2.2 h0
    exact ⟨b, o, e, hb, fun i z hi => (World.cell?_of_block (w := w) (a := ⟨b, o + i, none⟩) (k.block b (by omega) (hm _ e hb))).trans (hc i z hi)⟩⟩
end
end Go.Proofs.YtkcpmpbjjnknhaaGreatDoor
