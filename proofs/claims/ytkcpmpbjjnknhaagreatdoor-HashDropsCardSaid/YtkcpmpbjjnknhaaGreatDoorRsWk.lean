/-
  A row of whole numbers of one's own, whose slice lies in a box: what is done with both is said by their blocks.
-/
import Derived.Test.YtkcpmpbjjnknhaaGreatDoorWkR
import Derived.Test.YtkcpmpbjjnknhaaGreatDoorKitI
import Derived.Test.YtkcpmpbjjnknhaaGreatDoorKitA
namespace Go.Proofs.YtkcpmpbjjnknhaaGreatDoor
open Go.ChangeShapes Go.WideShapes Go.ChangeAt Go.RowKit
set_option linter.unusedVariables false

/-- A box, and the row of the slice in it. -/
def mine (b : Nat) (v : Value) : Nat → Prop := fun k => k = b ∨ v.ownBlock = some k
theorem mine_nil {b k : Nat} (h : mine b nilS.v k) : k = b := h.elim id fun q => by cases q
section
variable {ops : Array Oper} {Q : Exit → Act → World → Prop} {n d : Nat} {E : Env} {o : Oper} {rest : List Oper} {w w' : World} {x y : Operand} {t t' : TypeId}
theorem own_kept {M : Nat → Prop} {base e size k : Nat} {v : Value} {xs : List Value} (h : w.ownsRow base e size v k xs) (g : Kept M w w') (hM : ∀ q, v.ownBlock = some q → M q) : w'.ownsRow base e size v k xs :=
  ⟨h.1, h.2.imp id fun ⟨q, cap, cur, hv, hb, hq, r⟩ => ⟨q, cap, cur, hv, hb, (g.block q (Array.getElem?_eq_some_iff.1 hq).1 (hM q (by rw [hv]; rfl))).trans hq, r⟩⟩
theorem own_castN {base : Nat} {v : Value} {xs ys : List Int} (h : w.ownsRow base 3 1 v xs.length (xs.map (Value.int .i64))) (e : xs = ys) : w.ownsRow base 3 1 v ys.length (ys.map (Value.int .i64)) := e ▸ h
theorem slv_inj {r s : SlV} (h : r.v = s.v) : r = s := by
  obtain ⟨A, m, c⟩ := r
  obtain ⟨A', m', c'⟩ := s
  cases h
  rfl
theorem own_num {base k : Nat} {r : SlV} {ys : List Int} (h : w.ownsRow base 3 1 r.v k (ys.map (Value.int .i64))) : SlN w w.heap.size r ys := by
  obtain ⟨s, e, q⟩ := own_SlN h
  rw [slv_inj e]
  exact q
theorem lg_appM {base g b : Nat} {s : SlV} {xs : List Int} {k : Int} {tr : TypeId} (hown : w.ownsRow base 3 1 s.v xs.length (xs.map (Value.int .i64))) (hr : RowAt w g tr #[nv k]) (hb : xs.length ≤ 1000000000) (hbase : base ≤ w.heap.size) (hbw : b < w.heap.size) (hw : Want ops E o true)
    (ho : o.op = .call { callee := .builtin .append, args := #[x, y], argTypes := #[23, 23] }) (hty : o.type = 23) (hx : val E x = some s.v) (hy : val E y = some (.slice (some ⟨g, 0, none⟩) 1 1)) (hd : o.dst = some d) (hn : d < n)
    (h : ∀ (r : SlV) w', SlN w' w'.heap.size r (xs ++ [k]) → w'.ownsRow base 3 1 r.v (xs ++ [k]).length ((xs ++ [k]).map (Value.int .i64)) → Below base w w' → Did (mine b s.v) (mine b r.v) w w' → LG Tryz.prog ops Q n ((d, r.v) :: E) rest w') : LG Tryz.prog ops Q n E (o :: rest) w := by
  have hc : w.cell? ⟨g, 0, none⟩ = some (nv k) := by rw [cell_of_row w g 0 _ tr _ hr]; rfl
  obtain ⟨v', w', hrun, hj⟩ := append_num w base s.v xs k g hown hc hb hbase
  have ho' : w'.ownsRow base 3 1 v' (xs ++ [k]).length ((xs ++ [k]).map (Value.int .i64)) := by rw [List.length_append]; exact hj.1
  obtain ⟨r, rfl, hR⟩ := own_SlN ho'
  have hg := hj.2.1
  refine lg_do hw (fun n a ha => ?_) hd hn (h r w' hR ho' (joinedNum_below hown hj (Below.refl _ _) hbase).1 ⟨⟨hg.os, hg.tape, hg.output, hg.size, fun q hq z => hg.block q hq fun e => z (.inr e.symm)⟩, fun q hq => ?_, fun q hq => ?_⟩)
  · simp [execOp, ho, hty, resolve, invoke, builtin, ha.eval hx, ha.eval hy, hrun, Result.andThen]
  · rcases hq with rfl | hq
    · exact .inl (.inl rfl)
    · rcases hj.2.2 with e | e
      · exact .inl (.inr (e ▸ hq))
      · rw [e] at hq
        exact .inr (by cases hq; exact Nat.le_refl _)
  · rcases hq with rfl | hq
    · exact Nat.lt_of_lt_of_le hbw hg.size
    · exact (ho'.lt q hq).2
theorem SlN.kept {m : Nat → Prop} {B : Nat} {s : SlV} {xs : List Int} (h : SlN w B s xs) (k : Kept m w w') (hm : ∀ p, s.A = some p → p.block < B → m p.block) (hB : B ≤ w.heap.size) : SlN w' B s xs :=
  ⟨h.1, h.2.1, h.2.2.1, fun h0 => by
    obtain ⟨b, o, e, hb, hc⟩ := h.2.2.2 h0
    exact ⟨b, o, e, hb, fun i z hi => (World.cell?_of_block (w := w) (a := ⟨b, o + i, none⟩) (k.block b (by omega) (hm _ e hb))).trans (hc i z hi)⟩⟩
end
end Go.Proofs.YtkcpmpbjjnknhaaGreatDoor
