/-
  Variables of one cell in memory, and parts of what a call answers: they name no type.
-/
import Derived.Test.YtakbbenegojcdaaWkE
namespace Go.Proofs.Ytakbbenegojcdaa
open Go.ChangeShapes Go.WideShapes Go.ChangeAt Go.RowKit
set_option linter.unusedVariables false

section
variable {P : Program} {ops : Array Oper} {Q : Exit → Act → World → Prop} {n d : Nat} {E : Env} {o : Oper} {rest : List Oper} {w w0 : World} {v : Value} {x y : Operand} {t t' : TypeId}
-- boxes: a variable of one cell
theorem lg_boxs {u : Value} (hu : u.cells = #[u]) (hw : Want ops E o true) (ho : o.op = .box t x) (hx : val E x = some u) (hd : o.dst = some d) (hn : d < n)
    (h : ∀ b w', New w w' b t #[u] → LG P ops Q n ((d, pv b 0) :: E) rest w') : LG P ops Q n E (o :: rest) w :=
  lg_do hw (fun n a ha => by
    unfold execOp
    rw [ho]
    simp only [ha.eval hx]
    simp [Instr.box, newVar, newRow, hu]) hd hn (h _ _ (New.of_alloc t #[u]))
theorem lg_allocs {u : Value} (hi : (P.info? t).map (fun i => (i.zero, i.size)) = some (some u, 1)) (hu : u.cells = #[u]) (hw : Want ops E o true) (ho : o.op = .alloc t) (hd : o.dst = some d) (hn : d < n)
    (h : ∀ b w', New w w' b t #[u] → LG P ops Q n ((d, pv b 0) :: E) rest w') : LG P ops Q n E (o :: rest) w :=
  lg_do hw (fun n a ha => by
    unfold execOp
    rw [ho]
    simp [Instr.alloc, newVar, newRow, hu, (zero_of_info hi)]) hd hn (h _ _ (New.of_alloc t #[u]))
theorem lg_sts {tr : TypeId} {b : Nat} {u old : Value} (hr : RowAt w b tr #[old]) (hu : u.cells = #[u]) (h1 : u.oneCell' = true) (hi : (P.info? t).map (·.size) = some 1) (hw : Want ops E o true) (ho : o.op = .store t x y) (hx : val E x = some (pv b 0)) (hy : val E y = some u) (hd : o.dst = none)
    (h : ∀ w', Set1 w w' b tr #[u] → LG P ops Q n E rest w') : LG P ops Q n E (o :: rest) w :=
  lg_st hw hr ho hx hy (by rw [hu]; exact hi) (by rw [hu]; simpa using h1) (by rw [hu]; simp) (by rw [hu]; rfl) hd h
theorem y_extract {i : Nat} {cs : Array Value} (ho : o.op = .extract x i) (hx : val E x = some (.tuple cs)) (hv : cs[i]? = some v) : Yields P E o w v := fun n a ha => .inl (by
  unfold execOp
  rw [ho]
  simp only [ha.eval hx]
  simp [Instr.extract, hv])
theorem v_extract {i : Nat} {cs : Array Value} (ho : o.op = .extract x i) (hx : val E x = some (.tuple cs)) (hv : cs[i]? = some v) (w : World) (n : Nat) (a : Act) (ha : Holds n E a) : (execOp a.eval o).run P w = .ok (.value v) w := by
  unfold execOp
  rw [ho]
  simp only [ha.eval hx]
  simp [Instr.extract, hv]
end
end Go.Proofs.Ytakbbenegojcdaa
