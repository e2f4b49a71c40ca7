/-
  What the statements of layer 13 ask of who made which node: pure.
-/
import Derived.Test.YtfdmhdnlmndhdaaGreatDoorChMath
namespace Go.Proofs.YtfdmhdnlmndhdaaGreatDoor
open Go.ChangeShapes Go.WideShapes Go.ChangeAt Go.RowKit
set_option linter.unusedVariables false

-- what is below alone matters
section
variable {t s:List Nd} (hl:t.length=s.length)
include hl
end
-- a way, and those beside it
def posI (x w:Int) (j:Nat):Int:=if j=0 then x else (dirI x w).getD (j-1) 0
def kidAt (x w:Int) (j:Nat):Prop:=((posI x w j=leftI ((dirI x w).getD j 0) w∧(copI x w).getD j 0=rightI ((dirI x w).getD j 0) w)∨(posI x w j=rightI ((dirI x w).getD j 0) w∧(copI x w).getD j 0=leftI ((dirI x w).getD j 0) w)) ∧
 sibI (posI x w j) w=(copI x w).getD j 0∧sibI ((copI x w).getD j 0) w=posI x w j∧isN ((dirI x w).getD j 0) w∧¬(dirI x w).getD j 0=x∧¬lvl ((dirI x w).getD j 0)=0
instance (x w:Int) (j:Nat):Decidable (kidAt x w j):=by unfold kidAt;infer_instance
theorem sib_way {x w:Int} (h:isN x w) {b:Int} (hb:b∈copI x w):sibI (sibI b w) w=b:=fin2 (p:=fun x w=>∀ b∈copI x w,sibI (sibI b w) w=b) (by kernel_rfl) h b hb
/-- A tree that is another one's but on a leaf's way up, and that leaf. -/
def offW (i:Int) (a s:List Nd):Prop:=s.length=a.length∧∀ y,isN y (a.length:Int)→¬undI (2*i) y a.length→atN s y.toNat=atN a y.toNat
section
variable {a s:List Nd} {i:Int} (hN:isN (2*i) (a.length:Int)) (h:offW i a s)
include hN h
end
-- what is planned
theorem planS_two (o:List Nd × List Int) (p:Int × Int) (k:List Int):(planS o p k).2=givesL (planS o p k).1 p.1 p.2:=by simp only [planS]
section
variable {a:List Nd} {i:Int} {ks:List (List Int)} (ha:trIs a) (h:planE a i ks=0)
include ha h
end
end Go.Proofs.YtfdmhdnlmndhdaaGreatDoor
