/-
  Spots, and functions that keep boxes.
-/
import Derived.Test.YtfdmhdnlmndhdaaGreatDoorChWk
import Derived.Test.YtfdmhdnlmndhdaaGreatDoorEdMath
namespace Go.Proofs.YtfdmhdnlmndhdaaGreatDoor
open Go.ChangeShapes Go.WideShapes Go.ChangeAt Go.RowKit
set_option linter.unusedVariables false

/-- Where the slices of a Sq lie. -/
structure SqV where
 tree:SlV
 says:LfV
/-- What a Sq says. -/
structure Sq where
 tree:List Nd
 i:Int
 says:Lf
abbrev SqV.cs (l:SqV) (L:Sq):Array Value:=#[l.tree.v,nv L.i,l.says.enc.v,l.says.cred.v,nv L.says.src,l.says.par.v]
structure IsSq (w:World) (B:Nat) (l:SqV) (L:Sq):Prop where
 tree:RwNd w B l.tree L.tree
 says:IsLf w B l.says L.says
section
variable {w w':World} {B B':Nat} {l:SqV} {L:Sq}
theorem IsSq.below (h:IsSq w B l L) (b:Below B w w'):IsSq w' B l L:=⟨h.tree.below b,h.says.below b⟩
theorem IsSq.more (h:IsSq w B l L) (b:B≤B'):IsSq w B' l L:=⟨h.tree.more b,h.says.more b⟩
abbrev SqV.zero:SqV:=⟨nilS,⟨nilS,nilS,nilS⟩⟩
abbrev Sq.zero:Sq:=⟨[],0,⟨[],[],0,[]⟩⟩
theorem IsSq.zero (w:World) (B:Nat):IsSq w B SqV.zero Sq.zero:=⟨RwNd.nil _ _,IsLf.zero _ _⟩
end
/-- A function and the boxes that it keeps. -/
structure FV where
 f:FuncId
 cap:List Value
abbrev FV.v (q:FV):Value:=.func (.func q.f) #[] q.cap.toArray
abbrev FV.none:FV:=⟨0,[]⟩
abbrev okF (f : FuncId) : Prop := ((Tryz.prog.funcs[f]?).map fun fn => (fn.name == "runtime.NumGoroutine", fn.body.isNone)) = some (false, false)
/-- The first error. -/
def firstE:List Int→Int
 | []=>0
 | e::es=>if e=0 then firstE es else e
theorem firstE_none:∀ {es:List Int},(∀ j,j<es.length→es.getD j 0=0)→firstE es=0
 | [],_=>rfl
 | e::es,h=>by
  rw [firstE,if_pos (show e=0 from h 0 (by simp))]
  exact firstE_none fun j hj=>h (j+1) (by simpa using hj)
theorem firstE_at:∀ {es:List Int} {t:Nat},(∀ j,j<t→es.getD j 0=0)→t<es.length→¬es.getD t 0=0→firstE es=es.getD t 0
 | [],t,_,h,_=>absurd h (Nat.not_lt_zero _)
 | e::es,0,_,_,hk=>by
  rw [firstE,if_neg (show ¬e=0 from hk)]
  rfl
 | e::es,t+1,h,ht,hk=>by
  rw [firstE,if_pos (show e=0 from h 0 (by omega))]
  exact firstE_at (fun j hj=>h (j+1) (by omega)) (by simpa using ht) hk
/-- Functions that, asked of x, tell errors. -/
def Asks (W:World) (x:Value):List FV→List Int→Prop
 | [],[]=>True
 | f::fs,e::es=>(okF f.f∧∀ w,Below W.heap.size W w→Calls Tryz.prog f.f ([]++[x]++f.cap).toArray w fun r w'=>∃ v,r=.returned v∧v=nv e∧Below w.heap.size w w')∧Asks W x fs es
 | _,_=>False
theorem asks_len {W:World} {x:Value}:∀ {fs:List FV} {es:List Int},Asks W x fs es→es.length=fs.length
 | [],[],_=>rfl
 | f::fs,e::es,h=>by
  have:=asks_len h.2
  simp only [List.length_cons]
  omega
 | [],e::es,h=>h.elim
 | f::fs,[],h=>h.elim
theorem asks_at {W:World} {x:Value}:∀ {fs:List FV} {es:List Int} {t:Nat},Asks W x fs es→t<fs.length→okF (fs.getD t FV.none).f∧∀ w,Below W.heap.size W w→Calls Tryz.prog (fs.getD t FV.none).f ([]++[x]++(fs.getD t FV.none).cap).toArray w fun r w'=>∃ v,r=.returned v∧v=nv (es.getD t 0)∧Below w.heap.size w w'
 | [],_,_,_,h=>absurd h (Nat.not_lt_zero _)
 | f::fs,e::es,0,h,_=>h.1
 | f::fs,e::es,t+1,h,ht=>asks_at (t:=t) h.2 (by simpa using ht)
 | f::fs,[],_,h,_=>h.elim
theorem fn_cell {w:World} {b t:Nat} {tr:TypeId} {fs:List FV} (hr:RowAt w b tr (fs.map FV.v).toArray) (ht:t<fs.length):w.cell? ⟨b,0+t*1,none⟩=some (fs.getD t FV.none).v:=by
 rw [cell_of_row w b _ _ tr _ hr,List.getElem?_toArray,List.getElem?_map,Nat.zero_add,Nat.mul_one,List.getElem?_eq_getElem ht,List.getD_eq_getElem?_getD,List.getElem?_eq_getElem ht]
 rfl
end Go.Proofs.YtfdmhdnlmndhdaaGreatDoor
