/-
  KitD: NuCat, NuLib, PnJoin, PnFr, TrClr, HsDrop, HsDropR.
-/
import Derived.Test.YtognnnjdoemgfaaDoorKitA
import Derived.Lib.Hide
import Derived.Lib.AppendZeros
import Derived.Test.YtognnnjdoemgfaaDoorKitN
import Derived.Test.YtognnnjdoemgfaaDoorShelf
import Derived.Lib.OwnBridge
import Derived.Lib.RowBridge
import Derived.Sort.OwnSortedInts
import Derived.Test.YtognnnjdoemgfaaDoorKitP
import Derived.Test.YtognnnjdoemgfaaDoorTrRef
import Derived.Test.YtognnnjdoemgfaaDoorKitI
import Derived.Test.YtognnnjdoemgfaaDoorKitH
namespace Go.Proofs.YtognnnjdoemgfaaDoor
open Go.ChangeShapes Go.WideShapes Go.ChangeAt Go.RowKit
set_option linter.unusedVariables false

/- NuCat:
  Contracts of slices.Grow (of nil) and slices.Concat (of two slices of whole numbers), which the program takes from Go's library.
-/
/- NuLib:
  Go's library on slices of whole numbers: joined, sorted, without neighbours that are the same, looked up.
-/
section
variable {w:World} {base B B2:Nat} {v:Value} {s s2:SlV} {xs ys:List Int}
end
/- PnJoin:
  Joined and cut: the program; cut: the document.
-/
def PutN (w:World) (ys:List Int) (v:Value) (w':World):Prop:=∃ r:SlV,v=r.v∧SlN w' w'.heap.size r ys∧Below w.heap.size w w'
def PutNF (w:World) (ys:List Int) (v:Value) (w':World):Prop:=∃ r:SlV,v=r.v∧SlN w' w'.heap.size r ys∧Fr w.heap.size r∧Below w.heap.size w w'
theorem PutNF.n {w w':World} {ys:List Int} {e:Ending} (h:∃ v,e=.returned v∧PutNF w ys v w'):∃ v,e=.returned v∧PutN w ys v w':=by
 obtain ⟨v,e,r,h1,h2,_,h3⟩:=h
 exact ⟨v,e,r,h1,h2,h3⟩
section
variable {w W:World} {B B2:Nat} {s s2:SlV} {xs ys:List Int}
end
/- PnFr:
  What is cut lies in memory of its own: said with PnJoin since layer 14.
-/

/- TrClr:
  Trees: a leaf and its way up are blank.
-/
/- HsDrop:
  A tree without some leaves: the program.
-/
set_option maxRecDepth 20000
/-- Where a number stands first. -/
def idxI (xs:List Int) (x:Int):Int:=if x∈xs then ((xs.takeWhile fun y=>!decide (x=y)).length:Int) else -1
theorem idxI_at:∀ {xs:List Int} {x:Int} {t:Nat},(∀ j,j<t→¬x=xs.getD j 0)→t<xs.length→x=xs.getD t 0→idxI xs x=(t:Int):=by
 intro xs x t hno ht hx
 have he:x∈xs:=by rw [hx];exact getD_in ht
 rw [idxI,if_pos he]
 refine congrArg Int.ofNat ?_
 clear he
 induction xs generalizing t with
 | nil=>exact absurd ht (Nat.not_lt_zero _)
 | cons y r ih =>
  cases t with
  | zero =>
   have hx':x=y:=hx
   rw [List.takeWhile_cons,decide_eq_true hx']
   rfl
  | succ t =>
   have h0:¬x=y:=hno 0 (by omega)
   rw [List.takeWhile_cons,decide_eq_false h0]
   show (y::_).length=_
   rw [List.length_cons,ih (fun j hj=>hno (j+1) (by omega)) (by simpa using ht) hx]
theorem idxI_no {xs:List Int} {x:Int} (h:∀ j,j<xs.length→¬x=xs.getD j 0):idxI xs x=-1:=by
 rw [idxI,if_neg]
 intro hx
 obtain ⟨i,hi,e⟩:=mem_getD hx
 exact h i hi e.symm
theorem idxI_iff (xs:List Int) (x:Int):0≤idxI xs x↔x∈xs:=by
 unfold idxI
 split
 ·rename_i h
  exact ⟨fun _=>h,fun _=>by omega⟩
 rename_i h
 exact ⟨fun q=>absurd q (by decide),fun q=>absurd q h⟩
section
variable {w W:World} {B B2:Nat} {s s2:SlV} {xs ys:List Int}
theorem indexI_any (h:SlN w B s xs) (x:Int):Calls Tryd.prog 63 #[s.v,nv x] w fun e w'=>e=.returned (nv (idxI xs x))∧w'=w:=by
 refine Qf (n:=19) Tryd.func63 rfl Tryd.ntmps63 (by simp) ?_
 show CG _ _ _ [(0,s.v),(1,nv x)] _ _
 refine ZrA ?_
 refine Zn [0,1,4] ?_
 refine Qd ?_
 refine ZrM ?_
 refine Za (y_lenM (el:=3) h.len) ?_
 refine ZM ?_
 refine Zn [0,1,4,7,8] ?_
 refine Qj ?_
 refine Qr (fun t a v=>Holds 19 [(0,s.v),(1,nv x),(7,nv (xs.length:Int)),(8,nv ((t:Nat):Int))] a∧v=w∧t≤xs.length∧(∀ j,j<t→¬x=(xs.getD j 0))) (xs.length+1) (fun a ha=>⟨ha.keep (fk rfl (fk rfl (fk rfl (fk rfl fn)))),rfl,(Nat.zero_le _),(fun j hj=>absurd hj (Nat.not_lt_zero _))⟩) ?_
 rintro t a v ht ⟨ha,rfl,tle,hno⟩
 refine cg_at ha ?_
 clear ha a
 have le_h:=h.len;have ca_h:=h.cap
 refine Zr ?_
 by_cases c1:((t:Nat):Int)<(xs.length:Int)
 ·refine Zan (yb (dT c1) yi_lss) [0,1,7,8,9] ?_
  refine Qd ?_
  refine cg_ct rfl ?_
  refine Zki [0,1,7,8] ?_
  refine Qd ?_
  refine Qj ?_
  refine ZrM ?_
  refine ZAn [0,1,7,8,5] ?_
  refine ZrM ?_
  refine ZM ?_
  refine ZM ?_
  refine Za (y_ixT (i:=t) (iI:=((t:Nat):Int)) h (by omega) (by omega) rfl rfl rfl) ?_
  refine Za (y_ldT (i:=t) h (by omega) rfl rfl) ?_
  by_cases c2:x=(xs.getD t 0)
  ·refine Zan (yb (dT c2) yi_eql) [0,1,7,8,5,16] ?_
   refine cg_ct rfl ?_
   refine ZrM ?_
   refine ZAnr [0,1,7,8,4] ?_
   refine Qg ?_
   refine Qc ?_
   refine Qc ?_
   refine Qg ?_
   refine Qc ?_
   exact Qa rfl rfl ⟨congrArg (fun b=>Ending.returned (nv b)) (idxI_at hno (by omega) c2).symm,rfl⟩
  refine Zan (yb (dF c2) yi_eql) [0,1,7,8,5,16] ?_
  refine cg_cf rfl ?_
  refine cg_skip ?_
  refine Qi ?_
  refine Nx [0,1,7,8] ?_
  refine Qe ?_
  refine Za (yv (congrArg nv (show ((t:Nat):Int)+1=((t+1:Nat):Int) by omega)) (yi_add rfl rfl rfl (by omega) (by omega))) ?_
  refine ZM ?_
  refine Qk ?_
  exact fun a ha=>(show t<(xs.length+1)∧_ from ⟨(by omega),ha.keep (fk rfl (fk rfl (fk rfl (fk rfl fn)))),rfl,(by omega),(fun j hj=>if q:j<t then hno j q else by
    obtain rfl:j=t:=by omega
    exact c2)⟩)
 refine Zan (yb (dF c1) yi_lss) [0,1,7,8,9] ?_
 refine Qd ?_
 refine cg_cf rfl ?_
 refine cg_exit ?_
 refine Qh ?_
 refine Qh ?_
 refine Ql ?_
 refine nx (E':=[]) fn ?_
 refine ZrA ?_
 refine Znr [4] ?_
 exact Qa rfl rfl ⟨congrArg (fun b=>Ending.returned (nv b)) (idxI_no fun j hj=>hno j (by omega)).symm,rfl⟩
theorem containsI_any (h:SlN w B s xs) (x:Int):Calls Tryd.prog 39 #[s.v,nv x] w fun e w'=>e=.returned (.bool (decide (x∈xs)))∧w'=w:=by
 refine Qf (n:=9) Tryd.func39 rfl Tryd.ntmps39 (by simp) ?_
 show CG _ _ _ [(0,s.v),(1,nv x)] _ _
 refine ZrA ?_
 refine Zn [0,1,4] ?_
 refine ZrM ?_
 refine ZM ?_
 refine Za (Qp (indexI_any h x)) ?_
 by_cases c1:0≤(idxI xs x)
 ·refine Za (yb (dT c1) yi_geq) ?_
  refine ZAnr [4] ?_
  exact Qa rfl rfl ⟨congrArg (fun b=>Ending.returned (.bool b)) (dT ((idxI_iff xs x).1 c1)).symm,rfl⟩
 refine Za (yb (dF c1) yi_geq) ?_
 refine ZAnr [4] ?_
 exact Qa rfl rfl ⟨congrArg (fun b=>Ending.returned (.bool b)) (dF (fun q=>c1 ((idxI_iff xs x).2 q))).symm,rfl⟩
end
section
variable {E:Env} {o:Oper} {w:World} {x y:Operand} {t':TypeId} {s:SlV}
end
/- HsDropR:
  A tree without some leaves: the document.
-/
set_option maxRecDepth 20000
end Go.Proofs.YtognnnjdoemgfaaDoor
