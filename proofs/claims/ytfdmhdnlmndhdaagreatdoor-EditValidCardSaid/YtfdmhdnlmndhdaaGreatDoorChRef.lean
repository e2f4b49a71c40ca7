/-
  Who made which node: the document.
-/
import Derived.Test.YtfdmhdnlmndhdaaGreatDoorChProg
import Derived.Test.YtfdmhdnlmndhdaaGreatDoorChFacts
import Derived.Test.YtfdmhdnlmndhdaaGreatDoorRsRef
namespace Go.Proofs.YtfdmhdnlmndhdaaGreatDoor
open Go.ChangeShapes Go.WideShapes Go.ChangeAt Go.RowKit
set_option linter.unusedVariables false

set_option maxRecDepth 20000
/-- A node that is not blank. -/
def nbP (t:List Nd) (x:Int):Prop:=isN x (t.length:Int)∧¬(atN t x.toNat).kind=0
instance (t:List Nd) (x:Int):Decidable (nbP t x):=by unfold nbP;infer_instance
/-- Few short slices of octets. -/
def ocFew (Xs:List (List Int)):Prop:=(∀ i,i<Xs.length→(Xs.getD i []).length≤400)∧Xs.length≤20
instance (Xs:List (List Int)):Decidable (ocFew Xs):=by unfold ocFew;infer_instance
theorem fewO_any {W:World} {B:Nat} {s:SlV} {Xs:List (List Int)} (h:RwOc W B s Xs) (hB:B≤W.heap.size):Calls Tryz.prog 12 #[s.v] W fun e W'=>∃ v,e=.returned v∧v=.bool (decide (ocFew Xs))∧Below W.heap.size W W':=by
 have h:=h.more hB
 refine Qf (n:=19) Tryz.func12 rfl Tryz.ntmps12 (by simp) ?_
 show CG _ _ _ [(0,s.v)] _ _
 have u:=Below.refl W.heap.size W
 have q1:=h.len
 have q2:=h.cap
 refine ZrA ?_
 refine Zn [0,2] ?_
 refine Qd ?_
 refine ZrA ?_
 refine Zn [0,2,3] ?_
 refine Qj ?_
 refine Qr (fun t a v=>Holds 19 [(0,s.v),(3,nv ((t:Nat):Int))] a∧RwOc v W.heap.size s Xs∧Below W.heap.size W v∧(∀ i,i<t→(Xs.getD i []).length≤400)∧t≤Xs.length) (Xs.length+1) (fun a ha=>⟨ha.keep (fk rfl (fk rfl fn)),h,u,(fun i hi=>absurd hi (Nat.not_lt_zero _)),(Nat.zero_le _)⟩) ?_
 rintro t a v ht ⟨ha,h,u,he,tle⟩
 refine cg_at ha ?_
 clear ha a
 have zv:=u.size
 have q1:=h.len
 have q2:=h.cap
 refine Qd ?_
 refine ZrM ?_
 refine ZM ?_
 refine Za (y_lenM (el:=23) h.len) ?_
 by_cases c1:((t:Nat):Int)<(Xs.length:Int)
 ·refine Zan (yb (dT c1) yi_lss) [0,3,7] ?_
  refine cg_ct rfl ?_
  refine Zki [0,3] ?_
  refine Qd ?_
  refine Qj ?_
  refine ZrM ?_
  refine ZM ?_
  obtain ⟨eb2,eo2,er2,eA2,eB2,eh2,ec2⟩:=h.at (t) (by have:=h.len;first | omega | (simp only [allH_len,allN_len,List.length_append,List.length_cons,List.length_nil] at this;omega))
  refine Za (y_ixR (s:=s) (el:=23) (k:=1) (i:=t) (iI:=((t:Nat):Int)) eA2 (by kernel_rfl) (by kernel_rfl) (by omega) (by have:=h.len;first | omega | (simp only [allH_len,allN_len,List.length_append,List.length_cons,List.length_nil] at this;omega)) rfl rfl rfl) ?_
  refine Za (y_celld (ec2)) ?_
  refine Za (y_lenS (el:=5) eh2) ?_
  by_cases c3:400<((Xs.getD t []).length:Int)
  ·refine Zan (yb (dT c3) yi_gtr) [0,3,15] ?_
   refine cg_ct rfl ?_
   refine ZrA ?_
   refine Znr [0,3,2] ?_
   refine Qg ?_
   refine Qc ?_
   refine Qc ?_
   refine Qg ?_
   refine Qc ?_
   exact Qa rfl rfl ⟨_,rfl,congrArg Value.bool (dF (fun q=>by have:=q.1 t (by omega);omega)).symm,u⟩
  refine Zan (yb (dF c3) yi_gtr) [0,3,15] ?_
  refine cg_cf rfl ?_
  refine cg_skip ?_
  refine Qi ?_
  refine Nx [0,3] ?_
  refine Qe ?_
  refine ZM ?_
  refine Za (yv (congrArg nv (show ((t:Nat):Int)+1=((t+1:Nat):Int) by omega)) (yi_add rfl rfl rfl (by omega) (by omega))) ?_
  refine ZA ?_
  refine Qk ?_
  exact fun a ha=>(show t<(Xs.length+1)∧_ from ⟨(by omega),ha.keep (fk rfl (fk rfl fn)),h,u,(fun i hi=>if q:i<t then he i q else by
    obtain rfl:i=t:=by omega
    omega),(by omega)⟩)
 refine Zan (yb (dF c1) yi_lss) [0,3,7] ?_
 refine cg_cf rfl ?_
 refine cg_exit ?_
 refine Qh ?_
 refine Qh ?_
 refine Ql ?_
 refine Nx [0] ?_
 refine ZrM ?_
 refine Za (y_lenM (el:=23) h.len) ?_
 by_cases c4:(Xs.length:Int)≤20
 ·refine Za (yb (dT c4) yi_leq) ?_
  refine ZAnr [2] ?_
  exact Qa rfl rfl ⟨_,rfl,congrArg Value.bool (dT ⟨fun i hi=>he i (by omega),by omega⟩).symm,u⟩
 refine Za (yb (dF c4) yi_leq) ?_
 refine ZAnr [2] ?_
 exact Qa rfl rfl ⟨_,rfl,congrArg Value.bool (dF (fun q=>by have:=q.2;omega)).symm,u⟩
end Go.Proofs.YtfdmhdnlmndhdaaGreatDoor
