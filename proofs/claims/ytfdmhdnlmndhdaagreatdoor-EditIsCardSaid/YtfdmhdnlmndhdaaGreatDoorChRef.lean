/-
  Who made which node: the document.
-/
import Derived.Test.YtfdmhdnlmndhdaaGreatDoorChProg
import Derived.Test.YtfdmhdnlmndhdaaGreatDoorChFacts
import Derived.Test.YtfdmhdnlmndhdaaGreatDoorRsRef
namespace Go.Proofs.YtfdmhdnlmndhdaaGreatDoor
open Go.ChangeShapes Go.WideShapes Go.ChangeAt Go.RowKit
set_option linter.unusedVariables false

set_option maxRecDepth 20000
/-- A node that is not blank. -/
def nbP (t:List Nd) (x:Int):Prop:=isN x (t.length:Int)∧¬(atN t x.toNat).kind=0
instance (t:List Nd) (x:Int):Decidable (nbP t x):=by unfold nbP;infer_instance
/-- Few short slices of octets. -/
def ocFew (Xs:List (List Int)):Prop:=(∀ i,i<Xs.length→(Xs.getD i []).length≤400)∧Xs.length≤20
instance (Xs:List (List Int)):Decidable (ocFew Xs):=by unfold ocFew;infer_instance
theorem rgiven_any {W:World} {B:Nat} {s:SlV} {Ls:List Nd} (h:RwNd W B s Ls) (hti:trIs Ls) {x:Int} (hx:isN x (Ls.length:Int)) (c:Int) (hB:B≤W.heap.size) (rg:Tb W):Calls Tryz.prog 91 #[s.v,nv x,nv c] W fun e W'=>∃ v,e=.returned v∧∃ r:SlV,v=r.v∧Hs W' r (givesL Ls x (sibI c (Ls.length:Int)))∧Below W.heap.size W W':=by
 have h:=h.more hB
 refine Qf (n:=28) Tryz.func91 rfl Tryz.ntmps91 (by simp) ?_
 show CG _ _ _ [(0,s.v),(1,nv x),(2,nv c)] _ _
 have u:=Below.refl W.heap.size W
 have q1:=h.len
 have q2:=h.cap
 have lex:=hx.le
 have hta:=trAs_ok hti
 have hun:=(unm_small hti x.toNat).2
 have hpl:=pn_small hti x.toNat
 refine ZrA ?_
 refine Zn [0,1,2,6] ?_
 refine ZrM ?_
 refine ZM ?_
 refine Za (y_lenM (el:=50) h.len) ?_
 refine Za (Qp (rsibling_any c (Ls.length:Int) _ (rg.up u))) ?_
 refine ZAn [0,1,6,7] ?_
 refine Qd ?_
 obtain ⟨ebz1,eoz1,elz1,eLz1,eAz1,eBz1,egz1,ehz1,ecz1⟩:=h.at (x.toNat) (by have:=h.len;omega)
 have enz1:eLz1=atN Ls (x.toNat):=(atN_some egz1).symm
 subst enz1
 refine cg_held (by kernel_rfl) fun W2 eW2=>?_
 have dW2:=below_drew _ _ eW2
 have zW2:=size_drew _ _ eW2
 clear eW2
 refine Zh 0 (fun q hq=>y_move rfl rfl) ?_
 refine Zh 1 (fun q hq=>y_move rfl rfl) ?_
 have h:=h.below (dW2.mono (by omega))
 obtain ⟨eb3,eo3,el3,eL3,eA3,eB3,eg3,eh3,ec3⟩:=h.at (x.toNat) (by have:=h.len;omega)
 obtain rfl:(atN Ls x.toNat)=eL3:=Option.some.inj (egz1.symm.trans eg3)
 refine Zh 2 (fun q hq=>y_ixR (s:=s) (el:=50) (k:=8) (i:=x.toNat) (iI:=x) eA3 (by kernel_rfl) (by kernel_rfl) (by omega) (by have:=h.len;omega) rfl rfl rfl) ?_
 refine Zh 3 (fun q hq=>y_fld (off:=5) (by kernel_rfl) rfl rfl) ?_
 refine Zh 4 (fun q hq=>y_loadC (cs:=el3.inner.cs (atN Ls x.toNat).inner) (nd_sub (fun k u e=>(hq.cell (p:=⟨eb3,_,none⟩) (show eb3<_ by omega)).trans (ec3 k u e))) (by kernel_rfl) (by kernel_rfl) rfl rfl) ?_
 refine Zh 5 (fun q hq=>y_move rfl rfl) ?_
 refine Zh 6 (fun q hq=>y_move rfl rfl) ?_
 refine Zh 7 (fun q hq=>y_move rfl rfl) ?_
 refine Zh 8 (fun q hq=>y_move rfl rfl) ?_
 obtain ⟨eb4,eo4,el4,eL4,eA4,eB4,eg4,eh4,ec4⟩:=h.at (x.toNat) (by have:=h.len;omega)
 obtain rfl:(atN Ls x.toNat)=eL4:=Option.some.inj (egz1.symm.trans eg4)
 refine Zh 9 (fun q hq=>y_ixR (s:=s) (el:=50) (k:=8) (i:=x.toNat) (iI:=x) eA4 (by kernel_rfl) (by kernel_rfl) (by omega) (by have:=h.len;omega) rfl rfl rfl) ?_
 refine Zh 10 (fun q hq=>y_fld (off:=5) (by kernel_rfl) rfl rfl) ?_
 refine Zh 11 (fun q hq=>y_fld (off:=2) (by kernel_rfl) rfl rfl) ?_
 refine Zh 12 (fun q hq=>y_celld ((hq.cell (p:=⟨eb4,_,none⟩) (show eb4<_ by omega)).trans (ec4 7 _ rfl)) (by kernel_rfl) rfl rfl) ?_
 have u:=Un u dW2
 refine Zo 13 ?_
 refine Zc (rwithout_any (h.more (B':=W2.heap.size) (by omega)) (sibI c (Ls.length:Int)) (eh4.inner.unm.more (B':=W2.heap.size) (by omega)) (Nat.le_refl _) (by first | omega | (simp only [List.length_append,List.length_cons,List.length_nil,numOct_length,flagOct_length];omega)) (rg.up u)) rfl rfl ?_
 rintro _ w5 ⟨r5,rfl,m5,hw5⟩
 have zw5:=hw5.size
 have ol5:=ofH_len (dropL ((atN Ls x.toNat).inner.unm) (trAs Ls)) (sibI c (Ls.length:Int))
 refine hg_next hw5 ?_
 refine hg_up hw5 ?_
 have eh3:=eh3.below (hw5.mono (by omega))
 refine Zo 14 ?_
 refine Zc (rofParentN_any (eh3.inner.more (B':=w5.heap.size) (by omega)) (m5.more (B':=w5.heap.size) (by omega)) (Nat.le_refl _) (by first | omega | (simp only [List.length_append,List.length_cons,List.length_nil,numOct_length,flagOct_length];omega)) (by first | omega | (simp only [List.length_append,List.length_cons,List.length_nil,numOct_length,flagOct_length];omega)) (by first | omega | (simp only [List.length_append,List.length_cons,List.length_nil,numOct_length,flagOct_length];omega))) rfl rfl ?_
 rintro _ w6 ⟨r6,rfl,m6,hw6⟩
 have zw6:=hw6.size
 have lp6:=ofParentO_le (atN Ls x.toNat).inner (ofH (dropL ((atN Ls x.toNat).inner.unm) (trAs Ls)) (sibI c (Ls.length:Int)))
 refine hg_next hw6 ?_
 refine hg_up hw6 ?_
 refine Zo 15 ?_
 refine Zc (rsumS_any (m6.more (B':=w6.heap.size) (by omega)) (Nat.le_refl _) (by first | omega | (simp only [List.length_append,List.length_cons,List.length_nil,numOct_length,flagOct_length];omega))) rfl rfl ?_
 rintro _ w7 ⟨r7,rfl,m7,hw7⟩
 have zw7:=hw7.size
 refine hg_next hw7 ?_
 refine hg_up hw7 ?_
 refine Zh 16 (fun q hq=>y_assign rfl rfl) ?_
 refine hg_done (by kernel_rfl) ?_
 refine Nx [6] ?_
 refine cg_ret ?_
 have u:=Un (Un (Un u hw5) hw6) hw7
 exact Qa rfl rfl ⟨_,rfl,_,rfl,(by have z:=m7;rwa [hta] at z),u⟩
theorem rwrong_any {W:World} {B:Nat} {s:SlV} {Xs:List (List Int)} (h:RwOc W B s Xs) (hB:B≤W.heap.size):Calls Tryz.prog 89 #[s.v] W fun e W'=>∃ v,e=.returned v∧v=nv (keysE Xs)∧Below W.heap.size W W':=by
 have h:=h.more hB
 refine Qf (n:=22) Tryz.func89 rfl Tryz.ntmps89 (by simp) ?_
 show CG _ _ _ [(0,s.v)] _ _
 have u:=Below.refl W.heap.size W
 have q1:=h.len
 have q2:=h.cap
 refine ZrA ?_
 refine Zn [0,2] ?_
 refine Qd ?_
 refine ZrA ?_
 refine Zn [0,2,3] ?_
 refine Qj ?_
 refine Qr (fun t a v=>Holds 22 [(0,s.v),(3,nv ((t:Nat):Int))] a∧RwOc v W.heap.size s Xs∧Below W.heap.size W v∧(∀ i,i<t→keyE (Xs.getD i [])=0)∧t≤Xs.length) (Xs.length+1) (fun a ha=>⟨ha.keep (fk rfl (fk rfl fn)),h,u,(fun i hi=>absurd hi (Nat.not_lt_zero _)),(Nat.zero_le _)⟩) ?_
 rintro t a v ht ⟨ha,h,u,he,tle⟩
 refine cg_at ha ?_
 clear ha a
 have zv:=u.size
 have q1:=h.len
 have q2:=h.cap
 refine Qd ?_
 refine ZrM ?_
 refine ZM ?_
 refine Za (y_lenM (el:=23) h.len) ?_
 by_cases c1:((t:Nat):Int)<(Xs.length:Int)
 ·refine Zan (yb (dT c1) yi_lss) [0,3,7] ?_
  refine cg_ct rfl ?_
  refine Zki [0,3] ?_
  refine Qd ?_
  refine Qj ?_
  refine Qd ?_
  refine ZrM ?_
  refine ZM ?_
  obtain ⟨eb2,eo2,er2,eA2,eB2,eh2,ec2⟩:=h.at (t) (by have:=h.len;first | omega | (simp only [allH_len,allN_len,List.length_append,List.length_cons,List.length_nil] at this;omega))
  refine Za (y_ixR (s:=s) (el:=23) (k:=1) (i:=t) (iI:=((t:Nat):Int)) eA2 (by kernel_rfl) (by kernel_rfl) (by omega) (by have:=h.len;first | omega | (simp only [allH_len,allN_len,List.length_append,List.length_cons,List.length_nil] at this;omega)) rfl rfl rfl) ?_
  refine Za (y_celld (ec2)) ?_
  refine Za (y_lenS (el:=5) eh2) ?_
  by_cases c3:((Xs.getD t []).length:Int)=0
  ·refine Zan (yb (dT c3) yi_eql) [0,3,15] ?_
   refine cg_ct rfl ?_
   refine ZrA ?_
   refine Znr [0,3,2] ?_
   refine Qc ?_
   refine Qg ?_
   refine Qc ?_
   refine Qc ?_
   refine Qg ?_
   refine Qc ?_
   have hk:keyE (Xs.getD t [])=5:=by
    unfold keyE
    rw [if_pos (by omega)]
   exact Qa rfl rfl ⟨_,rfl,congrArg nv (by rw [keysE_first he (by omega) (by rw [hk];decide),hk]),u⟩
  refine Zan (yb (dF c3) yi_eql) [0,3,15] ?_
  refine Zcf [0,3] ?_
  refine ZrM ?_
  refine ZM ?_
  obtain ⟨eb4,eo4,er4,eA4,eB4,eh4,ec4⟩:=h.at (t) (by have:=h.len;first | omega | (simp only [allH_len,allN_len,List.length_append,List.length_cons,List.length_nil] at this;omega))
  refine Za (y_ixR (s:=s) (el:=23) (k:=1) (i:=t) (iI:=((t:Nat):Int)) eA4 (by kernel_rfl) (by kernel_rfl) (by omega) (by have:=h.len;first | omega | (simp only [allH_len,allN_len,List.length_append,List.length_cons,List.length_nil] at this;omega)) rfl rfl rfl) ?_
  refine Za (y_celld (ec4)) ?_
  refine Za (y_lenS (el:=5) eh4) ?_
  by_cases c5:200<((Xs.getD t []).length:Int)
  ·refine Zan (yb (dT c5) yi_gtr) [0,3,21] ?_
   refine cg_ct rfl ?_
   refine ZrA ?_
   refine Znr [0,3,2] ?_
   refine Qg ?_
   refine Qc ?_
   refine Qc ?_
   refine Qg ?_
   refine Qc ?_
   have hk:keyE (Xs.getD t [])=4:=by
    unfold keyE
    rw [if_neg (by omega),if_pos (by omega)]
   exact Qa rfl rfl ⟨_,rfl,congrArg nv (by rw [keysE_first he (by omega) (by rw [hk];decide),hk]),u⟩
  refine Zan (yb (dF c5) yi_gtr) [0,3,21] ?_
  refine cg_cf rfl ?_
  refine cg_skip ?_
  refine Qi ?_
  refine Nx [0,3] ?_
  refine Qe ?_
  refine ZM ?_
  refine Za (yv (congrArg nv (show ((t:Nat):Int)+1=((t+1:Nat):Int) by omega)) (yi_add rfl rfl rfl (by omega) (by omega))) ?_
  refine ZA ?_
  refine Qk ?_
  exact fun a ha=>(show t<(Xs.length+1)∧_ from ⟨(by omega),ha.keep (fk rfl (fk rfl fn)),h,u,(fun i hi=>if q:i<t then he i q else by
    obtain rfl:i=t:=by omega
    unfold keyE
    rw [if_neg (by omega),if_neg (by omega)]),(by omega)⟩)
 refine Zan (yb (dF c1) yi_lss) [0,3,7] ?_
 refine cg_cf rfl ?_
 refine cg_exit ?_
 refine Qh ?_
 refine Qh ?_
 refine Ql ?_
 refine nx (E':=[]) fn ?_
 refine ZrA ?_
 refine Znr [2] ?_
 exact Qa rfl rfl ⟨_,rfl,congrArg nv (keysE_none fun i hi=>he i (by omega)).symm,u⟩
theorem fewO_any {W:World} {B:Nat} {s:SlV} {Xs:List (List Int)} (h:RwOc W B s Xs) (hB:B≤W.heap.size):Calls Tryz.prog 12 #[s.v] W fun e W'=>∃ v,e=.returned v∧v=.bool (decide (ocFew Xs))∧Below W.heap.size W W':=by
 have h:=h.more hB
 refine Qf (n:=19) Tryz.func12 rfl Tryz.ntmps12 (by simp) ?_
 show CG _ _ _ [(0,s.v)] _ _
 have u:=Below.refl W.heap.size W
 have q1:=h.len
 have q2:=h.cap
 refine ZrA ?_
 refine Zn [0,2] ?_
 refine Qd ?_
 refine ZrA ?_
 refine Zn [0,2,3] ?_
 refine Qj ?_
 refine Qr (fun t a v=>Holds 19 [(0,s.v),(3,nv ((t:Nat):Int))] a∧RwOc v W.heap.size s Xs∧Below W.heap.size W v∧(∀ i,i<t→(Xs.getD i []).length≤400)∧t≤Xs.length) (Xs.length+1) (fun a ha=>⟨ha.keep (fk rfl (fk rfl fn)),h,u,(fun i hi=>absurd hi (Nat.not_lt_zero _)),(Nat.zero_le _)⟩) ?_
 rintro t a v ht ⟨ha,h,u,he,tle⟩
 refine cg_at ha ?_
 clear ha a
 have zv:=u.size
 have q1:=h.len
 have q2:=h.cap
 refine Qd ?_
 refine ZrM ?_
 refine ZM ?_
 refine Za (y_lenM (el:=23) h.len) ?_
 by_cases c1:((t:Nat):Int)<(Xs.length:Int)
 ·refine Zan (yb (dT c1) yi_lss) [0,3,7] ?_
  refine cg_ct rfl ?_
  refine Zki [0,3] ?_
  refine Qd ?_
  refine Qj ?_
  refine ZrM ?_
  refine ZM ?_
  obtain ⟨eb2,eo2,er2,eA2,eB2,eh2,ec2⟩:=h.at (t) (by have:=h.len;first | omega | (simp only [allH_len,allN_len,List.length_append,List.length_cons,List.length_nil] at this;omega))
  refine Za (y_ixR (s:=s) (el:=23) (k:=1) (i:=t) (iI:=((t:Nat):Int)) eA2 (by kernel_rfl) (by kernel_rfl) (by omega) (by have:=h.len;first | omega | (simp only [allH_len,allN_len,List.length_append,List.length_cons,List.length_nil] at this;omega)) rfl rfl rfl) ?_
  refine Za (y_celld (ec2)) ?_
  refine Za (y_lenS (el:=5) eh2) ?_
  by_cases c3:400<((Xs.getD t []).length:Int)
  ·refine Zan (yb (dT c3) yi_gtr) [0,3,15] ?_
   refine cg_ct rfl ?_
   refine ZrA ?_
   refine Znr [0,3,2] ?_
   refine Qg ?_
   refine Qc ?_
   refine Qc ?_
   refine Qg ?_
   refine Qc ?_
   exact Qa rfl rfl ⟨_,rfl,congrArg Value.bool (dF (fun q=>by have:=q.1 t (by omega);omega)).symm,u⟩
  refine Zan (yb (dF c3) yi_gtr) [0,3,15] ?_
  refine cg_cf rfl ?_
  refine cg_skip ?_
  refine Qi ?_
  refine Nx [0,3] ?_
  refine Qe ?_
  refine ZM ?_
  refine Za (yv (congrArg nv (show ((t:Nat):Int)+1=((t+1:Nat):Int) by omega)) (yi_add rfl rfl rfl (by omega) (by omega))) ?_
  refine ZA ?_
  refine Qk ?_
  exact fun a ha=>(show t<(Xs.length+1)∧_ from ⟨(by omega),ha.keep (fk rfl (fk rfl fn)),h,u,(fun i hi=>if q:i<t then he i q else by
    obtain rfl:i=t:=by omega
    omega),(by omega)⟩)
 refine Zan (yb (dF c1) yi_lss) [0,3,7] ?_
 refine cg_cf rfl ?_
 refine cg_exit ?_
 refine Qh ?_
 refine Qh ?_
 refine Ql ?_
 refine Nx [0] ?_
 refine ZrM ?_
 refine Za (y_lenM (el:=23) h.len) ?_
 by_cases c4:(Xs.length:Int)≤20
 ·refine Za (yb (dT c4) yi_leq) ?_
  refine ZAnr [2] ?_
  exact Qa rfl rfl ⟨_,rfl,congrArg Value.bool (dT ⟨fun i hi=>he i (by omega),by omega⟩).symm,u⟩
 refine Za (yb (dF c4) yi_leq) ?_
 refine ZAnr [2] ?_
 exact Qa rfl rfl ⟨_,rfl,congrArg Value.bool (dF (fun q=>by have:=q.2;omega)).symm,u⟩
end Go.Proofs.YtfdmhdnlmndhdaaGreatDoor
