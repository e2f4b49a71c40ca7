/-
  Who made which node: the document.
-/
import Derived.Test.YtfbnallapgokeaaGreatDoorChProg
import Derived.Test.YtfbnallapgokeaaGreatDoorChFacts
import Derived.Test.YtfbnallapgokeaaGreatDoorRsRef
namespace Go.Proofs.YtfbnallapgokeaaGreatDoor
open Go.ChangeShapes Go.WideShapes Go.ChangeAt Go.RowKit
set_option linter.unusedVariables false

set_option maxRecDepth 20000
/-- A node that is not blank. -/
def nbP (t:List Nd) (x:Int):Prop:=isN x (t.length:Int)∧¬(atN t x.toNat).kind=0
instance (t:List Nd) (x:Int):Decidable (nbP t x):=by unfold nbP;infer_instance
/-- Few short slices of octets. -/
def ocFew (Xs:List (List Int)):Prop:=(∀ i,i<Xs.length→(Xs.getD i []).length≤400)∧Xs.length≤20
instance (Xs:List (List Int)):Decidable (ocFew Xs):=by unfold ocFew;infer_instance
theorem rsays_any {W:World} {B:Nat} {l:NdV} {L:Nd} (hl:IsNd W B l L) (hB:B≤W.heap.size):Calls Tryz.prog 65 #[.agg (l.cs L)] W fun e W'=>∃ v,e=.returned v∧∃ r:SlV,v=r.v∧Sl W' W'.heap.size r (saysN L)∧Below W.heap.size W W':=by
 have hl:=hl.more hB
 refine calls_cg (n:=12) Tryz.func65 rfl Tryz.ntmps65 (by simp) ?_
 show CG _ _ _ [(0,.agg (l.cs L))] _ _
 have u:=Below.refl W.heap.size W
 refine Zr ?_
 refine lg_boxw (want_none (by rfl)) rfl rfl (by kernel_rfl) rfl (by decide) fun b1 w1 n1=>?_
 have r1:=n1.row
 have k1:=n1.blk
 have z1:=n1.size
 have lt1:b1<w1.heap.size:=by omega
 refine ZAn [1,2] ?_
 refine cg_seq ?_
 refine Zr ?_
 refine Za (y_fld (off:=0) (by kernel_rfl) rfl rfl) ?_
 refine Za (y_cellv (v:=nv L.kind) r1 rfl (by kernel_rfl) rfl rfl) ?_
 by_cases c2:L.kind=1
 ·refine Zan (yb (decide_eq_true c2) (yi_eql rfl rfl rfl)) [1,2,5] ?_
  refine cg_ct rfl ?_
  refine Zr ?_
  refine Za (y_fld (off:=1) (by kernel_rfl) rfl rfl) ?_
  refine Za (y_fld (off:=3) (by kernel_rfl) rfl rfl) ?_
  refine Za (y_cellv (v:=l.leaf.par.v) r1 rfl (by kernel_rfl) rfl rfl) ?_
  refine ZAnr [1,2] ?_
  refine eg_seq_ret ?_
  have hl:=hl.below (n1.below.mono (by omega))
  have u:=Un u n1.below
  exact eg_ret_tmp rfl rfl ⟨_,rfl,_,rfl,(by rw [saysN,if_pos c2];exact (hl.leaf.par.more (B':=w1.heap.size) (by omega))),u⟩
 ·refine Zan (yb (decide_eq_false c2) (yi_eql rfl rfl rfl)) [1,2,5] ?_
  refine Zcf [1,2] ?_
  refine Zr ?_
  refine Za (y_fld (off:=5) (by kernel_rfl) rfl rfl) ?_
  refine Za (y_fld (off:=1) (by kernel_rfl) rfl rfl) ?_
  refine Za (y_cellv (v:=l.inner.hash.v) r1 rfl (by kernel_rfl) rfl rfl) ?_
  refine ZAnr [2] ?_
  have hl:=hl.below (n1.below.mono (by omega))
  have u:=Un u n1.below
  exact eg_ret_tmp rfl rfl ⟨_,rfl,_,rfl,(by rw [saysN,if_neg c2];exact (hl.inner.hash.more (B':=w1.heap.size) (by omega))),u⟩
theorem nb_any {W:World} {B:Nat} {s:SlV} {Ls:List Nd} (h:RwNd W B s Ls) (x:Int) (hB:B≤W.heap.size) (hti:trIs Ls):Calls Tryz.prog 62 #[s.v,nv x] W fun e W'=>∃ v,e=.returned v∧v=.bool (decide (nbP Ls x))∧Below W.heap.size W W':=by
 have h:=h.more hB
 refine calls_cg (n:=21) Tryz.func62 rfl Tryz.ntmps62 (by simp) ?_
 show CG _ _ _ [(0,s.v),(1,nv x)] _ _
 have u:=Below.refl W.heap.size W
 have q1:=h.len
 have q2:=h.cap
 have htl:=trIs_le hti
 refine ZrA ?_
 refine Zn [0,1,4] ?_
 refine ZrM ?_
 by_cases c1:0≤x
 ·refine Za (yb (decide_eq_true c1) (yi_geq rfl rfl rfl)) ?_
  refine ZM ?_
  refine Zt 7 (y_move rfl rfl) ?_
  refine Zt 7 (y_move rfl rfl) ?_
  refine Zt 7 (y_lenM (el:=43) h.len (by kernel_rfl) rfl rfl) ?_
  by_cases c2:x<(Ls.length:Int)
  ·refine Zt 7 (yb (decide_eq_true c2) (yi_lss rfl rfl rfl)) ?_
   refine Za (y_pick true rfl rfl rfl) ?_
   refine ZM ?_
   refine Zt 13 (y_move rfl rfl) ?_
   refine Zt 13 (y_move rfl rfl) ?_
   obtain ⟨eb3,eo3,el3,eL3,eA3,eB3,eg3,eh3,ec3⟩:=h.at (x.toNat) (by have:=h.len;omega)
   refine Zt 13 (y_ixR (s:=s) (el:=43) (k:=8) (i:=x.toNat) (iI:=x) eA3 (by kernel_rfl) (by kernel_rfl) (by omega) (by have:=h.len;omega) rfl rfl rfl) ?_
   refine Zt 13 (y_fld (off:=0) (by kernel_rfl) rfl rfl) ?_
   refine Zt 13 (y_celld (ec3 0 _ rfl) (by kernel_rfl) rfl rfl) ?_
   by_cases c4:eL3.kind=0
   ·refine Zt 13 (yb (nd_f c4) (yi_neq rfl rfl rfl)) ?_
    refine Za (y_pick true rfl rfl rfl) ?_
    refine ZAnr [4] ?_
    exact eg_ret_tmp rfl rfl ⟨_,rfl,congrArg Value.bool (decide_eq_false (fun q=>q.2 (by rw [atN_some eg3];exact c4))).symm,u⟩
   ·refine Zt 13 (yb (nd_t c4) (yi_neq rfl rfl rfl)) ?_
    refine Za (y_pick true rfl rfl rfl) ?_
    refine ZAnr [4] ?_
    exact eg_ret_tmp rfl rfl ⟨_,rfl,congrArg Value.bool (decide_eq_true ⟨(isN_of hti (by omega) (by omega)),(by rw [atN_some eg3];exact c4)⟩).symm,u⟩
  ·refine Zt 7 (yb (decide_eq_false c2) (yi_lss rfl rfl rfl)) ?_
   refine Za (y_pick true rfl rfl rfl) ?_
   refine ZM ?_
   refine Zf 13 ?_
   refine Zf 13 ?_
   refine Zf 13 ?_
   refine Zf 13 ?_
   refine Zf 13 ?_
   refine Zf 13 ?_
   refine Za (y_pick false rfl rfl rfl) ?_
   refine ZAnr [4] ?_
   exact eg_ret_tmp rfl rfl ⟨_,rfl,congrArg Value.bool (decide_eq_false (fun q=>by have:=q.1.le;omega)).symm,u⟩
 ·refine Za (yb (decide_eq_false c1) (yi_geq rfl rfl rfl)) ?_
  refine ZM ?_
  refine Zf 7 ?_
  refine Zf 7 ?_
  refine Zf 7 ?_
  refine Zf 7 ?_
  refine Za (y_pick false rfl rfl rfl) ?_
  refine ZM ?_
  refine Zf 13 ?_
  refine Zf 13 ?_
  refine Zf 13 ?_
  refine Zf 13 ?_
  refine Zf 13 ?_
  refine Zf 13 ?_
  refine Za (y_pick false rfl rfl rfl) ?_
  refine ZAnr [4] ?_
  exact eg_ret_tmp rfl rfl ⟨_,rfl,congrArg Value.bool (decide_eq_false (fun q=>by have:=q.1.le;omega)).symm,u⟩
theorem runmerged_any {W:World} {B:Nat} {s:SlV} {Ls:List Nd} (h:RwNd W B s Ls) (hti:trIs Ls) {x:Int} (hx:isN x (Ls.length:Int)) (c:Int) (hB:B≤W.heap.size) (rg:Tb W):Calls Tryz.prog 68 #[s.v,nv x,nv c] W fun e W'=>∃ v,e=.returned v∧∃ r:SlV,v=r.v∧SlN W' W'.heap.size r (unmB Ls x c)∧Below W.heap.size W W':=by
 have h:=h.more hB
 refine calls_cg (n:=41) Tryz.func68 rfl Tryz.ntmps68 (by simp) ?_
 show CG _ _ _ [(0,s.v),(1,nv x),(2,nv c)] _ _
 have u:=Below.refl W.heap.size W
 have q1:=h.len
 have q2:=h.cap
 have lex:=hx.le
 have hun:=unm_small hti x.toNat
 refine ZrA ?_
 refine Zn [0,1,2,6] ?_
 refine ZrA ?_
 refine Zn [0,1,2,6,7] ?_
 refine cg_seq ?_
 refine ZrA ?_
 refine Zn [0,1,2,6,7,8] ?_
 refine cg_block ?_
 obtain ⟨C,hC⟩:∃ q,q=W.heap.size:=⟨_,rfl⟩
 refine cg_loopE (fun t a v=>∃ (qr:SlV),Holds 41 [(0,s.v),(1,nv x),(2,nv c),(7,qr.v),(8,nv ((t:Nat):Int))] a∧RwNd v W.heap.size s Ls∧v.ownsRow C 3 1 qr.v ((unmO ((atN Ls x.toNat).inner.unm.take t) c (Ls.length:Int))).length (((unmO ((atN Ls x.toNat).inner.unm.take t) c (Ls.length:Int))).map (Value.int .i64))∧Below W.heap.size W v∧C≤v.heap.size∧t≤(atN Ls x.toNat).inner.unm.length∧W.heap.size≤C) ((atN Ls x.toNat).inner.unm.length+1) (fun a ha=>⟨nilS,ha.keep (fk rfl (fk rfl (fk rfl (fk rfl (fk rfl fn))))),h,(own_nilN _ _),u,(by omega),(Nat.zero_le _),(by omega)⟩) ?_
 rintro t a v ht ⟨qr,ha,h,g0,u,cC,tle,cW⟩
 refine cg_at ha ?_
 clear ha a
 have zv:=u.size
 have q1:=h.len
 have q2:=h.cap
 have ul:=unmO_le ((atN Ls x.toNat).inner.unm.take t) c (Ls.length:Int)
 rw [List.length_take] at ul
 obtain ⟨ebz1,eoz1,elz1,eLz1,eAz1,eBz1,egz1,ehz1,ecz1⟩:=h.at (x.toNat) (by have:=h.len;omega)
 have enz1:eLz1=atN Ls (x.toNat):=(atN_some egz1).symm
 subst enz1
 refine cg_seq ?_
 refine ZrM ?_
 refine ZM ?_
 refine ZM ?_
 obtain ⟨eb2,eo2,el2,eL2,eA2,eB2,eg2,eh2,ec2⟩:=h.at (x.toNat) (by have:=h.len;omega)
 obtain rfl:(atN Ls x.toNat)=eL2:=Option.some.inj (egz1.symm.trans eg2)
 refine Za (y_ixR (s:=s) (el:=43) (k:=8) (i:=x.toNat) (iI:=x) eA2 (by kernel_rfl) (by kernel_rfl) (by omega) (by have:=h.len;omega) rfl rfl rfl) ?_
 refine Za (y_fld (off:=5) (by kernel_rfl) rfl rfl) ?_
 refine Za (y_fld (off:=2) (by kernel_rfl) rfl rfl) ?_
 refine Za (y_celld (ec2 7 _ rfl) (by kernel_rfl) rfl rfl) ?_
 refine Za (y_lenM (el:=3) eh2.inner.unm.len (by kernel_rfl) rfl rfl) ?_
 by_cases c3:((t:Nat):Int)<(((atN Ls x.toNat).inner.unm).length:Int)
 ·refine Zan (yb (decide_eq_true c3) (yi_lss rfl rfl rfl)) [0,1,2,7,8,18] ?_
  refine cg_ct rfl ?_
  refine Zki [0,1,2,7,8] ?_
  refine cg_seq ?_
  refine cg_block ?_
  refine cg_seq ?_
  have htn:t<(atN Ls x.toNat).inner.unm.length:=by omega
  have hub:=hun.1 _ (getD_mem htn)
  refine cg_region ?_
  refine ZM ?_
  refine ZM ?_
  obtain ⟨eb4,eo4,el4,eL4,eA4,eB4,eg4,eh4,ec4⟩:=h.at (x.toNat) (by have:=h.len;omega)
  obtain rfl:(atN Ls x.toNat)=eL4:=Option.some.inj (egz1.symm.trans eg4)
  refine Za (y_ixR (s:=s) (el:=43) (k:=8) (i:=x.toNat) (iI:=x) eA4 (by kernel_rfl) (by kernel_rfl) (by omega) (by have:=h.len;omega) rfl rfl rfl) ?_
  refine Za (y_fld (off:=5) (by kernel_rfl) rfl rfl) ?_
  refine Za (y_fld (off:=2) (by kernel_rfl) rfl rfl) ?_
  refine Za (y_celld (ec4 7 _ rfl) (by kernel_rfl) rfl rfl) ?_
  refine ZM ?_
  refine Za (y_ixT (i:=t) (iI:=((t:Nat):Int)) eh4.inner.unm (by omega) (by first | omega | (simp only [List.length_append,List.length_cons,List.length_nil];omega)) rfl rfl rfl) ?_
  refine Za (y_ldT (i:=t) eh4.inner.unm (by first | omega | (simp only [List.length_append,List.length_cons,List.length_nil];omega)) rfl rfl) ?_
  refine Za (yi_mul rfl rfl rfl (by omega) (by omega)) ?_
  refine ZAn [0,1,2,7,8,9] ?_
  refine ZrM ?_
  refine ZM ?_
  refine ZM ?_
  refine Za (y_lenM (el:=43) h.len (by kernel_rfl) rfl rfl) ?_
  by_cases c5:undI (2*(((atN Ls x.toNat).inner.unm).getD t 0)) c (Ls.length:Int)
  ·refine Zc (runder_any (2*(((atN Ls x.toNat).inner.unm).getD t 0)) c (Ls.length:Int) _ (rg.up u)) rfl rfl ?_
   rintro u6 w6 ⟨e6,hw6⟩
   have zw6:=hw6.size
   obtain rfl:u6=.bool true:=e6.trans (congrArg Value.bool (decide_eq_true c5))
   refine Znt [0,1,2,7,8,9,35] ?_
   refine cg_region ?_
   refine ZM ?_
   refine ZM ?_
   refine lg_bslice (el:=3) (z:=nv 0) (cs:=#[nv (2*(((atN Ls x.toNat).inner.unm).getD t 0))]) huIs (by kernel_rfl) (by decide) (by decide) rfl rfl (by kernel_rfl) rfl rfl (by decide) fun b7 w7 n7=>?_
   have r7:=n7.row
   have k7:=n7.blk
   have z7:=n7.size
   have m7:SlN w7 (b7+1) ⟨some ⟨b7,0,none⟩,1,1⟩ [(2*(((atN Ls x.toNat).inner.unm).getD t 0))]:=new_SlN (xs:=[(2*(((atN Ls x.toNat).inner.unm).getD t 0))]) r7 rfl (of_decide_eq_true (by kernel_rfl))
   have og7:w7.ownsRow b7 3 1 (.slice (some ⟨b7,0,none⟩) 1 1) ([(2*(((atN Ls x.toNat).inner.unm).getD t 0))]:List Int).length (([(2*(((atN Ls x.toNat).inner.unm).getD t 0))]:List Int).map (Value.int .i64)):=new_ownN (xs:=[(2*(((atN Ls x.toNat).inner.unm).getD t 0))]) n7 rfl (of_decide_eq_true (by kernel_rfl))
   have g0:=own_below g0 hw6
   have g0:=own_below g0 n7.below
   refine lg_appT g0 m7 (by first | omega | (simp only [List.length_cons,List.length_nil];omega)) (by omega) (want_none (by rfl)) rfl rfl rfl rfl rfl (by decide) fun r8 w8 m8 g8 l8 z8=>?_
   refine ZA ?_
   refine lg_nil ?_
   refine eg_block_norm ?_
   refine Nx [0,1,2,8,7] ?_
   refine cg_region ?_
   refine ZM ?_
   refine Za (yv (congrArg nv (show ((t:Nat):Int)+1=((t+1:Nat):Int) by omega)) (yi_add rfl rfl rfl (by omega) (by omega))) ?_
   refine ZA ?_
   refine lg_nil ?_
   have h:=((h.below (hw6.mono (by omega))).below (n7.below.mono (by omega))).below (l8.mono (by omega))
   have u:=Un (Un u hw6) n7.below
   have u:=u.trans (l8.mono (by omega))
   exact fun a ha=>(show t<((atN Ls x.toNat).inner.unm.length+1)∧_ from ⟨(by omega),r8,ha.keep (fk rfl (fk rfl (fk rfl (fk rfl (fk rfl fn))))),h,(own_castN g8 (by rw [unmO_take htn,if_pos c5])),u,(by omega),(by omega),cW⟩)
  ·refine Zc (runder_any (2*(((atN Ls x.toNat).inner.unm).getD t 0)) c (Ls.length:Int) _ (rg.up u)) rfl rfl ?_
   rintro u9 w9 ⟨e9,hw9⟩
   have zw9:=hw9.size
   obtain rfl:u9=.bool false:=e9.trans (congrArg Value.bool (decide_eq_false c5))
   refine Zn [0,1,2,7,8,9,35] ?_
   refine cg_cf rfl ?_
   refine cg_skip ?_
   refine eg_block_norm ?_
   refine Nx [0,1,2,7,8] ?_
   refine cg_region ?_
   refine ZM ?_
   refine Za (yv (congrArg nv (show ((t:Nat):Int)+1=((t+1:Nat):Int) by omega)) (yi_add rfl rfl rfl (by omega) (by omega))) ?_
   refine ZA ?_
   refine lg_nil ?_
   have g0:=own_below g0 hw9
   have h:=h.below (hw9.mono (by omega))
   have u:=Un u hw9
   exact fun a ha=>(show t<((atN Ls x.toNat).inner.unm.length+1)∧_ from ⟨(by omega),qr,ha.keep (fk rfl (fk rfl (fk rfl (fk rfl (fk rfl fn))))),h,(own_castN g0 (by rw [unmO_take htn,if_neg c5,List.append_nil])),u,(by omega),(by omega),cW⟩)
 ·refine Zan (yb (decide_eq_false c3) (yi_lss rfl rfl rfl)) [0,1,2,7,8,18] ?_
  refine cg_cf rfl ?_
  refine cg_exit ?_
  refine eg_seq_exit ?_
  refine eg_seq_exit ?_
  refine eg_block_exit ?_
  refine Nx [7] ?_
  refine ZrM ?_
  refine ZAnr [6] ?_
  obtain rfl:t=(atN Ls x.toNat).inner.unm.length:=by omega
  exact eg_ret_tmp rfl rfl ⟨_,rfl,_,rfl,own_num (own_castN g0 (by rw [List.take_length];rfl)),u⟩
theorem rgiven_any {W:World} {B:Nat} {s:SlV} {Ls:List Nd} (h:RwNd W B s Ls) (hti:trIs Ls) {x:Int} (hx:isN x (Ls.length:Int)) (c:Int) (hB:B≤W.heap.size) (rg:Tb W):Calls Tryz.prog 50 #[s.v,nv x,nv c] W fun e W'=>∃ v,e=.returned v∧∃ r:SlV,v=r.v∧Hs W' r (givesL Ls x (sibI c (Ls.length:Int)))∧Below W.heap.size W W':=by
 have h:=h.more hB
 refine calls_cg (n:=28) Tryz.func50 rfl Tryz.ntmps50 (by simp) ?_
 show CG _ _ _ [(0,s.v),(1,nv x),(2,nv c)] _ _
 have u:=Below.refl W.heap.size W
 have q1:=h.len
 have q2:=h.cap
 have lex:=hx.le
 have hta:=trAs_ok hti
 have hun:=(unm_small hti x.toNat).2
 have hpl:=pn_small hti x.toNat
 refine ZrA ?_
 refine Zn [0,1,2,6] ?_
 refine ZrM ?_
 refine ZM ?_
 refine Za (y_lenM (el:=43) h.len (by kernel_rfl) rfl rfl) ?_
 refine Za (y_call (rsibling_any c (Ls.length:Int) _ (rg.up u)) (by kernel_rfl) rfl rfl) ?_
 refine ZAn [0,1,6,7] ?_
 refine cg_seq ?_
 obtain ⟨ebz1,eoz1,elz1,eLz1,eAz1,eBz1,egz1,ehz1,ecz1⟩:=h.at (x.toNat) (by have:=h.len;omega)
 have enz1:eLz1=atN Ls (x.toNat):=(atN_some egz1).symm
 subst enz1
 refine cg_held (by kernel_rfl) fun W2 eW2=>?_
 have dW2:=below_drew _ _ eW2
 have zW2:=size_drew _ _ eW2
 clear eW2
 refine Zh 0 (fun q hq=>y_move rfl rfl) ?_
 refine Zh 1 (fun q hq=>y_move rfl rfl) ?_
 have h:=h.below (dW2.mono (by omega))
 obtain ⟨eb3,eo3,el3,eL3,eA3,eB3,eg3,eh3,ec3⟩:=h.at (x.toNat) (by have:=h.len;omega)
 obtain rfl:(atN Ls x.toNat)=eL3:=Option.some.inj (egz1.symm.trans eg3)
 refine Zh 2 (fun q hq=>y_ixR (s:=s) (el:=43) (k:=8) (i:=x.toNat) (iI:=x) eA3 (by kernel_rfl) (by kernel_rfl) (by omega) (by have:=h.len;omega) rfl rfl rfl) ?_
 refine Zh 3 (fun q hq=>y_fld (off:=5) (by kernel_rfl) rfl rfl) ?_
 refine Zh 4 (fun q hq=>y_loadC (cs:=el3.inner.cs (atN Ls x.toNat).inner) (nd_sub (fun k u e=>(hq.cell (p:=⟨eb3,_,none⟩) (show eb3<_ by omega)).trans (ec3 k u e))) (by kernel_rfl) (by kernel_rfl) rfl rfl) ?_
 refine Zh 5 (fun q hq=>y_move rfl rfl) ?_
 refine Zh 6 (fun q hq=>y_move rfl rfl) ?_
 refine Zh 7 (fun q hq=>y_move rfl rfl) ?_
 refine Zh 8 (fun q hq=>y_move rfl rfl) ?_
 obtain ⟨eb4,eo4,el4,eL4,eA4,eB4,eg4,eh4,ec4⟩:=h.at (x.toNat) (by have:=h.len;omega)
 obtain rfl:(atN Ls x.toNat)=eL4:=Option.some.inj (egz1.symm.trans eg4)
 refine Zh 9 (fun q hq=>y_ixR (s:=s) (el:=43) (k:=8) (i:=x.toNat) (iI:=x) eA4 (by kernel_rfl) (by kernel_rfl) (by omega) (by have:=h.len;omega) rfl rfl rfl) ?_
 refine Zh 10 (fun q hq=>y_fld (off:=5) (by kernel_rfl) rfl rfl) ?_
 refine Zh 11 (fun q hq=>y_fld (off:=2) (by kernel_rfl) rfl rfl) ?_
 refine Zh 12 (fun q hq=>y_celld ((hq.cell (p:=⟨eb4,_,none⟩) (show eb4<_ by omega)).trans (ec4 7 _ rfl)) (by kernel_rfl) rfl rfl) ?_
 have u:=Un u dW2
 refine Zo 13 ?_
 refine Zc (rwithout_any (h.more (B':=W2.heap.size) (by omega)) (sibI c (Ls.length:Int)) (eh4.inner.unm.more (B':=W2.heap.size) (by omega)) (Nat.le_refl _) (by first | omega | (simp only [List.length_append,List.length_cons,List.length_nil,numOct_length,flagOct_length];omega)) (rg.up u)) rfl rfl ?_
 rintro _ w5 ⟨r5,rfl,m5,hw5⟩
 have zw5:=hw5.size
 have ol5:=ofH_len (dropL ((atN Ls x.toNat).inner.unm) (trAs Ls)) (sibI c (Ls.length:Int))
 refine hg_next hw5 ?_
 refine hg_up hw5 ?_
 have eh3:=eh3.below (hw5.mono (by omega))
 refine Zo 14 ?_
 refine Zc (rofParentN_any (eh3.inner.more (B':=w5.heap.size) (by omega)) (m5.more (B':=w5.heap.size) (by omega)) (Nat.le_refl _) (by first | omega | (simp only [List.length_append,List.length_cons,List.length_nil,numOct_length,flagOct_length];omega)) (by first | omega | (simp only [List.length_append,List.length_cons,List.length_nil,numOct_length,flagOct_length];omega)) (by first | omega | (simp only [List.length_append,List.length_cons,List.length_nil,numOct_length,flagOct_length];omega))) rfl rfl ?_
 rintro _ w6 ⟨r6,rfl,m6,hw6⟩
 have zw6:=hw6.size
 have lp6:=ofParentO_le (atN Ls x.toNat).inner (ofH (dropL ((atN Ls x.toNat).inner.unm) (trAs Ls)) (sibI c (Ls.length:Int)))
 refine hg_next hw6 ?_
 refine hg_up hw6 ?_
 refine Zo 15 ?_
 refine Zc (rsumS_any (m6.more (B':=w6.heap.size) (by omega)) (Nat.le_refl _) (by first | omega | (simp only [List.length_append,List.length_cons,List.length_nil,numOct_length,flagOct_length];omega))) rfl rfl ?_
 rintro _ w7 ⟨r7,rfl,m7,hw7⟩
 have zw7:=hw7.size
 refine hg_next hw7 ?_
 refine hg_up hw7 ?_
 refine Zh 16 (fun q hq=>y_assign rfl rfl) ?_
 refine hg_done (by kernel_rfl) ?_
 refine Nx [6] ?_
 refine cg_ret ?_
 have u:=Un (Un (Un u hw5) hw6) hw7
 exact eg_ret_tmp rfl rfl ⟨_,rfl,_,rfl,(by have z:=m7;rwa [hta] at z),u⟩
theorem rwrong_any {W:World} {B:Nat} {s:SlV} {Xs:List (List Int)} (h:RwOc W B s Xs) (hB:B≤W.heap.size):Calls Tryz.prog 47 #[s.v] W fun e W'=>∃ v,e=.returned v∧v=nv (keysE Xs)∧Below W.heap.size W W':=by
 have h:=h.more hB
 refine calls_cg (n:=22) Tryz.func47 rfl Tryz.ntmps47 (by simp) ?_
 show CG _ _ _ [(0,s.v)] _ _
 have u:=Below.refl W.heap.size W
 have q1:=h.len
 have q2:=h.cap
 refine ZrA ?_
 refine Zn [0,2] ?_
 refine cg_seq ?_
 refine ZrA ?_
 refine Zn [0,2,3] ?_
 refine cg_block ?_
 refine cg_loopE (fun t a v=>Holds 22 [(0,s.v),(3,nv ((t:Nat):Int))] a∧RwOc v W.heap.size s Xs∧Below W.heap.size W v∧(∀ i,i<t→keyE (Xs.getD i [])=0)∧t≤Xs.length) (Xs.length+1) (fun a ha=>⟨ha.keep (fk rfl (fk rfl fn)),h,u,(fun i hi=>absurd hi (Nat.not_lt_zero _)),(Nat.zero_le _)⟩) ?_
 rintro t a v ht ⟨ha,h,u,he,tle⟩
 refine cg_at ha ?_
 clear ha a
 have zv:=u.size
 have q1:=h.len
 have q2:=h.cap
 refine cg_seq ?_
 refine ZrM ?_
 refine ZM ?_
 refine Za (y_lenM (el:=27) h.len (by kernel_rfl) rfl rfl) ?_
 by_cases c1:((t:Nat):Int)<(Xs.length:Int)
 ·refine Zan (yb (decide_eq_true c1) (yi_lss rfl rfl rfl)) [0,3,7] ?_
  refine cg_ct rfl ?_
  refine Zki [0,3] ?_
  refine cg_seq ?_
  refine cg_block ?_
  refine cg_seq ?_
  refine ZrM ?_
  refine ZM ?_
  obtain ⟨eb2,eo2,er2,eA2,eB2,eh2,ec2⟩:=h.at (t) (by have:=h.len;first | omega | (simp only [allH_len,allN_len,List.length_append,List.length_cons,List.length_nil] at this;omega))
  refine Za (y_ixR (s:=s) (el:=27) (k:=1) (i:=t) (iI:=((t:Nat):Int)) eA2 (by kernel_rfl) (by kernel_rfl) (by omega) (by have:=h.len;first | omega | (simp only [allH_len,allN_len,List.length_append,List.length_cons,List.length_nil] at this;omega)) rfl rfl rfl) ?_
  refine Za (y_celld (ec2) (by kernel_rfl) rfl rfl) ?_
  refine Za (y_lenS (el:=5) eh2 (by kernel_rfl) rfl rfl) ?_
  by_cases c3:((Xs.getD t []).length:Int)=0
  ·refine Zan (yb (decide_eq_true c3) (yi_eql rfl rfl rfl)) [0,3,15] ?_
   refine cg_ct rfl ?_
   refine ZrA ?_
   refine Znr [0,3,2] ?_
   refine eg_seq_ret ?_
   refine eg_block_ret ?_
   refine eg_seq_ret ?_
   refine eg_seq_ret ?_
   refine eg_block_ret ?_
   refine eg_seq_ret ?_
   have hk:keyE (Xs.getD t [])=5:=by
    unfold keyE
    rw [if_pos (by omega)]
   exact eg_ret_tmp rfl rfl ⟨_,rfl,congrArg nv (by rw [keysE_first he (by omega) (by rw [hk];decide),hk]),u⟩
  ·refine Zan (yb (decide_eq_false c3) (yi_eql rfl rfl rfl)) [0,3,15] ?_
   refine Zcf [0,3] ?_
   refine ZrM ?_
   refine ZM ?_
   obtain ⟨eb4,eo4,er4,eA4,eB4,eh4,ec4⟩:=h.at (t) (by have:=h.len;first | omega | (simp only [allH_len,allN_len,List.length_append,List.length_cons,List.length_nil] at this;omega))
   refine Za (y_ixR (s:=s) (el:=27) (k:=1) (i:=t) (iI:=((t:Nat):Int)) eA4 (by kernel_rfl) (by kernel_rfl) (by omega) (by have:=h.len;first | omega | (simp only [allH_len,allN_len,List.length_append,List.length_cons,List.length_nil] at this;omega)) rfl rfl rfl) ?_
   refine Za (y_celld (ec4) (by kernel_rfl) rfl rfl) ?_
   refine Za (y_lenS (el:=5) eh4 (by kernel_rfl) rfl rfl) ?_
   by_cases c5:200<((Xs.getD t []).length:Int)
   ·refine Zan (yb (decide_eq_true c5) (yi_gtr rfl rfl rfl)) [0,3,21] ?_
    refine cg_ct rfl ?_
    refine ZrA ?_
    refine Znr [0,3,2] ?_
    refine eg_block_ret ?_
    refine eg_seq_ret ?_
    refine eg_seq_ret ?_
    refine eg_block_ret ?_
    refine eg_seq_ret ?_
    have hk:keyE (Xs.getD t [])=4:=by
     unfold keyE
     rw [if_neg (by omega),if_pos (by omega)]
    exact eg_ret_tmp rfl rfl ⟨_,rfl,congrArg nv (by rw [keysE_first he (by omega) (by rw [hk];decide),hk]),u⟩
   ·refine Zan (yb (decide_eq_false c5) (yi_gtr rfl rfl rfl)) [0,3,21] ?_
    refine cg_cf rfl ?_
    refine cg_skip ?_
    refine eg_block_norm ?_
    refine Nx [0,3] ?_
    refine cg_region ?_
    refine ZM ?_
    refine Za (yv (congrArg nv (show ((t:Nat):Int)+1=((t+1:Nat):Int) by omega)) (yi_add rfl rfl rfl (by omega) (by omega))) ?_
    refine ZA ?_
    refine lg_nil ?_
    exact fun a ha=>(show t<(Xs.length+1)∧_ from ⟨(by omega),ha.keep (fk rfl (fk rfl fn)),h,u,(fun i hi=>if q:i<t then he i q else by
      obtain rfl:i=t:=by omega
      unfold keyE
      rw [if_neg (by omega),if_neg (by omega)]),(by omega)⟩)
 ·refine Zan (yb (decide_eq_false c1) (yi_lss rfl rfl rfl)) [0,3,7] ?_
  refine cg_cf rfl ?_
  refine cg_exit ?_
  refine eg_seq_exit ?_
  refine eg_seq_exit ?_
  refine eg_block_exit ?_
  refine nx (E':=[]) fn ?_
  refine ZrA ?_
  refine Znr [2] ?_
  exact eg_ret_tmp rfl rfl ⟨_,rfl,congrArg nv (keysE_none fun i hi=>he i (by omega)).symm,u⟩
theorem fewO_any {W:World} {B:Nat} {s:SlV} {Xs:List (List Int)} (h:RwOc W B s Xs) (hB:B≤W.heap.size):Calls Tryz.prog 12 #[s.v] W fun e W'=>∃ v,e=.returned v∧v=.bool (decide (ocFew Xs))∧Below W.heap.size W W':=by
 have h:=h.more hB
 refine calls_cg (n:=19) Tryz.func12 rfl Tryz.ntmps12 (by simp) ?_
 show CG _ _ _ [(0,s.v)] _ _
 have u:=Below.refl W.heap.size W
 have q1:=h.len
 have q2:=h.cap
 refine ZrA ?_
 refine Zn [0,2] ?_
 refine cg_seq ?_
 refine ZrA ?_
 refine Zn [0,2,3] ?_
 refine cg_block ?_
 refine cg_loopE (fun t a v=>Holds 19 [(0,s.v),(3,nv ((t:Nat):Int))] a∧RwOc v W.heap.size s Xs∧Below W.heap.size W v∧(∀ i,i<t→(Xs.getD i []).length≤400)∧t≤Xs.length) (Xs.length+1) (fun a ha=>⟨ha.keep (fk rfl (fk rfl fn)),h,u,(fun i hi=>absurd hi (Nat.not_lt_zero _)),(Nat.zero_le _)⟩) ?_
 rintro t a v ht ⟨ha,h,u,he,tle⟩
 refine cg_at ha ?_
 clear ha a
 have zv:=u.size
 have q1:=h.len
 have q2:=h.cap
 refine cg_seq ?_
 refine ZrM ?_
 refine ZM ?_
 refine Za (y_lenM (el:=27) h.len (by kernel_rfl) rfl rfl) ?_
 by_cases c1:((t:Nat):Int)<(Xs.length:Int)
 ·refine Zan (yb (decide_eq_true c1) (yi_lss rfl rfl rfl)) [0,3,7] ?_
  refine cg_ct rfl ?_
  refine Zki [0,3] ?_
  refine cg_seq ?_
  refine cg_block ?_
  refine ZrM ?_
  refine ZM ?_
  obtain ⟨eb2,eo2,er2,eA2,eB2,eh2,ec2⟩:=h.at (t) (by have:=h.len;first | omega | (simp only [allH_len,allN_len,List.length_append,List.length_cons,List.length_nil] at this;omega))
  refine Za (y_ixR (s:=s) (el:=27) (k:=1) (i:=t) (iI:=((t:Nat):Int)) eA2 (by kernel_rfl) (by kernel_rfl) (by omega) (by have:=h.len;first | omega | (simp only [allH_len,allN_len,List.length_append,List.length_cons,List.length_nil] at this;omega)) rfl rfl rfl) ?_
  refine Za (y_celld (ec2) (by kernel_rfl) rfl rfl) ?_
  refine Za (y_lenS (el:=5) eh2 (by kernel_rfl) rfl rfl) ?_
  by_cases c3:400<((Xs.getD t []).length:Int)
  ·refine Zan (yb (decide_eq_true c3) (yi_gtr rfl rfl rfl)) [0,3,15] ?_
   refine cg_ct rfl ?_
   refine ZrA ?_
   refine Znr [0,3,2] ?_
   refine eg_block_ret ?_
   refine eg_seq_ret ?_
   refine eg_seq_ret ?_
   refine eg_block_ret ?_
   refine eg_seq_ret ?_
   exact eg_ret_tmp rfl rfl ⟨_,rfl,congrArg Value.bool (decide_eq_false (fun q=>by have:=q.1 t (by omega);omega)).symm,u⟩
  ·refine Zan (yb (decide_eq_false c3) (yi_gtr rfl rfl rfl)) [0,3,15] ?_
   refine cg_cf rfl ?_
   refine cg_skip ?_
   refine eg_block_norm ?_
   refine Nx [0,3] ?_
   refine cg_region ?_
   refine ZM ?_
   refine Za (yv (congrArg nv (show ((t:Nat):Int)+1=((t+1:Nat):Int) by omega)) (yi_add rfl rfl rfl (by omega) (by omega))) ?_
   refine ZA ?_
   refine lg_nil ?_
   exact fun a ha=>(show t<(Xs.length+1)∧_ from ⟨(by omega),ha.keep (fk rfl (fk rfl fn)),h,u,(fun i hi=>if q:i<t then he i q else by
     obtain rfl:i=t:=by omega
     omega),(by omega)⟩)
 ·refine Zan (yb (decide_eq_false c1) (yi_lss rfl rfl rfl)) [0,3,7] ?_
  refine cg_cf rfl ?_
  refine cg_exit ?_
  refine eg_seq_exit ?_
  refine eg_seq_exit ?_
  refine eg_block_exit ?_
  refine Nx [0] ?_
  refine ZrM ?_
  refine Za (y_lenM (el:=27) h.len (by kernel_rfl) rfl rfl) ?_
  by_cases c4:(Xs.length:Int)≤20
  ·refine Za (yb (decide_eq_true c4) (yi_leq rfl rfl rfl)) ?_
   refine ZAnr [2] ?_
   exact eg_ret_tmp rfl rfl ⟨_,rfl,congrArg Value.bool (decide_eq_true ⟨fun i hi=>he i (by omega),by omega⟩).symm,u⟩
  ·refine Za (yb (decide_eq_false c4) (yi_leq rfl rfl rfl)) ?_
   refine ZAnr [2] ?_
   exact eg_ret_tmp rfl rfl ⟨_,rfl,congrArg Value.bool (decide_eq_false (fun q=>by have:=q.2;omega)).symm,u⟩
theorem rlink_any {W:World} {B:Nat} {s:SlV} {Ls:List Nd} (h:RwNd W B s Ls) (x c d:Int) (hB:B≤W.heap.size) (rg:Tb W):Calls Tryz.prog 17 #[s.v,nv x,nv c,nv d] W fun e W'=>∃ v,e=.returned v∧v=.bool (decide (linkL (trAs Ls) x c d))∧Below W.heap.size W W':=by
 have h:=h.more hB
 refine calls_cg (n:=70) Tryz.func17 rfl Tryz.ntmps17 (by simp) ?_
 show CG _ _ _ [(0,s.v),(1,nv x),(2,nv c),(3,nv d)] _ _
 have u:=Below.refl W.heap.size W
 have q1:=h.len
 have q2:=h.cap
 refine ZrA ?_
 refine Zn [0,1,2,3,8] ?_
 refine ZrM ?_
 refine Zc (as_any h (by omega)) rfl rfl ?_
 rintro _ w1 ⟨s1,rfl,m1,hw1⟩
 have zw1:=hw1.size
 have tl1:=trAs_le Ls
 refine ZAn [1,2,3,8,9] ?_
 refine cg_seq ?_
 refine ZrM ?_
 refine ZM ?_
 by_cases c2:nbP (trAs Ls) x
 ·have hx:=c2
  have lex:=hx.1.le
  refine Zc (nb_any (m1.more (B':=w1.heap.size) (by omega)) x (Nat.le_refl _) (trAs_is Ls)) rfl rfl ?_
  rintro u3 w3 ⟨e3,hw3⟩
  have zw3:=hw3.size
  obtain rfl:u3=.bool true:=e3.trans (congrArg Value.bool (decide_eq_true c2))
  refine Za (y_bnot rfl rfl) ?_
  refine ZM ?_
  refine Zt 17 (y_move rfl rfl) ?_
  refine Zt 17 (y_move rfl rfl) ?_
  have m1:=m1.below (hw3.mono (by omega))
  by_cases c4:nbP (trAs Ls) d
  ·have hd:=c4
   have led:=hd.1.le
   refine Zct 17 (nb_any (m1.more (B':=w3.heap.size) (by omega)) d (Nat.le_refl _) (trAs_is Ls)) rfl rfl ?_
   rintro u5 w5 ⟨e5,hw5⟩
   have zw5:=hw5.size
   obtain rfl:u5=.bool true:=e5.trans (congrArg Value.bool (decide_eq_true c4))
   refine Zt 17 (y_bnot rfl rfl) ?_
   refine Za (y_pick false rfl rfl rfl) ?_
   refine ZM ?_
   refine Zt 23 (y_move rfl rfl) ?_
   refine Zt 23 (y_move rfl rfl) ?_
   have m1:=m1.below (hw5.mono (by omega))
   obtain ⟨eb6,eo6,el6,eL6,eA6,eB6,eg6,eh6,ec6⟩:=m1.at (x.toNat) (by have:=m1.len;omega)
   refine Zt 23 (y_ixR (s:=s1) (el:=43) (k:=8) (i:=x.toNat) (iI:=x) eA6 (by kernel_rfl) (by kernel_rfl) (by omega) (by have:=m1.len;omega) rfl rfl rfl) ?_
   refine Zt 23 (y_fld (off:=0) (by kernel_rfl) rfl rfl) ?_
   refine Zt 23 (y_celld (ec6 0 _ rfl) (by kernel_rfl) rfl rfl) ?_
   by_cases c7:eL6.kind=2
   ·refine Zt 23 (yb (nd_f c7) (yi_neq rfl rfl rfl)) ?_
    refine Za (y_pick false rfl rfl rfl) ?_
    refine ZM ?_
    refine Zt 31 (y_move rfl rfl) ?_
    refine Zt 31 (y_move rfl rfl) ?_
    refine Zt 31 (y_lenM (el:=43) m1.len (by kernel_rfl) rfl rfl) ?_
    have u:=Un (Un (Un u hw1) hw3) hw5
    refine Zt 31 (y_call (rparent_any c ((trAs Ls).length:Int) _ (rg.up u)) (by kernel_rfl) rfl rfl) ?_
    refine Zt 31 (y_move rfl rfl) ?_
    by_cases c8:(parI c ((trAs Ls).length:Int))=x
    ·have hpk:=par_kid hx.1 c8
     have rl:=res_len (trAs_is Ls) c
     refine Zt 31 (yb (nd_f c8) (yi_neq rfl rfl rfl)) ?_
     refine Zan (y_pick false rfl rfl rfl) [1,2,3,8,9,38] ?_
     refine Zcf [1,2,3,8,9] ?_
     refine ZrM ?_
     refine ZM ?_
     refine Zc ((by have z:=rresolve_any (m1.more (B':=w5.heap.size) (by omega)) c (Nat.le_refl _) (rg.up u);rwa [trAs_as] at z)) rfl rfl ?_
     rintro _ w9 ⟨s9,rfl,m9,hw9⟩
     have zw9:=hw9.size
     refine ZAn [1,2,3,8,9,10] ?_
     refine cg_seq ?_
     refine cg_held (by kernel_rfl) fun W10 eW10=>?_
     have dW10:=below_drew _ _ eW10
     have zW10:=size_drew _ _ eW10
     clear eW10
     refine Zh 0 (fun q hq=>y_move rfl rfl) ?_
     refine Zh 1 (fun q hq=>y_move rfl rfl) ?_
     have m9:=m9.below (dW10.mono (by omega))
     by_cases c11:d∈(resL (trAs Ls) c)
     ·refine Zo 2 ?_
      refine Za (yb (decide_eq_true c11) (y_call (has_any m9 d) (by kernel_rfl) rfl rfl)) ?_
      refine hg_next (Below.refl _ _) ?_
      refine Zh 3 (fun q hq=>y_move rfl rfl) ?_
      refine Zht 4 45 (fun q hq=>y_move rfl rfl) ?_
      refine Zht 5 45 (fun q hq=>y_move rfl rfl) ?_
      have m1:=(m1.below (hw9.mono (by omega))).below (dW10.mono (by omega))
      obtain ⟨eb12,eo12,el12,eL12,eA12,eB12,eg12,eh12,ec12⟩:=m1.at (d.toNat) (by have:=m1.len;omega)
      refine Zht 6 45 (fun q hq=>y_ixR (s:=s1) (el:=43) (k:=8) (i:=d.toNat) (iI:=d) eA12 (by kernel_rfl) (by kernel_rfl) (by omega) (by have:=m1.len;omega) rfl rfl rfl) ?_
      refine Zht 7 45 (fun q hq=>y_loadC (cs:=el12.cs eL12) (fun k u e=>(hq.cell (p:=⟨eb12,_,none⟩) (show eb12<_ by omega)).trans (ec12 k u e)) (by kernel_rfl) (by kernel_rfl) rfl rfl) ?_
      refine Zht 10 45 (fun q hq=>y_move rfl rfl) ?_
      refine Zht 11 45 (fun q hq=>y_move rfl rfl) ?_
      refine Zht 12 45 (fun q hq=>y_move rfl rfl) ?_
      refine Zot 8 45 ?_
      refine Zct 45 (rsays_any (eh12.more (B':=W10.heap.size) (by omega)) (Nat.le_refl _)) rfl rfl ?_
      rintro _ w13 ⟨r13,rfl,m13,hw13⟩
      have zw13:=hw13.size
      refine hg_next hw13 ?_
      refine hg_up hw13 ?_
      have by14:Bytes (saysN eL12):=m13.bytes
      refine Zht 9 45 (fun q hq=>y_strS (m13.below (hq.mono (by omega))) rfl rfl) ?_
      have m1:=m1.below (hw13.mono (by omega))
      have u:=Un (Un (Un u hw9) dW10) hw13
      refine Zot 13 45 ?_
      refine Zct 45 (rgiven_any (m1.more (B':=w13.heap.size) (by omega)) (trAs_is Ls) hx.1 c (Nat.le_refl _) (rg.up u)) rfl rfl ?_
      rintro _ w15 ⟨r15,rfl,m15,hw15⟩
      have zw15:=hw15.size
      have gl15:=gives_len (trAs Ls) x c
      refine hg_next hw15 ?_
      refine hg_up hw15 ?_
      have by16:Bytes (givesL (trAs Ls) x (sibI c (trAs Ls).length)):=m15.1.bytes
      refine Zht 14 45 (fun q hq=>y_strS (m15.below hq).1 rfl rfl) ?_
      by_cases c17:(saysN eL12)=(givesL (trAs Ls) x (sibI c (trAs Ls).length))
      ·refine Zht 15 45 (fun q hq=>yb (decide_eq_true c17) (y_seqS (xs:=(saysN eL12)) (ys:=(givesL (trAs Ls) x (sibI c (trAs Ls).length))) by14 by16 rfl rfl rfl)) ?_
       refine Zh 16 (fun q hq=>y_pick true rfl rfl rfl) ?_
       refine Zh 17 (fun q hq=>y_move rfl rfl) ?_
       refine Zht 18 59 (fun q hq=>y_move rfl rfl) ?_
       refine Zht 19 59 (fun q hq=>y_move rfl rfl) ?_
       refine Zht 22 59 (fun q hq=>y_move rfl rfl) ?_
       refine Zht 23 59 (fun q hq=>y_move rfl rfl) ?_
       refine Zht 24 59 (fun q hq=>y_move rfl rfl) ?_
       refine Zot 20 59 ?_
       refine lg_bsliceW (el:=3) (z:=nv 0) (cs:=#[nv d]) (want_t (dj:=59) (by rfl) (by kernel_rfl) rfl) huIs (by kernel_rfl) (by decide) (by decide) rfl rfl (by kernel_rfl) rfl (by decide) fun b18 w18 n18=>?_
       have r18:=n18.row
       have k18:=n18.blk
       have z18:=n18.size
       have m18:SlN w18 (b18+1) ⟨some ⟨b18,0,none⟩,1,1⟩ [d]:=new_SlN (xs:=[d]) r18 rfl (of_decide_eq_true (by kernel_rfl))
       have og18:w18.ownsRow b18 3 1 (.slice (some ⟨b18,0,none⟩) 1 1) ([d]:List Int).length (([d]:List Int).map (Value.int .i64)):=new_ownN (xs:=[d]) n18 rfl (of_decide_eq_true (by kernel_rfl))
       refine hg_next n18.below ?_
       refine hg_up n18.below ?_
       have m9:=((m9.below (hw13.mono (by omega))).below (hw15.mono (by omega))).below (n18.below.mono (by omega))
       refine Zot 21 59 ?_
       refine Zct 59 (rcut_any m9 m18 (by omega) (by omega) (by first | omega | (simp only [List.length_append,List.length_cons,List.length_nil,numOct_length,flagOct_length];omega)) (by first | omega | (simp only [List.length_cons,List.length_nil];omega))) rfl rfl ?_
       rintro _ w19 ⟨r19,rfl,m19,hw19⟩
       have zw19:=hw19.size
       have cl19:=cutK_length (resL (trAs Ls) c) ([d]:List Int)
       refine hg_next hw19 ?_
       refine hg_up hw19 ?_
       have m1:=((m1.below (hw15.mono (by omega))).below (n18.below.mono (by omega))).below (hw19.mono (by omega))
       have u:=Un (Un (Un u hw15) n18.below) hw19
       refine Zot 25 59 ?_
       refine Zct 59 (runmerged_any (m1.more (B':=w19.heap.size) (by omega)) (trAs_is Ls) hx.1 c (Nat.le_refl _) (rg.up u)) rfl rfl ?_
       rintro _ w20 ⟨r20,rfl,m20,hw20⟩
       have zw20:=hw20.size
       have ul20:(unmB (trAs Ls) x c).length≤64:=Nat.le_trans (unmO_le _ _ _) (unm_small (trAs_is Ls) _).2
       refine hg_next hw20 ?_
       refine hg_up hw20 ?_
       have m19:=m19.below (hw20.mono (by omega))
       by_cases c21:(cutK (resL (trAs Ls) c) ([d]:List Int))=(unmB (trAs Ls) x c)
       ·refine Zot 26 59 ?_
        refine Zct 59 (ints_S m19 m20 (by omega) (by omega)) rfl rfl ?_
        rintro u22 w22 ⟨e22,hw22⟩
        have zw22:=hw22.size
        obtain rfl:u22=.bool true:=e22.trans (congrArg Value.bool (decide_eq_true c21))
        refine hg_next hw22 ?_
        refine hg_up hw22 ?_
        refine Zh 27 (fun q hq=>y_pick true rfl rfl rfl) ?_
        refine Zh 28 (fun q hq=>y_assign rfl rfl) ?_
        refine hg_done (by kernel_rfl) ?_
        refine Nx [8] ?_
        refine cg_ret ?_
        have u:=Un (Un u hw20) hw22
        exact eg_ret_tmp rfl rfl ⟨_,rfl,congrArg Value.bool (decide_eq_true ⟨hx.1,(by rw [atN_some eg6];exact c7),hpk.1,c11,c21,(by rw [atN_some eg12];exact c17)⟩).symm,u⟩
       ·refine Zot 26 59 ?_
        refine Zct 59 (ints_S m19 m20 (by omega) (by omega)) rfl rfl ?_
        rintro u23 w23 ⟨e23,hw23⟩
        have zw23:=hw23.size
        obtain rfl:u23=.bool false:=e23.trans (congrArg Value.bool (decide_eq_false c21))
        refine hg_next hw23 ?_
        refine hg_up hw23 ?_
        refine Zh 27 (fun q hq=>y_pick true rfl rfl rfl) ?_
        refine Zh 28 (fun q hq=>y_assign rfl rfl) ?_
        refine hg_done (by kernel_rfl) ?_
        refine Nx [8] ?_
        refine cg_ret ?_
        have u:=Un (Un u hw20) hw23
        exact eg_ret_tmp rfl rfl ⟨_,rfl,congrArg Value.bool (decide_eq_false (fun q=>c21 q.2.2.2.2.1)).symm,u⟩
      ·refine Zht 15 45 (fun q hq=>yb (decide_eq_false c17) (y_seqS (xs:=(saysN eL12)) (ys:=(givesL (trAs Ls) x (sibI c (trAs Ls).length))) by14 by16 rfl rfl rfl)) ?_
       refine Zh 16 (fun q hq=>y_pick true rfl rfl rfl) ?_
       refine Zh 17 (fun q hq=>y_move rfl rfl) ?_
       refine hg_skip 18 (by rfl) (want_f (dj:=59) (by rfl) (by kernel_rfl) rfl) rfl (by decide) (by kernel_rfl) (by kernel_rfl) (by kernel_rfl) (fun _ _ _ h=>h) (Below.refl _ _) ?_
       refine hg_skip 19 (by rfl) (want_f (dj:=59) (by rfl) (by kernel_rfl) rfl) rfl (by decide) (by kernel_rfl) (by kernel_rfl) (by kernel_rfl) (fun _ _ _ h=>h) (Below.refl _ _) ?_
       refine hg_skip 20 (by rfl) (want_f (dj:=59) (by rfl) (by kernel_rfl) rfl) rfl (by decide) (by kernel_rfl) (by kernel_rfl) (by kernel_rfl) (fun _ _ _ h=>h) (Below.refl _ _) ?_
       refine hg_skip 21 (by rfl) (want_f (dj:=59) (by rfl) (by kernel_rfl) rfl) rfl (by decide) (by kernel_rfl) (by kernel_rfl) (by kernel_rfl) (fun _ _ _ h=>h) (Below.refl _ _) ?_
       refine hg_skip 22 (by rfl) (want_f (dj:=59) (by rfl) (by kernel_rfl) rfl) rfl (by decide) (by kernel_rfl) (by kernel_rfl) (by kernel_rfl) (fun _ _ _ h=>h) (Below.refl _ _) ?_
       refine hg_skip 23 (by rfl) (want_f (dj:=59) (by rfl) (by kernel_rfl) rfl) rfl (by decide) (by kernel_rfl) (by kernel_rfl) (by kernel_rfl) (fun _ _ _ h=>h) (Below.refl _ _) ?_
       refine hg_skip 24 (by rfl) (want_f (dj:=59) (by rfl) (by kernel_rfl) rfl) rfl (by decide) (by kernel_rfl) (by kernel_rfl) (by kernel_rfl) (fun _ _ _ h=>h) (Below.refl _ _) ?_
       refine hg_skip1 25 (Below.refl _ _) (by rfl) (want_f (dj:=59) (by rfl) (by kernel_rfl) rfl) rfl (by decide) (by kernel_rfl) ?_
       refine hg_skip1 26 (Below.refl _ _) (by rfl) (want_f (dj:=59) (by rfl) (by kernel_rfl) rfl) rfl (by decide) (by kernel_rfl) ?_
       refine Zh 27 (fun q hq=>y_pick false rfl rfl rfl) ?_
       refine Zh 28 (fun q hq=>y_assign rfl rfl) ?_
       refine hg_done (by kernel_rfl) ?_
       refine Nx [8] ?_
       refine cg_ret ?_
       have u:=Un u hw15
       exact eg_ret_tmp rfl rfl ⟨_,rfl,congrArg Value.bool (decide_eq_false (fun q=>c17 (by have z:=q.2.2.2.2.2;rwa [atN_some eg12] at z))).symm,u⟩
     ·refine Zo 2 ?_
      refine Za (yb (decide_eq_false c11) (y_call (has_any m9 d) (by kernel_rfl) rfl rfl)) ?_
      refine hg_next (Below.refl _ _) ?_
      refine Zh 3 (fun q hq=>y_move rfl rfl) ?_
      refine hg_skip 4 (by rfl) (want_f (dj:=45) (by rfl) (by kernel_rfl) rfl) rfl (by decide) (by kernel_rfl) (by kernel_rfl) (by kernel_rfl) (fun _ _ _ h=>h) (Below.refl _ _) ?_
      refine hg_skip 5 (by rfl) (want_f (dj:=45) (by rfl) (by kernel_rfl) rfl) rfl (by decide) (by kernel_rfl) (by kernel_rfl) (by kernel_rfl) (fun _ _ _ h=>h) (Below.refl _ _) ?_
      refine hg_skip 6 (by rfl) (want_f (dj:=45) (by rfl) (by kernel_rfl) rfl) rfl (by decide) (by kernel_rfl) (by kernel_rfl) (by kernel_rfl) (fun _ _ _ h=>h) (Below.refl _ _) ?_
      refine hg_skip 7 (by rfl) (want_f (dj:=45) (by rfl) (by kernel_rfl) rfl) rfl (by decide) (by kernel_rfl) (by kernel_rfl) (by kernel_rfl) (fun _ _ _ h=>h) (Below.refl _ _) ?_
      refine hg_skip 8 (by rfl) (want_f (dj:=45) (by rfl) (by kernel_rfl) rfl) rfl (by decide) (by kernel_rfl) (by kernel_rfl) (by kernel_rfl) (fun _ _ _ h=>h) (Below.refl _ _) ?_
      refine hg_skip 9 (by rfl) (want_f (dj:=45) (by rfl) (by kernel_rfl) rfl) rfl (by decide) (by kernel_rfl) (by kernel_rfl) (by kernel_rfl) (fun _ _ _ h=>h) (Below.refl _ _) ?_
      refine hg_skip 10 (by rfl) (want_f (dj:=45) (by rfl) (by kernel_rfl) rfl) rfl (by decide) (by kernel_rfl) (by kernel_rfl) (by kernel_rfl) (fun _ _ _ h=>h) (Below.refl _ _) ?_
      refine hg_skip 11 (by rfl) (want_f (dj:=45) (by rfl) (by kernel_rfl) rfl) rfl (by decide) (by kernel_rfl) (by kernel_rfl) (by kernel_rfl) (fun _ _ _ h=>h) (Below.refl _ _) ?_
      refine hg_skip 12 (by rfl) (want_f (dj:=45) (by rfl) (by kernel_rfl) rfl) rfl (by decide) (by kernel_rfl) (by kernel_rfl) (by kernel_rfl) (fun _ _ _ h=>h) (Below.refl _ _) ?_
      refine hg_skip1 13 (Below.refl _ _) (by rfl) (want_f (dj:=45) (by rfl) (by kernel_rfl) rfl) rfl (by decide) (by kernel_rfl) ?_
      refine hg_skip 14 (by rfl) (want_f (dj:=45) (by rfl) (by kernel_rfl) rfl) rfl (by decide) (by kernel_rfl) (by kernel_rfl) (by kernel_rfl) (fun _ _ _ h=>h) (Below.refl _ _) ?_
      refine hg_skip 15 (by rfl) (want_f (dj:=45) (by rfl) (by kernel_rfl) rfl) rfl (by decide) (by kernel_rfl) (by kernel_rfl) (by kernel_rfl) (fun _ _ _ h=>h) (Below.refl _ _) ?_
      refine Zh 16 (fun q hq=>y_pick false rfl rfl rfl) ?_
      refine Zh 17 (fun q hq=>y_move rfl rfl) ?_
      refine hg_skip 18 (by rfl) (want_f (dj:=59) (by rfl) (by kernel_rfl) rfl) rfl (by decide) (by kernel_rfl) (by kernel_rfl) (by kernel_rfl) (fun _ _ _ h=>h) (Below.refl _ _) ?_
      refine hg_skip 19 (by rfl) (want_f (dj:=59) (by rfl) (by kernel_rfl) rfl) rfl (by decide) (by kernel_rfl) (by kernel_rfl) (by kernel_rfl) (fun _ _ _ h=>h) (Below.refl _ _) ?_
      refine hg_skip 20 (by rfl) (want_f (dj:=59) (by rfl) (by kernel_rfl) rfl) rfl (by decide) (by kernel_rfl) (by kernel_rfl) (by kernel_rfl) (fun _ _ _ h=>h) (Below.refl _ _) ?_
      refine hg_skip 21 (by rfl) (want_f (dj:=59) (by rfl) (by kernel_rfl) rfl) rfl (by decide) (by kernel_rfl) (by kernel_rfl) (by kernel_rfl) (fun _ _ _ h=>h) (Below.refl _ _) ?_
      refine hg_skip 22 (by rfl) (want_f (dj:=59) (by rfl) (by kernel_rfl) rfl) rfl (by decide) (by kernel_rfl) (by kernel_rfl) (by kernel_rfl) (fun _ _ _ h=>h) (Below.refl _ _) ?_
      refine hg_skip 23 (by rfl) (want_f (dj:=59) (by rfl) (by kernel_rfl) rfl) rfl (by decide) (by kernel_rfl) (by kernel_rfl) (by kernel_rfl) (fun _ _ _ h=>h) (Below.refl _ _) ?_
      refine hg_skip 24 (by rfl) (want_f (dj:=59) (by rfl) (by kernel_rfl) rfl) rfl (by decide) (by kernel_rfl) (by kernel_rfl) (by kernel_rfl) (fun _ _ _ h=>h) (Below.refl _ _) ?_
      refine hg_skip1 25 (Below.refl _ _) (by rfl) (want_f (dj:=59) (by rfl) (by kernel_rfl) rfl) rfl (by decide) (by kernel_rfl) ?_
      refine hg_skip1 26 (Below.refl _ _) (by rfl) (want_f (dj:=59) (by rfl) (by kernel_rfl) rfl) rfl (by decide) (by kernel_rfl) ?_
      refine Zh 27 (fun q hq=>y_pick false rfl rfl rfl) ?_
      refine Zh 28 (fun q hq=>y_assign rfl rfl) ?_
      refine hg_done (by kernel_rfl) ?_
      refine Nx [8] ?_
      refine cg_ret ?_
      have u:=Un (Un u hw9) dW10
      exact eg_ret_tmp rfl rfl ⟨_,rfl,congrArg Value.bool (decide_eq_false (fun q=>c11 q.2.2.2.1)).symm,u⟩
    ·refine Zt 31 (yb (nd_t c8) (yi_neq rfl rfl rfl)) ?_
     refine Zan (y_pick false rfl rfl rfl) [1,2,3,8,9,38] ?_
     refine cg_ct rfl ?_
     refine ZrA ?_
     refine Znr [1,2,3,9,8] ?_
     refine eg_seq_ret ?_
     exact eg_ret_tmp rfl rfl ⟨_,rfl,congrArg Value.bool (decide_eq_false (fun q=>c8 (par_of_kid q.1 (inner_odd (trAs_is Ls) q.1 q.2.1) q.2.2.1))).symm,u⟩
   ·refine Zt 23 (yb (nd_t c7) (yi_neq rfl rfl rfl)) ?_
    refine Za (y_pick false rfl rfl rfl) ?_
    refine ZM ?_
    refine Zf 31 ?_
    refine Zf 31 ?_
    refine Zf 31 ?_
    refine Zf 31 ?_
    refine Zf 31 ?_
    refine Zf 31 ?_
    refine Zan (y_pick true rfl rfl rfl) [1,2,3,8,9,38] ?_
    refine cg_ct rfl ?_
    refine ZrA ?_
    refine Znr [1,2,3,9,8] ?_
    refine eg_seq_ret ?_
    have u:=Un (Un (Un u hw1) hw3) hw5
    exact eg_ret_tmp rfl rfl ⟨_,rfl,congrArg Value.bool (decide_eq_false (fun q=>c7 (by have z:=q.2.1;rwa [atN_some eg6] at z))).symm,u⟩
  ·refine Zct 17 (nb_any (m1.more (B':=w3.heap.size) (by omega)) d (Nat.le_refl _) (trAs_is Ls)) rfl rfl ?_
   rintro u24 w24 ⟨e24,hw24⟩
   have zw24:=hw24.size
   obtain rfl:u24=.bool false:=e24.trans (congrArg Value.bool (decide_eq_false c4))
   refine Zt 17 (y_bnot rfl rfl) ?_
   refine Za (y_pick false rfl rfl rfl) ?_
   refine ZM ?_
   refine Zf 23 ?_
   refine Zf 23 ?_
   refine Zf 23 ?_
   refine Zf 23 ?_
   refine Zf 23 ?_
   refine Zf 23 ?_
   refine Za (y_pick true rfl rfl rfl) ?_
   refine ZM ?_
   refine Zf 31 ?_
   refine Zf 31 ?_
   refine Zf 31 ?_
   refine Zf 31 ?_
   refine Zf 31 ?_
   refine Zf 31 ?_
   refine Zan (y_pick true rfl rfl rfl) [1,2,3,8,9,38] ?_
   refine cg_ct rfl ?_
   refine ZrA ?_
   refine Znr [1,2,3,9,8] ?_
   refine eg_seq_ret ?_
   have u:=Un (Un (Un u hw1) hw3) hw24
   exact eg_ret_tmp rfl rfl ⟨_,rfl,congrArg Value.bool (decide_eq_false (fun q=>c4 (says_node q.2.2.2.2.2 (res_range (trAs_is Ls) q.2.2.2.1).1 (trAs_is Ls)))).symm,u⟩
 ·refine Zc (nb_any (m1.more (B':=w1.heap.size) (by omega)) x (Nat.le_refl _) (trAs_is Ls)) rfl rfl ?_
  rintro u25 w25 ⟨e25,hw25⟩
  have zw25:=hw25.size
  obtain rfl:u25=.bool false:=e25.trans (congrArg Value.bool (decide_eq_false c2))
  refine Za (y_bnot rfl rfl) ?_
  refine ZM ?_
  refine Zf 17 ?_
  refine Zf 17 ?_
  refine Zf 17 ?_
  refine Zf 17 ?_
  refine Za (y_pick true rfl rfl rfl) ?_
  refine ZM ?_
  refine Zf 23 ?_
  refine Zf 23 ?_
  refine Zf 23 ?_
  refine Zf 23 ?_
  refine Zf 23 ?_
  refine Zf 23 ?_
  refine Za (y_pick true rfl rfl rfl) ?_
  refine ZM ?_
  refine Zf 31 ?_
  refine Zf 31 ?_
  refine Zf 31 ?_
  refine Zf 31 ?_
  refine Zf 31 ?_
  refine Zf 31 ?_
  refine Zan (y_pick true rfl rfl rfl) [1,2,3,8,9,38] ?_
  refine cg_ct rfl ?_
  refine ZrA ?_
  refine Znr [1,2,3,9,8] ?_
  refine eg_seq_ret ?_
  have u:=Un (Un u hw1) hw25
  exact eg_ret_tmp rfl rfl ⟨_,rfl,congrArg Value.bool (decide_eq_false (fun q=>c2 ⟨q.1,by rw [q.2.1];decide⟩)).symm,u⟩
theorem valid_no {t:List Nd} {x d:Int} {n:Nat} (hk:(atN (trAs t) x.toNat).kind=2) (he:∀ i,i<n→¬linkL (trAs t) x (leftI x ((trAs t).length:Int)) (i:Int)∧¬linkL (trAs t) x (rightI x ((trAs t).length:Int)) (i:Int)) (hn:(trAs t).length≤n)
  (z:linkL (trAs t) x (leftI x ((trAs t).length:Int)) d∨linkL (trAs t) x (rightI x ((trAs t).length:Int)) d):False:=by
 have key:∀ c,linkL (trAs t) x c d→isN d ((trAs t).length:Int):=fun c q=>(says_node q.2.2.2.2.2 (res_range (trAs_is t) q.2.2.2.1).1 (trAs_is t)).1
 have hd:isN d ((trAs t).length:Int):=z.elim (key _) (key _)
 have hl:=hd.le
 have h:=he d.toNat (by omega)
 rw [show ((d.toNat:Nat):Int)=d by omega] at h
 exact z.elim h.1 h.2
theorem rvalid_any {W:World} {B:Nat} {s:SlV} {Ls:List Nd} (h:RwNd W B s Ls) (x:Int) (hB:B≤W.heap.size) (rg:Tb W):Calls Tryz.prog 19 #[s.v,nv x] W fun e W'=>∃ v,e=.returned v∧v=.bool (decide (validL (trAs Ls) x))∧Below W.heap.size W W':=by
 have h:=h.more hB
 refine calls_cg (n:=47) Tryz.func19 rfl Tryz.ntmps19 (by simp) ?_
 show CG _ _ _ [(0,s.v),(1,nv x)] _ _
 have u:=Below.refl W.heap.size W
 have q1:=h.len
 have q2:=h.cap
 have htl:=trAs_le Ls
 refine ZrA ?_
 refine Zn [0,1,4] ?_
 refine ZrM ?_
 refine Zc (as_any h (by omega)) rfl rfl ?_
 rintro _ w1 ⟨s1,rfl,m1,hw1⟩
 have zw1:=hw1.size
 have tl1:=trAs_le Ls
 refine ZAn [1,4,5] ?_
 refine cg_seq ?_
 refine ZrM ?_
 by_cases c2:x<0
 ·refine Za (yb (decide_eq_true c2) (yi_lss rfl rfl rfl)) ?_
  refine ZM ?_
  refine Zf 11 ?_
  refine Zf 11 ?_
  refine Zf 11 ?_
  refine Zf 11 ?_
  refine Zan (y_pick true rfl rfl rfl) [1,4,5,16] ?_
  refine cg_ct rfl ?_
  refine ZrA ?_
  refine Znr [1,5,4] ?_
  refine eg_seq_ret ?_
  have u:=Un u hw1
  exact eg_ret_tmp rfl rfl ⟨_,rfl,congrArg Value.bool (decide_eq_false (fun q=>by have:=q.1.le;omega)).symm,u⟩
 ·refine Za (yb (decide_eq_false c2) (yi_lss rfl rfl rfl)) ?_
  refine ZM ?_
  refine Zt 11 (y_move rfl rfl) ?_
  refine Zt 11 (y_move rfl rfl) ?_
  refine Zt 11 (y_lenM (el:=43) m1.len (by kernel_rfl) rfl rfl) ?_
  by_cases c3:((trAs Ls).length:Int)≤x
  ·refine Zt 11 (yb (decide_eq_true c3) (yi_geq rfl rfl rfl)) ?_
   refine Zan (y_pick false rfl rfl rfl) [1,4,5,16] ?_
   refine cg_ct rfl ?_
   refine ZrA ?_
   refine Znr [1,5,4] ?_
   refine eg_seq_ret ?_
   have u:=Un u hw1
   exact eg_ret_tmp rfl rfl ⟨_,rfl,congrArg Value.bool (decide_eq_false (fun q=>by have:=q.1.le;omega)).symm,u⟩
  ·refine Zt 11 (yb (decide_eq_false c3) (yi_geq rfl rfl rfl)) ?_
   refine Zan (y_pick false rfl rfl rfl) [1,4,5,16] ?_
   refine Zcf [1,4,5] ?_
   refine cg_seq ?_
   refine ZrM ?_
   refine ZM ?_
   obtain ⟨eb4,eo4,el4,eL4,eA4,eB4,eg4,eh4,ec4⟩:=m1.at (x.toNat) (by have:=m1.len;omega)
   refine Za (y_ixR (s:=s1) (el:=43) (k:=8) (i:=x.toNat) (iI:=x) eA4 (by kernel_rfl) (by kernel_rfl) (by omega) (by have:=m1.len;omega) rfl rfl rfl) ?_
   refine Za (y_fld (off:=0) (by kernel_rfl) rfl rfl) ?_
   refine Za (y_celld (ec4 0 _ rfl) (by kernel_rfl) rfl rfl) ?_
   by_cases c5:eL4.kind=2
   ·refine Zan (yb (nd_f c5) (yi_neq rfl rfl rfl)) [1,4,5,22] ?_
    refine Zcf [1,4,5] ?_
    refine cg_seq ?_
    refine ZrA ?_
    refine Zn [1,4,5,6] ?_
    refine cg_block ?_
    have hxn:isN x ((trAs Ls).length:Int):=isN_of (trAs_is Ls) (by omega) (by omega)
    have hk2:(atN (trAs Ls) x.toNat).kind=2:=by rw [atN_some eg4];exact c5
    obtain ⟨C,hC⟩:∃ q,q=w1.heap.size:=⟨_,rfl⟩
    have u:=Un u hw1
    refine cg_loopE (fun t a v=>Holds 47 [(1,nv x),(5,s1.v),(6,nv ((t:Nat):Int))] a∧RwNd v C s1 (trAs Ls)∧Below W.heap.size W v∧C≤v.heap.size∧W.heap.size≤C∧(∀ i,i<t→¬linkL (trAs Ls) x (leftI x ((trAs Ls).length:Int)) (i:Int)∧¬linkL (trAs Ls) x (rightI x ((trAs Ls).length:Int)) (i:Int))∧t≤(trAs Ls).length) ((trAs Ls).length+1) (fun a ha=>⟨ha.keep (fk rfl (fk rfl (fk rfl fn))),(m1.more (by omega)),u,(by omega),(by omega),(fun i hi=>absurd hi (Nat.not_lt_zero _)),(Nat.zero_le _)⟩) ?_
    rintro t a v ht ⟨ha,hra,u,cC,cW,he,tle⟩
    refine cg_at ha ?_
    clear ha a
    have zv:=u.size
    have q3:=hra.len
    have q4:=hra.cap
    refine cg_seq ?_
    refine ZrM ?_
    refine ZM ?_
    refine Za (y_lenM (el:=43) hra.len (by kernel_rfl) rfl rfl) ?_
    by_cases c6:((t:Nat):Int)<((trAs Ls).length:Int)
    ·refine Zan (yb (decide_eq_true c6) (yi_lss rfl rfl rfl)) [1,5,6,26] ?_
     refine cg_ct rfl ?_
     refine Zki [1,5,6] ?_
     refine cg_seq ?_
     refine cg_block ?_
     refine ZrM ?_
     refine ZM ?_
     refine ZM ?_
     refine ZM ?_
     refine Za (y_lenM (el:=43) hra.len (by kernel_rfl) rfl rfl) ?_
     refine Za (y_call (rleft_any x ((trAs Ls).length:Int) _ (rg.up u)) (by kernel_rfl) rfl rfl) ?_
     refine ZM ?_
     by_cases c7:linkL (trAs (trAs Ls)) x (leftI x ((trAs Ls).length:Int)) ((t:Nat):Int)
     ·refine Zc (rlink_any (hra.more (B':=v.heap.size) (by omega)) x (leftI x ((trAs Ls).length:Int)) ((t:Nat):Int) (Nat.le_refl _) (rg.up u)) rfl rfl ?_
      rintro u8 w8 ⟨e8,hw8⟩
      have zw8:=hw8.size
      obtain rfl:u8=.bool true:=e8.trans (congrArg Value.bool (decide_eq_true c7))
      refine ZM ?_
      refine Zf 37 ?_
      refine Zf 37 ?_
      refine Zf 37 ?_
      refine Zf 37 ?_
      refine Zf 37 ?_
      refine Zf 37 ?_
      refine Zf 37 ?_
      refine Zf 37 ?_
      refine Zan (y_pick true rfl rfl rfl) [1,5,6,46] ?_
      refine cg_ct rfl ?_
      refine ZrA ?_
      refine Znr [1,5,6,4] ?_
      refine eg_block_ret ?_
      refine eg_seq_ret ?_
      refine eg_seq_ret ?_
      refine eg_block_ret ?_
      refine eg_seq_ret ?_
      have u:=Un u hw8
      exact eg_ret_tmp rfl rfl ⟨_,rfl,congrArg Value.bool (decide_eq_true ⟨hxn,fun _=>.inl (by have z:=c7;rw [trAs_as] at z;exact ⟨_,z.2.2.2.1,z⟩)⟩).symm,u⟩
     ·refine Zc (rlink_any (hra.more (B':=v.heap.size) (by omega)) x (leftI x ((trAs Ls).length:Int)) ((t:Nat):Int) (Nat.le_refl _) (rg.up u)) rfl rfl ?_
      rintro u9 w9 ⟨e9,hw9⟩
      have zw9:=hw9.size
      obtain rfl:u9=.bool false:=e9.trans (congrArg Value.bool (decide_eq_false c7))
      refine ZM ?_
      refine Zt 37 (y_move rfl rfl) ?_
      refine Zt 37 (y_move rfl rfl) ?_
      refine Zt 37 (y_move rfl rfl) ?_
      refine Zt 37 (y_move rfl rfl) ?_
      have hra:=hra.below (hw9.mono (by omega))
      refine Zt 37 (y_lenM (el:=43) hra.len (by kernel_rfl) rfl rfl) ?_
      have u:=Un u hw9
      refine Zt 37 (y_call (rright_any x ((trAs Ls).length:Int) _ (rg.up u)) (by kernel_rfl) rfl rfl) ?_
      refine Zt 37 (y_move rfl rfl) ?_
      by_cases c10:linkL (trAs (trAs Ls)) x (rightI x ((trAs Ls).length:Int)) ((t:Nat):Int)
      ·refine Zct 37 (rlink_any (hra.more (B':=w9.heap.size) (by omega)) x (rightI x ((trAs Ls).length:Int)) ((t:Nat):Int) (Nat.le_refl _) (rg.up u)) rfl rfl ?_
       rintro u11 w11 ⟨e11,hw11⟩
       have zw11:=hw11.size
       obtain rfl:u11=.bool true:=e11.trans (congrArg Value.bool (decide_eq_true c10))
       refine Zan (y_pick false rfl rfl rfl) [1,5,6,46] ?_
       refine cg_ct rfl ?_
       refine ZrA ?_
       refine Znr [1,5,6,4] ?_
       refine eg_block_ret ?_
       refine eg_seq_ret ?_
       refine eg_seq_ret ?_
       refine eg_block_ret ?_
       refine eg_seq_ret ?_
       have u:=Un u hw11
       exact eg_ret_tmp rfl rfl ⟨_,rfl,congrArg Value.bool (decide_eq_true ⟨hxn,fun _=>.inr (by have z:=c10;rw [trAs_as] at z;exact ⟨_,z.2.2.2.1,z⟩)⟩).symm,u⟩
      ·refine Zct 37 (rlink_any (hra.more (B':=w9.heap.size) (by omega)) x (rightI x ((trAs Ls).length:Int)) ((t:Nat):Int) (Nat.le_refl _) (rg.up u)) rfl rfl ?_
       rintro u12 w12 ⟨e12,hw12⟩
       have zw12:=hw12.size
       obtain rfl:u12=.bool false:=e12.trans (congrArg Value.bool (decide_eq_false c10))
       refine Zan (y_pick false rfl rfl rfl) [1,5,6,46] ?_
       refine cg_cf rfl ?_
       refine cg_skip ?_
       refine eg_block_norm ?_
       refine Nx [1,5,6] ?_
       refine cg_region ?_
       refine ZM ?_
       refine Za (yv (congrArg nv (show ((t:Nat):Int)+1=((t+1:Nat):Int) by omega)) (yi_add rfl rfl rfl (by omega) (by omega))) ?_
       refine ZA ?_
       refine lg_nil ?_
       have hra:=hra.below (hw12.mono (by omega))
       have u:=Un u hw12
       exact fun a ha=>(show t<((trAs Ls).length+1)∧_ from ⟨(by omega),ha.keep (fk rfl (fk rfl (fk rfl fn))),hra,u,(by omega),cW,(fun i hi=>if q:i<t then he i q else by
         obtain rfl:i=t:=by omega
         exact ⟨fun z=>c7 (by rw [trAs_as];exact z),fun z=>c10 (by rw [trAs_as];exact z)⟩),(by omega)⟩)
    ·refine Zan (yb (decide_eq_false c6) (yi_lss rfl rfl rfl)) [1,5,6,26] ?_
     refine cg_cf rfl ?_
     refine cg_exit ?_
     refine eg_seq_exit ?_
     refine eg_seq_exit ?_
     refine eg_block_exit ?_
     refine nx (E':=[]) fn ?_
     refine ZrA ?_
     refine Znr [4] ?_
     exact eg_ret_tmp rfl rfl ⟨_,rfl,congrArg Value.bool (decide_eq_false (fun q=>(q.2 hk2).elim (fun ⟨d,_,z⟩=>valid_no hk2 he (by omega) (.inl z)) fun ⟨d,_,z⟩=>valid_no hk2 he (by omega) (.inr z))).symm,u⟩
   ·refine Zan (yb (nd_t c5) (yi_neq rfl rfl rfl)) [1,4,5,22] ?_
    refine cg_ct rfl ?_
    refine ZrA ?_
    refine Znr [1,5,4] ?_
    refine eg_seq_ret ?_
    have u:=Un u hw1
    exact eg_ret_tmp rfl rfl ⟨_,rfl,congrArg Value.bool (decide_eq_true ⟨isN_of (trAs_is Ls) (by omega) (by omega),fun k=>absurd (by rwa [atN_some eg4] at k) c5⟩).symm,u⟩
theorem rverify_any {W:World} {B:Nat} {s:SlV} {Ls:List Nd} (h:RwNd W B s Ls) (hB:B≤W.heap.size) (rg:Tb W):Calls Tryz.prog 21 #[s.v] W fun e W'=>∃ v,e=.returned v∧v=.bool (decide (verL (trAs Ls)))∧Below W.heap.size W W':=by
 have h:=h.more hB
 refine calls_cg (n:=17) Tryz.func21 rfl Tryz.ntmps21 (by simp) ?_
 show CG _ _ _ [(0,s.v)] _ _
 have u:=Below.refl W.heap.size W
 have q1:=h.len
 have q2:=h.cap
 have htl:=trAs_le Ls
 refine ZrA ?_
 refine Zn [0,2] ?_
 refine ZrM ?_
 refine Zc (as_any h (by omega)) rfl rfl ?_
 rintro _ w1 ⟨s1,rfl,m1,hw1⟩
 have zw1:=hw1.size
 have tl1:=trAs_le Ls
 refine ZAn [2,3] ?_
 refine cg_seq ?_
 refine ZrA ?_
 refine Zn [2,3,4] ?_
 refine cg_block ?_
 obtain ⟨C,hC⟩:∃ q,q=w1.heap.size:=⟨_,rfl⟩
 have u:=Un u hw1
 refine cg_loopE (fun t a v=>Holds 17 [(3,s1.v),(4,nv ((t:Nat):Int))] a∧RwNd v C s1 (trAs Ls)∧Below W.heap.size W v∧C≤v.heap.size∧W.heap.size≤C∧(∀ i,i<t→validL (trAs Ls) (i:Int))∧t≤(trAs Ls).length) ((trAs Ls).length+1) (fun a ha=>⟨ha.keep (fk rfl (fk rfl fn)),(m1.more (by omega)),u,(by omega),(by omega),(fun i hi=>absurd hi (Nat.not_lt_zero _)),(Nat.zero_le _)⟩) ?_
 rintro t a v ht ⟨ha,hra,u,cC,cW,he,tle⟩
 refine cg_at ha ?_
 clear ha a
 have zv:=u.size
 have q3:=hra.len
 have q4:=hra.cap
 refine cg_seq ?_
 refine ZrM ?_
 refine ZM ?_
 refine Za (y_lenM (el:=43) hra.len (by kernel_rfl) rfl rfl) ?_
 by_cases c2:((t:Nat):Int)<((trAs Ls).length:Int)
 ·refine Zan (yb (decide_eq_true c2) (yi_lss rfl rfl rfl)) [3,4,10] ?_
  refine cg_ct rfl ?_
  refine Zki [3,4] ?_
  refine cg_seq ?_
  refine cg_block ?_
  refine ZrM ?_
  refine ZM ?_
  by_cases c3:validL (trAs (trAs Ls)) ((t:Nat):Int)
  ·refine Zc (rvalid_any (hra.more (B':=v.heap.size) (by omega)) ((t:Nat):Int) (Nat.le_refl _) (rg.up u)) rfl rfl ?_
   rintro u4 w4 ⟨e4,hw4⟩
   have zw4:=hw4.size
   obtain rfl:u4=.bool true:=e4.trans (congrArg Value.bool (decide_eq_true c3))
   refine Zan (y_bnot rfl rfl) [3,4,16] ?_
   refine cg_cf rfl ?_
   refine cg_skip ?_
   refine eg_block_norm ?_
   refine Nx [3,4] ?_
   refine cg_region ?_
   refine ZM ?_
   refine Za (yv (congrArg nv (show ((t:Nat):Int)+1=((t+1:Nat):Int) by omega)) (yi_add rfl rfl rfl (by omega) (by omega))) ?_
   refine ZA ?_
   refine lg_nil ?_
   have hra:=hra.below (hw4.mono (by omega))
   have u:=Un u hw4
   exact fun a ha=>(show t<((trAs Ls).length+1)∧_ from ⟨(by omega),ha.keep (fk rfl (fk rfl fn)),hra,u,(by omega),cW,(fun i hi=>if q:i<t then he i q else by
     obtain rfl:i=t:=by omega
     have z:=c3
     rwa [trAs_as] at z),(by omega)⟩)
  ·refine Zc (rvalid_any (hra.more (B':=v.heap.size) (by omega)) ((t:Nat):Int) (Nat.le_refl _) (rg.up u)) rfl rfl ?_
   rintro u5 w5 ⟨e5,hw5⟩
   have zw5:=hw5.size
   obtain rfl:u5=.bool false:=e5.trans (congrArg Value.bool (decide_eq_false c3))
   refine Zan (y_bnot rfl rfl) [3,4,16] ?_
   refine cg_ct rfl ?_
   refine ZrA ?_
   refine Znr [3,4,2] ?_
   refine eg_block_ret ?_
   refine eg_seq_ret ?_
   refine eg_seq_ret ?_
   refine eg_block_ret ?_
   refine eg_seq_ret ?_
   have u:=Un u hw5
   exact eg_ret_tmp rfl rfl ⟨_,rfl,congrArg Value.bool (decide_eq_false (fun q=>c3 (by rw [trAs_as];exact q t (by omega)))).symm,u⟩
 ·refine Zan (yb (decide_eq_false c2) (yi_lss rfl rfl rfl)) [3,4,10] ?_
  refine cg_cf rfl ?_
  refine cg_exit ?_
  refine eg_seq_exit ?_
  refine eg_seq_exit ?_
  refine eg_block_exit ?_
  refine nx (E':=[]) fn ?_
  refine ZrA ?_
  refine Znr [2] ?_
  exact eg_ret_tmp rfl rfl ⟨_,rfl,congrArg Value.bool (decide_eq_true (fun i hi=>he i (by omega))).symm,u⟩
end Go.Proofs.YtfbnallapgokeaaGreatDoor
