/-
  What is planned: the program.
-/
import Derived.Test.YtfdmhdnlmndhdaaGreatDoorChRefP
import Derived.Test.YtfdmhdnlmndhdaaGreatDoorChBack
namespace Go.Proofs.YtfdmhdnlmndhdaaGreatDoor
open Go.ChangeShapes Go.WideShapes Go.ChangeAt Go.RowKit
set_option linter.unusedVariables false

set_option maxRecDepth 20000
theorem hgs_doneN {P:Program} {n:Nat} {E:Env} {w:World} {ds:List Deferred} {S:World→Prop} {ops:Array Oper} {fuel:Nat} {listed:Array Bool} {Q:Exit→Act→World→Prop} (hr:Region.ready .any ops listed=[]) (h:∀ a,Holds n E a→Q .normal (mkd ds a) w):HGS P ops (fun e a w=>onlyN (Q .normal) e (mkd ds a) w) S n fuel listed E w:=hgs_done hr h
set_option maxHeartbeats 4000000 in
theorem plan_any {W:World} {B:Nat} {s r:SlV} {Ls:List Nd} {Ks:List (List Int)} (h:RwNd W B s Ls) (i:Int) (hk:RwOc W B r Ks) (hB:B≤W.heap.size) (rg:Tt W):Calls Tryz.prog 55 #[s.v,nv i,r.v] W fun e W'=>∃ v,e=.returned v∧∃ s' r':SlV,v=.tuple #[s'.v,r'.v,nv (planE (trAs Ls) i Ks)]∧RwNd W' W'.heap.size s' (planP (trAs Ls) i Ks)∧Sl W' W'.heap.size r' (planH (trAs Ls) i Ks)∧Below W.heap.size W W':=by
 have h:=h.more hB
 have hk:=hk.more hB
 refine calls_cx (n:=82) Tryz.func55 rfl Tryz.ntmps55 (by simp) (fun _ q=>by simp at q) ?_
 show CX none [] _ _ _ [(0,s.v),(1,nv i),(2,r.v)] _ _
 have u:=Below.refl W.heap.size W
 have q1:=h.len
 have q2:=h.cap
 have q3:=hk.len
 have q4:=hk.cap
 have tl:=trAs_le Ls
 have lvd:leavesA (trAs Ls)=((trAs Ls).length+1) / 2:=rfl
 have rt:=rg.b.lt
 refine cx_seq ?_
 refine Qq ?_
 refine lg_boxs rfl Wn rfl rfl rfl (by decide) fun b1 w1 n1=>?_
 have r1:=n1.row
 have k1:=n1.blk
 have z1:=n1.size
 have lt1:b1<w1.heap.size:=by omega
 refine ZA ?_
 refine ZA ?_
 refine ZA ?_
 refine Qk ?_
 refine Nxx [0,1,5,6,7,8] ?_
 refine cx_seq ?_
 refine cx_seq ?_
 refine Qq ?_
 refine ZM ?_
 by_cases c2:i<0
 ·refine Za (yb (dT c2) yi_lss) ?_
  refine ZM ?_
  refine Zf 20 ?_
  refine Zf 20 ?_
  refine Zf 20 ?_
  refine Zf 20 ?_
  refine Za (y_pick true) ?_
  refine Qk ?_
  refine Nxx [0,1,5,6,7,8,25] ?_
  refine cx_ct rfl ?_
  refine cx_seq ?_
  refine Qq ?_
  refine ZA ?_
  refine ZA ?_
  refine ZA ?_
  refine Qk ?_
  refine Nxx [0,1,5,6,7,8] ?_
  refine cx_ret ?_
  refine xg_seq_ret ?_
  have hpe:planE (trAs Ls) i Ks=3:=(planE_range (fun q=>by omega))
  obtain ⟨hp1,hp2⟩:=planP_no (a:=trAs Ls) (i:=i) (ks:=Ks) (by rw [hpe];decide)
  have u:=Un u n1.below
  exact xg_ret [] trivial (res_tmp3 rfl rfl rfl rfl) ⟨_,rfl,nilS,nilS,congrArg (fun q=>Value.tuple #[_,_,nv q]) hpe.symm,(by rw [hp1];exact RwNd.nil _ _),(by rw [hp2];exact Sl.nil _ _),u⟩
 refine Za (yb (dF c2) yi_lss) ?_
 refine ZM ?_
 refine Zt 20 y_move ?_
 refine Zt 20 y_move ?_
 have h:=h.below (n1.below.mono (by omega))
 refine Zct 20 (leavesT_any (h.more (B':=w1.heap.size) (by omega)) (Nat.le_refl _)) rfl rfl ?_
 rintro _ w3 ⟨rfl,hw3⟩
 have zw3:=hw3.size
 by_cases c4:((leavesA (trAs Ls):Nat):Int)≤i
 ·refine Zt 20 (yb (dT c4) yi_geq) ?_
  refine Za (y_pick false) ?_
  refine Qk ?_
  refine Nxx [0,1,5,6,7,8,25] ?_
  refine cx_ct rfl ?_
  refine cx_seq ?_
  refine Qq ?_
  refine ZA ?_
  refine ZA ?_
  refine ZA ?_
  refine Qk ?_
  refine Nxx [0,1,5,6,7,8] ?_
  refine cx_ret ?_
  refine xg_seq_ret ?_
  have hpe:planE (trAs Ls) i Ks=3:=(planE_range (fun q=>by omega))
  obtain ⟨hp1,hp2⟩:=planP_no (a:=trAs Ls) (i:=i) (ks:=Ks) (by rw [hpe];decide)
  have u:=Un (Un u n1.below) hw3
  exact xg_ret [] trivial (res_tmp3 rfl rfl rfl rfl) ⟨_,rfl,nilS,nilS,congrArg (fun q=>Value.tuple #[_,_,nv q]) hpe.symm,(by rw [hp1];exact RwNd.nil _ _),(by rw [hp2];exact Sl.nil _ _),u⟩
 have hi0:0≤i∧i<leavesA (trAs Ls):=⟨by omega,by omega⟩
 obtain ⟨hti,hNL,hi64,_⟩:=forks_is (Ls:=Ls) (i:=i) hi0.1 hi0.2
 have hta:=trAs_ok hti
 have hll:=trIs_le hti
 have hN:isN (2*i) ((trAs Ls).length:Int):=by rw [hta];exact hNL
 have hpos:0<Ls.length:=by have:=hNL.le;omega
 have fl6:=fork_len (trAs Ls) i
 have qwl:((forkL (trAs Ls) i).map Prod.fst).length=(forkL (trAs Ls) i).length:=List.length_map ..
 have qbl:((forkL (trAs Ls) i).map Prod.snd).length=(forkL (trAs Ls) i).length:=List.length_map ..
 refine Zt 20 (yb (dF c4) yi_geq) ?_
 refine Za (y_pick false) ?_
 refine Qk ?_
 refine Nxx [0,1,5,6,7,8,25] ?_
 refine cx_cf rfl ?_
 refine cx_skip ?_
 refine Nxx [0,1,5,6,7,8] ?_
 refine cx_seq ?_
 refine Qq ?_
 refine ZM ?_
 refine ZM ?_
 have h:=h.below (hw3.mono (by omega))
 have u:=Un (Un u n1.below) hw3
 refine Zc (filter_any (h.more (B':=w3.heap.size) (by omega)) i (Nat.le_refl _) (Tt.up u rg).b) rfl rfl ?_
 rintro _ w5 ⟨s5,rfl,m5,hw5⟩
 have zw5:=hw5.size
 refine ZM ?_
 refine ZM ?_
 have h:=h.below (hw5.mono (by omega))
 have u:=Un u hw5
 refine Zc (beside_any (h.more (B':=w5.heap.size) (by omega)) i (Nat.le_refl _) (Tt.up u rg).b) rfl rfl ?_
 rintro _ w6 ⟨s6,rfl,m6,hw6⟩
 have zw6:=hw6.size
 refine lg_allocs (u:=nilS.v) (by kernel_rfl) rfl Wn rfl rfl (by decide) fun b7 w7 n7=>?_
 have r7:=n7.row
 have k7:=n7.blk
 have z7:=n7.size
 have lt7:b7<w7.heap.size:=by omega
 refine ZA ?_
 have o8:=r7
 refine lg_sts r7 rfl rfl (by kernel_rfl) Wn rfl rfl rfl rfl fun w8 s8=>?_
 have r7:=s8.row
 have z8:=s8.size
 refine Qk ?_
 refine Nxx [0,1,5,6,7,8,10,9] ?_
 refine cx_seq ?_
 refine cx_seq ?_
 refine Qq ?_
 have r1:=RowAt.below hw3 r1.lt r1
 have r1:=RowAt.below hw5 r1.lt r1
 have r1:=RowAt.below hw6 r1.lt r1
 have r1:=n7.keep r1
 have r1:=s8.keep r1 (by omega)
 refine Za (Qo (v:=r.v) r1 rfl (by kernel_rfl) rfl rfl) ?_
 have hk:=(hk.below (n1.below.mono (by omega))).below (hw3.mono (by omega))
 have hk:=(hk.below (hw5.mono (by omega))).below (hw6.mono (by omega))
 have hk:=(hk.below (n7.below.mono (by omega))).below (s8.below _ (by omega))
 refine Za (y_lenM (el:=23) hk.len) ?_
 refine ZM ?_
 have m5:=((m5.below (hw6.mono (by omega))).below (n7.below.mono (by omega))).set o8 rfl s8
 refine Za (y_lenM (el:=3) m5.len) ?_
 by_cases c9:(Ks.length:Int)=(((forkL (trAs Ls) i).map Prod.fst).length:Int)
 ·have hkl:Ks.length=(forkL (trAs Ls) i).length:=by omega
  refine Za (yb (nd_f c9) yi_neq) ?_
  refine Qk ?_
  refine Nxx [0,1,5,6,7,8,10,9,36] ?_
  refine cx_cf rfl ?_
  refine cx_skip ?_
  refine Nxx [0,1,5,6,7,8,10,9] ?_
  refine cx_seq ?_
  refine cx_seq ?_
  refine Qq ?_
  refine Za (Qo (v:=r.v) r1 rfl (by kernel_rfl) rfl rfl) ?_
  refine Zc (wrong_any (hk.more (B':=w8.heap.size) (by omega)) (Nat.le_refl _)) rfl rfl ?_
  rintro _ w10 ⟨rfl,hw10⟩
  have zw10:=hw10.size
  refine ZA ?_
  refine Qk ?_
  refine Nxx [0,1,5,6,7,8,10,9,11] ?_
  refine cx_seq ?_
  refine Qq ?_
  refine ZM ?_
  by_cases c11:(keysE Ks)=0
  ·have hE:planE (trAs Ls) i Ks=0:=by rw [planE_keys hi0 hkl];exact c11
   refine Za (yb (nd_f c11) yi_neq) ?_
   refine Qk ?_
   refine Nxx [0,1,5,6,7,8,10,9,11,40] ?_
   refine cx_cf rfl ?_
   refine cx_skip ?_
   refine Nxx [0,1,5,6,7,8,10,9] ?_
   refine cx_seq ?_
   refine Qq ?_
   refine ZM ?_
   have h:=(h.below (hw6.mono (by omega))).below (n7.below.mono (by omega))
   have h:=(h.below (s8.below _ (by omega))).below (hw10.mono (by omega))
   obtain ⟨bc,hbc⟩:∃ q,q=w10.heap.size:=⟨_,rfl⟩
   refine Zc (clone_any (h.more (B':=w10.heap.size) (by omega)) hbc hpos (by first | omega | (simp only [List.length_append,List.length_cons,List.length_nil,List.length_take,List.length_drop,List.length_set,List.length_replicate,clr_len];omega))) rfl rfl ?_
   rintro _ w12 ⟨s12,rfl,g12,hw12⟩
   have zw12:=hw12.size
   obtain ⟨ga,gb,gl,gn⟩:=OwnNm.of g12 (by omega) hpos
   have hM0:¬ga<bc:=by omega
   refine lg_allocs (u:=nilS.v) (by kernel_rfl) rfl Wn rfl rfl (by decide) fun b13 w13 n13=>?_
   have r13:=n13.row
   have k13:=n13.blk
   have z13:=n13.size
   have lt13:b13<w13.heap.size:=by omega
   have o14:=r13
   refine lg_sts r13 rfl rfl (by kernel_rfl) Wn rfl rfl rfl rfl fun w14 s14=>?_
   have r13:=s14.row
   have z14:=s14.size
   refine Qk ?_
   refine Nxx [0,1,5,6,7,8,10,9,12] ?_
   refine cx_seq ?_
   refine cx_seq ?_
   refine Qq ?_
   refine ZM ?_
   refine Za (yi_mul rfl rfl rfl (by omega) (by omega)) ?_
   refine ZM ?_
   have h:=((h.below (hw12.mono (by omega))).below (n13.below.mono (by omega))).below (s14.below _ (by omega))
   refine Za (y_lenM (el:=50) h.len) ?_
   have u:=Un (Un u hw6) n7.below
   have u:=u.trans (s8.below _ (by omega))
   have u:=Un (Un (Un u hw10) hw12) n13.below
   have u:=u.trans (s14.below _ (by omega))
   refine Zc (directF (2*i) (Ls.length:Int) _ (Tt.up u rg).b) rfl rfl ?_
   rintro _ w15 ⟨s15,rfl,m15,f15,hw15⟩
   have zw15:=hw15.size
   refine Za (y_lenM (el:=3) m15.len) ?_
   refine ZM ?_
   refine Qk ?_
   refine Nxx [5,6,7,8,10,9,12,48,49,50] ?_
   refine cx_block ?_
   obtain ⟨C,hC⟩:∃ q,q=w15.heap.size:=⟨_,rfl⟩
   have m6:=(m6.below (n7.below.mono (by omega))).set o8 rfl s8
   have m6:=(m6.below (hw10.mono (by omega))).below (hw12.mono (by omega))
   have m6:=((m6.below (n13.below.mono (by omega))).set o14 rfl s14).below (hw15.mono (by omega))
   have m5:=(m5.below (hw10.mono (by omega))).below (hw12.mono (by omega))
   have m5:=((m5.below (n13.below.mono (by omega))).set o14 rfl s14).below (hw15.mono (by omega))
   have gn:=((gn.below n13.below).alt s14.alt (fun z=>absurd z (by omega)) (by omega)).below hw15
   have hk:=(hk.below (hw10.mono (by omega))).below (hw12.mono (by omega))
   have hk:=((hk.below (n13.below.mono (by omega))).below (s14.below _ (by omega))).below (hw15.mono (by omega))
   have r1:=RowAt.below hw10 r1.lt r1
   have r1:=RowAt.below hw12 r1.lt r1
   have r1:=n13.keep r1
   have r1:=s14.keep r1 (by omega)
   have r1:=RowAt.below hw15 r1.lt r1
   have r7:=RowAt.below hw10 r7.lt r7
   have r7:=RowAt.below hw12 r7.lt r7
   have r7:=n13.keep r7
   have r7:=s14.keep r7 (by omega)
   have r7:=RowAt.below hw15 r7.lt r7
   have r13:=RowAt.below hw15 r13.lt r13
   have u:=Un u hw15
   refine cx_loopE (fun t a v=>Holds 82 [(5,pv b1 0),(9,s5.v),(10,pv b7 0),(12,pv b13 0),(48,s15.v),(49,nv ((dirI (2*i) (Ls.length:Int)).length:Int)),(50,nv ((t:Nat):Int))] a∧RwOc v W.heap.size r Ks∧RowAt v b1 26 #[r.v]∧RowAt v b7 46 #[s6.v]∧SlN v bc s6 ((forkL (trAs Ls) i).map Prod.snd)∧SlN v bc s5 ((forkL (trAs Ls) i).map Prod.fst)∧RowAt v b13 22 #[s12.v]∧Below W.heap.size W v∧SlN v C s15 (dirI (2*i) (Ls.length:Int))∧C≤v.heap.size∧t≤(dirI (2*i) (Ls.length:Int)).length∧OwnNm (fun k=>k<bc) v ga s12 (clr ((dirI (2*i) (Ls.length:Int)).take t) (trAs Ls))) ((dirI (2*i) (Ls.length:Int)).length+1) (fun a ha=>⟨ha.keep (fk rfl (fk rfl (fk rfl (fk rfl (fk rfl (fk rfl (fk rfl fn))))))),hk,r1,r7,(m6.more (by omega)),(m5.more (by omega)),r13,u,(m15.more (by omega)),(by omega),(Nat.zero_le _),(gn.cast (by rw [hta];rfl))⟩) ?_
   rintro t a v ht ⟨ha,hk,r1,r7,hbe,hw,r13,u,hd,cC,tle,go⟩
   refine cx_at ha ?_
   clear ha a
   have zv:=u.size
   have l_r1:=r1.lt
   have l_r7:=r7.lt
   have l_r13:=r13.lt
   have q3:=hk.len
   have q4:=hk.cap
   have qd:=hd.len
   have qw:=hw.len
   have cl:=clr_len ((dirI (2*i) (Ls.length:Int)).take t) (trAs Ls)
   have qo:=go.len
   have gl:=go.lt
   have dlt:=dirL (2*i) (Ls.length:Int)
   have htal:(trAs Ls).length=Ls.length:=by rw [hta]
   refine cx_seq ?_
   refine Qq ?_
   by_cases c16:((t:Nat):Int)<((dirI (2*i) (Ls.length:Int)).length:Int)
   ·refine Za (yb (dT c16) yi_lss) ?_
    refine Qk ?_
    refine Nxx [5,9,10,12,48,49,50,51] ?_
    refine cx_seq ?_
    refine cx_ct rfl ?_
    refine cx_skip ?_
    refine Nxx [5,9,10,12,48,49,50] ?_
    refine cx_seq ?_
    refine cx_block ?_
    refine cx_seq ?_
    have htn:t<(dirI (2*i) (Ls.length:Int)).length:=by omega
    have hdn:=dirI_in hNL _ (getD_in htn)
    refine Qq ?_
    refine Za (y_ixT (i:=t) (iI:=((t:Nat):Int)) hd (by omega) (by first | omega | (simp only [List.length_append,List.length_cons,List.length_nil];omega)) rfl rfl rfl) ?_
    refine Za (yv (congrArg nv (show (dirI (2*i) (Ls.length:Int)).getD t 0=(((dirI (2*i) (Ls.length:Int)).getD t 0).toNat:Int) by omega)) (y_ldT (i:=t) hd (by first | omega | (simp only [List.length_append,List.length_cons,List.length_nil];omega)) rfl rfl)) ?_
    refine ZA ?_
    refine Qk ?_
    refine Nxx [5,9,10,12,48,49,50,14] ?_
    refine Qq ?_
    refine Za (Qo (v:=s12.v) r13 rfl (by kernel_rfl) rfl rfl) ?_
    refine ZM ?_
    refine Za (y_build (cs:=NdV.zero.cs Nd.zero)) ?_
    refine Za (y_ixR (s:=s12) (el:=50) (k:=8) (i:=(((dirI (2*i) (Ls.length:Int)).getD t 0).toNat)) (iI:=((((dirI (2*i) (Ls.length:Int)).getD t 0).toNat:Nat):Int)) go.1 (by kernel_rfl) (by kernel_rfl) (by omega) (by have q1:=go.len;first | omega | (simp only [List.length_append,List.length_cons,List.length_nil,List.length_take,List.length_drop,List.length_set,List.length_replicate,clr_len] at q1;omega)) rfl rfl rfl) ?_
    refine lg_stM (i:=(((dirI (2*i) (Ls.length:Int)).getD t 0).toNat)) go hM0 ((IsNd.zero _ 0).more (B':=v.heap.size) (by omega)) (InNd.zero _) (by first | omega | (simp only [List.length_append,List.length_cons,List.length_nil,List.length_take,List.length_drop,List.length_set,List.length_replicate,clr_len];omega)) Wn rfl rfl rfl rfl fun w17 new17 st17 g17=>?_
    have z17:=st17.size
    refine Qk ?_
    refine Qs ?_
    refine Nxx [5,9,10,12,48,49,50] ?_
    refine Qq ?_
    refine Za (yv (congrArg nv (show ((t:Nat):Int)+1=((t+1:Nat):Int) by omega)) (yi_add rfl rfl rfl (by omega) (by omega))) ?_
    refine ZM ?_
    refine Qk ?_
    have hk:=hk.below (st17.below _ (by omega))
    have r1:=st17.keep r1 (by omega)
    have r7:=st17.keep r7 (by omega)
    have hbe:=hbe.below (st17.below _ (by omega))
    have hw:=hw.below (st17.below _ (by omega))
    have r13:=st17.keep r13 (by omega)
    have u:=u.trans (st17.below _ (by omega))
    have hd:=hd.offB (by omega) (OffS.fr f15 (by omega)) (Set1.alt st17)
    exact fun a ha=>(show t<((dirI (2*i) (Ls.length:Int)).length+1)∧_ from ⟨(by omega),a,rfl,ha.keep (fk rfl (fk rfl (fk rfl (fk rfl (fk rfl (fk rfl (fk rfl fn))))))),hk,r1,r7,hbe,hw,r13,u,hd,(by omega),(by omega),(g17.cast (clr_take htn))⟩)
   refine Za (yb (dF c16) yi_lss) ?_
   refine Qk ?_
   refine Nxx [5,9,10,12,48,49,50,51] ?_
   refine cx_seq ?_
   refine cx_cf rfl ?_
   refine cx_exit ?_
   refine xg_seq_exit ?_
   refine xg_seq_exit ?_
   refine xg_block_exit ?_
   refine Nxx [5,9,10,12] ?_
   refine cx_seq ?_
   refine Qq ?_
   refine lg_allocs (u:=nilS.v) (by kernel_rfl) rfl Wn rfl rfl (by decide) fun b18 w18 n18=>?_
   have r18:=n18.row
   have k18:=n18.blk
   have z18:=n18.size
   have lt18:b18<w18.heap.size:=by omega
   refine Qk ?_
   refine Nxx [5,9,10,12,15] ?_
   refine cx_seq ?_
   refine cx_seq ?_
   refine Qq ?_
   refine ZM ?_
   have hw:=hw.below (n18.below.mono (by omega))
   refine Zc (back_any s5 _ hw) rfl rfl ?_
   rintro _ w19 ⟨bx19,rfl,x19,i19,hw19⟩
   have zw19:=hw19.size
   have lx19:=x19.lt
   refine Qk ?_
   refine Nxx [5,10,12,15,60] ?_
   refine cx_block ?_
   have go:=(go.below n18.below).below hw19
   obtain rfl:t=(dirI (2*i) (Ls.length:Int)).length:=by omega
   have go:=(go.cast (Ms:=(planF (plan0 (trAs Ls) i) ((planZ (trAs Ls) i Ks).drop ((forkL (trAs Ls) i).length-0))).1) (by rw [List.take_length,Nat.sub_zero,plan_end hkl];show _=clr _ _;rw [hta]))
   have hk:=(hk.below (n18.below.mono (by omega))).below (hw19.mono (by omega))
   have r1:=n18.keep r1
   have r1:=RowAt.below hw19 r1.lt r1
   have r7:=n18.keep r7
   have r7:=RowAt.below hw19 r7.lt r7
   have hbe:=(hbe.below (n18.below.mono (by omega))).below (hw19.mono (by omega))
   have hw:=hw.below (hw19.mono (by omega))
   have r13:=n18.keep r13
   have r13:=RowAt.below hw19 r13.lt r13
   have u:=Un (Un u n18.below) hw19
   have r18:=RowAt.below hw19 r18.lt r18
   have gl:=go.lt
   refine cx_told3 (d1:=16) (d2:=17) (e1:=fun p:Int × Int=>nv p.1) (e2:=fun p:Int × Int=>nv p.2) (m0:=(fun k=>k=ga∨k=b18)) (by kernel_rfl) rfl (back_tells bx19 bc _ _ _ (by omega) hw x19) (fun k q=>⟨fun z=>by rcases q with rfl | rfl<;>rcases z with z | z<;>omega,by rcases q with rfl | rfl<;>omega⟩) (fun k hk z=>by rcases z with z | rfl<;>omega) (by decide) (by decide)
    (fun (pre:List (Int × Int)) m X=>m ga∧m b18∧OwnNm (fun k=>k≠ga∧k≠b18∧(m k∨k<w19.heap.size)) X ga s12 (planF (plan0 (trAs Ls) i) ((planZ (trAs Ls) i Ks).drop ((forkL (trAs Ls) i).length-pre.length))).1∧∃ q:SlV,RowAt X b18 23 #[q.v]∧Hs X q (planF (plan0 (trAs Ls) i) ((planZ (trAs Ls) i Ks).drop ((forkL (trAs Ls) i).length-pre.length))).2∧InA (fun k=>k≠ga∧k≠b18∧(m k∨k<w19.heap.size)) q)
    (fun c pre m X=>False)
    (fun s m X Y hX ⟨h1,h2,h3,q,h4,h5,h6⟩ k=>⟨h1,h2,h3.kept k (fun z y=>y.2.2) (.inl h1),q,k.row (.inl h2) h4,h5.inn h6 (k.mono fun z _ y=>y.2.2),h6⟩)
    (fun c s m X Y hX h k=>h)
    ⟨.inl rfl,.inr rfl,go.mono fun k (z:k<bc)=>⟨by omega,by omega,.inr (by omega)⟩,nilS,r18,(by show Hs _ _ (planF (plan0 (trAs Ls) i) ((planZ (trAs Ls) i Ks).drop ((forkL (trAs Ls) i).length-0))).2;rw [Nat.sub_zero,plan_end hkl];exact Hs.nil _),InA.nil _⟩
    (fun l x W=>as_two rfl rfl rfl rfl (by decide) rfl rfl rfl rfl rfl (by decide) rfl l W)
    ?_ ?_ ?_
   ·rintro l20 pre20 k20 v20 m20 d20 hi20 hp20
    obtain ⟨hpl,hx⟩:=back_pre hp20
    rw [List.length_map] at hpl hx
    subst hx
    have hnm:∀ k,k≠ga→k≠b18→¬(k=ga∨k=b18):=fun k h2 h3 q=>q.elim h2 h3
    have low:=d20.kept.below (n0:=bc) (fun k hk=>hnm k (by omega) (by omega)) (by omega)
    have u:=u.trans (low.mono (by omega))
    have r13:=d20.kept.row (hnm _ (by omega) (by omega)) r13
    have zv20:=d20.kept.size
    obtain ⟨hga,hgb,go,q20,r18,hs,hia⟩:=hi20
    have hk:=hk.below (low.mono (by omega))
    have r1:=RowAt.below low (by omega) r1
    have r7:=RowAt.below low (by omega) r7
    have hbe:=hbe.belowN low
    have hr:=Did.refl d20.lt
    have q3:=hk.len
    have q4:=hk.cap
    have qb:=hbe.len
    have qo:=go.len
    have gl:=go.lt
    have pl:=planF_len (plan0 (trAs Ls) i) ((planZ (trAs Ls) i Ks).drop ((forkL (trAs Ls) i).length-pre20.length))
    rw [plan0_len] at pl
    obtain ⟨hxn,hsb⟩:=fork_at (trAs_is Ls) (i:=i) (k:=((forkL (trAs Ls) i).length-1-pre20.length)) (by omega)
    have lex:=hxn.le
    have kok:=keysE_ok (planE_ok hE).2.2 (Ks.getD ((forkL (trAs Ls) i).length-1-pre20.length) []) (getD_inO (by omega))
    refine cx_block ?_
    refine cx_seq ?_
    obtain ⟨eby21,eoy21,ery21,eAy21,eBy21,ehy21,ecy21⟩:=hk.at (((forkL (trAs Ls) i).length-1-pre20.length)) (by have:=hk.len;first | omega | (simp only [allH_len,allN_len,List.length_append,List.length_cons,List.length_nil] at this;omega))
    have r1o:=r1
    have r13o:=r13
    have r18o:=r18
    refine cx_only ?_
    refine cx_heldS (fun q=>Alt v20 q ga) (by kernel_rfl) (fun W22 eW22=>?_) fun W22 eW22=>?_
    ·exact Below.kept (below_drew _ _ eW22)
    have dW22:=below_drew _ _ eW22
    have zW22:=size_drew _ _ eW22
    clear eW22
    have al0:Alt v20 W22 ga:=Below.kept dW22
    refine hgs_take 0 (by rfl) Wn (by rfl) rfl (by decide) (by kernel_rfl) (by kernel_rfl) (by kernel_rfl) (fun _ _ _ h=>h) al0 (fun q hq=>Qo (v:=s12.v) (hq.row (show b13≠ga by omega) r13o) rfl (by kernel_rfl) rfl rfl) ?_
    refine hgs_take 1 (by rfl) Wn (by rfl) rfl (by decide) (by kernel_rfl) (by kernel_rfl) (by kernel_rfl) (fun _ _ _ h=>h) al0 (fun q hq=>yv (congrArg nv (show (((forkL (trAs Ls) i).map Prod.fst).getD ((forkL (trAs Ls) i).length-1-pre20.length) 0)=((((forkL (trAs Ls) i).map Prod.fst).getD ((forkL (trAs Ls) i).length-1-pre20.length) 0).toNat:Int) by omega)) (y_move rfl rfl)) ?_
    refine hgs_take 2 (by rfl) Wn (by rfl) rfl (by decide) (by kernel_rfl) (by kernel_rfl) (by kernel_rfl) (fun _ _ _ h=>h) al0 (fun q hq=>Qo (v:=r.v) (hq.row (show b1≠ga by omega) r1o) rfl (by kernel_rfl) rfl rfl) ?_
    refine hgs_take 3 (by rfl) Wn (by rfl) rfl (by decide) (by kernel_rfl) (by kernel_rfl) (by kernel_rfl) (fun _ _ _ h=>h) al0 (fun q hq=>y_move rfl rfl) ?_
    have hk:=hk.below (dW22.mono (by omega))
    refine hgs_take 4 (by rfl) Wn (by rfl) rfl (by decide) (by kernel_rfl) (by kernel_rfl) (by kernel_rfl) (fun _ _ _ h=>h) al0 (fun q hq=>y_ixR (s:=r) (el:=23) (k:=1) (i:=((forkL (trAs Ls) i).length-1-pre20.length)) (iI:=(((forkL (trAs Ls) i).length-1-pre20.length:Nat):Int)) eAy21 (by kernel_rfl) (by kernel_rfl) (by omega) (by have:=hk.len;first | omega | (simp only [allH_len,allN_len,List.length_append,List.length_cons,List.length_nil] at this;omega)) rfl rfl rfl) ?_
    refine hgs_take 5 (by rfl) Wn (by rfl) rfl (by decide) (by kernel_rfl) (by kernel_rfl) (by kernel_rfl) (fun _ _ _ h=>h) al0 (fun q hq=>y_celld ((World.cell?_of_block (w:=v20) (a:=⟨eby21,_,none⟩) (hq.block eby21 (by omega) (show eby21≠ga by omega))).trans (ecy21)) (by kernel_rfl) rfl rfl) ?_
    refine hgs_take 6 (by rfl) Wn (by rfl) rfl (by decide) (by kernel_rfl) (by kernel_rfl) (by kernel_rfl) (fun _ _ _ h=>h) al0 (fun q hq=>Qo (v:=q20.v) (hq.row (show b18≠ga by omega) r18o) rfl (by kernel_rfl) rfl rfl) ?_
    refine hgs_take 7 (by rfl) Wn (by rfl) rfl (by decide) (by kernel_rfl) (by kernel_rfl) (by kernel_rfl) (fun _ _ _ h=>h) al0 (fun q hq=>y_build (cs:=(⟨ery21,q20,nilS⟩:PnV).cs (⟨(Ks.getD ((forkL (trAs Ls) i).length-1-pre20.length) []),(planF (plan0 (trAs Ls) i) ((planZ (trAs Ls) i Ks).drop ((forkL (trAs Ls) i).length-pre20.length))).2,[]⟩:Pn)) rfl rfl (by kernel_rfl)) ?_
    refine hgs_take 8 (by rfl) Wn (by rfl) rfl (by decide) (by kernel_rfl) (by kernel_rfl) (by kernel_rfl) (fun _ _ _ h=>h) al0 (fun q hq=>y_build (cs:=(⟨LfV.zero,(⟨ery21,q20,nilS⟩:PnV)⟩:NdV).cs (⟨2,Lf.zero,(⟨(Ks.getD ((forkL (trAs Ls) i).length-1-pre20.length) []),(planF (plan0 (trAs Ls) i) ((planZ (trAs Ls) i Ks).drop ((forkL (trAs Ls) i).length-pre20.length))).2,[]⟩:Pn)⟩:Nd)) rfl rfl (by kernel_rfl)) ?_
    have go:=go.below dW22
    refine hgs_take 9 (by rfl) Wn (by rfl) rfl (by decide) (by kernel_rfl) (by kernel_rfl) (by kernel_rfl) (fun _ _ _ h=>h) al0 (fun q hq=>y_ixR (s:=s12) (el:=50) (k:=8) (i:=((((forkL (trAs Ls) i).map Prod.fst).getD ((forkL (trAs Ls) i).length-1-pre20.length) 0).toNat)) (iI:=(((((forkL (trAs Ls) i).map Prod.fst).getD ((forkL (trAs Ls) i).length-1-pre20.length) 0).toNat:Nat):Int)) go.1 (by kernel_rfl) (by kernel_rfl) (by omega) (by have q1:=go.len;first | omega | (simp only [List.length_append,List.length_cons,List.length_nil,List.length_take,List.length_drop,List.length_set,List.length_replicate,clr_len] at q1;omega)) rfl rfl rfl) ?_
    refine hgs_one 10 (by rfl) (by kernel_rfl) Wn ?_
    have ehy21:=ehy21.below (dW22.mono (by omega))
    have hs:=hs.below dW22
    refine lg_stM (i:=((((forkL (trAs Ls) i).map Prod.fst).getD ((forkL (trAs Ls) i).length-1-pre20.length) 0).toNat)) go (fun z=>z.1 rfl) (show IsNd W22 W22.heap.size (⟨LfV.zero,(⟨ery21,q20,nilS⟩:PnV)⟩:NdV) (⟨2,Lf.zero,(⟨(Ks.getD ((forkL (trAs Ls) i).length-1-pre20.length) []),(planF (plan0 (trAs Ls) i) ((planZ (trAs Ls) i Ks).drop ((forkL (trAs Ls) i).length-pre20.length))).2,[]⟩:Pn)⟩:Nd) from ⟨((IsLf.zero _ 0).more (B':=W22.heap.size) (by omega)),(show IsPn W22 W22.heap.size (⟨ery21,q20,nilS⟩:PnV) (⟨(Ks.getD ((forkL (trAs Ls) i).length-1-pre20.length) []),(planF (plan0 (trAs Ls) i) ((planZ (trAs Ls) i Ks).drop ((forkL (trAs Ls) i).length-pre20.length))).2,[]⟩:Pn) from ⟨(ehy21.more (B':=W22.heap.size) (by omega)),(hs.1.more (B':=W22.heap.size) (by omega)),((SlN.nil _ 0).more (B':=W22.heap.size) (by omega))⟩)⟩) (⟨InS.nil _,InS.nil _,InS.nil _,InS.of ehy21 (fun k z=>⟨by omega,by omega,.inr (by omega)⟩),hia.in,InS.nil _⟩) (by first | omega | (simp only [List.length_append,List.length_cons,List.length_nil,List.length_take,List.length_drop,List.length_set,List.length_replicate,clr_len];omega)) Wn rfl rfl rfl rfl fun w23 new23 st23 g23=>?_
    have z23:=st23.size
    have al0:=al0.trans (Set1.alt st23)
    refine hgs_next al0 ?_
    refine hgs_doneN (by kernel_rfl) ?_
    refine Nxx [10,12,15,16,17] ?_
    have hps:=plan_step (t:=plan0 (trAs Ls) i) hkl (k:=((forkL (trAs Ls) i).length-1-pre20.length)) (by omega)
    rw [show ((forkL (trAs Ls) i).length-1-pre20.length)+1=(forkL (trAs Ls) i).length-pre20.length by omega] at hps
    have hnew:((planF (plan0 (trAs Ls) i) ((planZ (trAs Ls) i Ks).drop ((forkL (trAs Ls) i).length-pre20.length))).1.set ((((forkL (trAs Ls) i).map Prod.fst).getD ((forkL (trAs Ls) i).length-1-pre20.length) 0).toNat) (⟨2,Lf.zero,(⟨(Ks.getD ((forkL (trAs Ls) i).length-1-pre20.length) []),(planF (plan0 (trAs Ls) i) ((planZ (trAs Ls) i Ks).drop ((forkL (trAs Ls) i).length-pre20.length))).2,[]⟩:Pn)⟩:Nd))=(planF (plan0 (trAs Ls) i) ((planZ (trAs Ls) i Ks).drop ((forkL (trAs Ls) i).length-1-pre20.length))).1:=by rw [hps];rfl
    have htN:trIs ((planF (plan0 (trAs Ls) i) ((planZ (trAs Ls) i Ks).drop ((forkL (trAs Ls) i).length-pre20.length))).1.set ((((forkL (trAs Ls) i).map Prod.fst).getD ((forkL (trAs Ls) i).length-1-pre20.length) 0).toNat) (⟨2,Lf.zero,(⟨(Ks.getD ((forkL (trAs Ls) i).length-1-pre20.length) []),(planF (plan0 (trAs Ls) i) ((planZ (trAs Ls) i Ks).drop ((forkL (trAs Ls) i).length-pre20.length))).2,[]⟩:Pn)⟩:Nd)):=by rw [hnew];exact plan_tree (trAs_is Ls) hE _
    have hln:((planF (plan0 (trAs Ls) i) ((planZ (trAs Ls) i Ks).drop ((forkL (trAs Ls) i).length-pre20.length))).1.set ((((forkL (trAs Ls) i).map Prod.fst).getD ((forkL (trAs Ls) i).length-1-pre20.length) 0).toNat) (⟨2,Lf.zero,(⟨(Ks.getD ((forkL (trAs Ls) i).length-1-pre20.length) []),(planF (plan0 (trAs Ls) i) ((planZ (trAs Ls) i Ks).drop ((forkL (trAs Ls) i).length-pre20.length))).2,[]⟩:Pn)⟩:Nd)).length=(trAs Ls).length:=by rw [List.length_set];omega
    have hle:(forkL (trAs Ls) i).length-(pre20++[(((((forkL (trAs Ls) i).length-1-pre20.length):Nat):Int),(((forkL (trAs Ls) i).map Prod.fst).getD ((forkL (trAs Ls) i).length-1-pre20.length) 0))]).length=((forkL (trAs Ls) i).length-1-pre20.length):=by rw [List.length_append,List.length_cons,List.length_nil];omega
    have r13:=RowAt.below dW22 r13.lt r13
    have r13:=st23.keep r13 (by omega)
    have r13o:=r13
    have r7:=RowAt.below dW22 r7.lt r7
    have r7:=st23.keep r7 (by omega)
    have r7o:=r7
    have hbe:=(hbe.below (dW22.mono (by omega))).below (st23.below _ (by omega))
    have hbeo:=hbe
    refine cx_only ?_
    refine cx_heldS (fun q=>Alt w23 q b18) (by kernel_rfl) (fun W24 eW24=>?_) fun W24 eW24=>?_
    ·exact Below.kept (below_drew _ _ eW24)
    have dW24:=below_drew _ _ eW24
    have zW24:=size_drew _ _ eW24
    clear eW24
    have al0:Alt w23 W24 b18:=Below.kept dW24
    refine hgs_take 0 (by rfl) Wn (by rfl) rfl (by decide) (by kernel_rfl) (by kernel_rfl) (by kernel_rfl) (fun _ _ _ h=>h) al0 (fun q hq=>Qo (v:=s12.v) (hq.row (show b13≠b18 by omega) r13o) rfl (by kernel_rfl) rfl rfl) ?_
    refine hgs_take 1 (by rfl) Wn (by rfl) rfl (by decide) (by kernel_rfl) (by kernel_rfl) (by kernel_rfl) (fun _ _ _ h=>h) al0 (fun q hq=>y_move rfl rfl) ?_
    refine hgs_take 2 (by rfl) Wn (by rfl) rfl (by decide) (by kernel_rfl) (by kernel_rfl) (by kernel_rfl) (fun _ _ _ h=>h) al0 (fun q hq=>Qo (v:=s6.v) (hq.row (show b7≠b18 by omega) r7o) rfl (by kernel_rfl) rfl rfl) ?_
    refine hgs_take 3 (by rfl) Wn (by rfl) rfl (by decide) (by kernel_rfl) (by kernel_rfl) (by kernel_rfl) (fun _ _ _ h=>h) al0 (fun q hq=>y_move rfl rfl) ?_
    refine hgs_take 4 (by rfl) Wn (by rfl) rfl (by decide) (by kernel_rfl) (by kernel_rfl) (by kernel_rfl) (fun _ _ _ h=>h) al0 (fun q hq=>y_ixT (i:=((forkL (trAs Ls) i).length-1-pre20.length)) (iI:=(((forkL (trAs Ls) i).length-1-pre20.length:Nat):Int)) (hbeo.belowN (Alt.below hq (by omega) (by omega))) (by omega) (by first | omega | (simp only [List.length_append,List.length_cons,List.length_nil];omega)) rfl rfl rfl) ?_
    refine hgs_take 5 (by rfl) Wn (by rfl) rfl (by decide) (by kernel_rfl) (by kernel_rfl) (by kernel_rfl) (fun _ _ _ h=>h) al0 (fun q hq=>y_ldT (i:=((forkL (trAs Ls) i).length-1-pre20.length)) (hbeo.belowN (Alt.below hq (by omega) (by omega))) (by first | omega | (simp only [List.length_append,List.length_cons,List.length_nil];omega)) rfl rfl) ?_
    have g23:=g23.below dW24
    have u:=Un u dW22
    have u:=u.trans (st23.below _ (by omega))
    have u:=Un u dW24
    refine hgs_one 6 (by rfl) (by kernel_rfl) Wn ?_
    refine Zc (gives_any ((g23.na (fun z=>z.1 rfl)).row.more (B':=W24.heap.size) (by omega)) htN (by rw [hln];exact hxn) (((forkL (trAs Ls) i).map Prod.snd).getD ((forkL (trAs Ls) i).length-1-pre20.length) 0) (Nat.le_refl _) (Tt.up u rg)) rfl rfl ?_
    rintro _ w25 ⟨r25,rfl,m25,f25,hw25⟩
    have zw25:=hw25.size
    have gl25:=gives_len ((planF (plan0 (trAs Ls) i) ((planZ (trAs Ls) i Ks).drop ((forkL (trAs Ls) i).length-pre20.length))).1.set ((((forkL (trAs Ls) i).map Prod.fst).getD ((forkL (trAs Ls) i).length-1-pre20.length) 0).toNat) (⟨2,Lf.zero,(⟨(Ks.getD ((forkL (trAs Ls) i).length-1-pre20.length) []),(planF (plan0 (trAs Ls) i) ((planZ (trAs Ls) i Ks).drop ((forkL (trAs Ls) i).length-pre20.length))).2,[]⟩:Pn)⟩:Nd)) (((forkL (trAs Ls) i).map Prod.fst).getD ((forkL (trAs Ls) i).length-1-pre20.length) 0) (((forkL (trAs Ls) i).map Prod.snd).getD ((forkL (trAs Ls) i).length-1-pre20.length) 0)
    have al0:=Alt.grow al0 hw25
    refine hgs_next al0 ?_
    refine hgs_one 7 (by rfl) (by kernel_rfl) Wn ?_
    have r18:=RowAt.below dW22 r18.lt r18
    have r18:=st23.keep r18 (by omega)
    have r18:=RowAt.below dW24 r18.lt r18
    have r18:=RowAt.below hw25 r18.lt r18
    have o26:=r18
    refine lg_sts r18 rfl rfl (by kernel_rfl) Wn rfl rfl rfl rfl fun w26 s26=>?_
    have r18:=s26.row
    have z26:=s26.size
    have al0:=al0.trans s26.alt
    refine hgs_next al0 ?_
    refine hgs_doneN (by kernel_rfl) ?_
    refine Qs ?_
    have m25:=m25.alt8 s26 o26 (by decide)
    have hr:=hr.call dW22
    have hr:=((hr.trans (Did.setb st23 hga hr.lt)).call dW24).call hw25
    have hr:=hr.trans (Did.setb s26 hgb hr.lt)
    have g23:=(g23.below hw25).alt s26.alt (fun z=>z.2.1 rfl) (by omega)
    exact fun a ha=>⟨fun k=>m20 k∨(v20.heap.size≤k∧k<w26.heap.size),hr.widen (fun k q=>q),.inl hga,.inl hgb,(g23.mono (fun k z=>⟨z.1,z.2.1,z.2.2.imp .inl id⟩)).cast (by rw [hle];exact hnew),_,r18,(by rw [hle,hps,planS_two];exact m25),fun p e=>by
     have z1:=f25 p e
     have z2:=m25.lt p e
     exact ⟨by omega,by omega,.inl (.inr ⟨by omega,by omega⟩)⟩⟩
   ·rintro D20 v20d m20 hz20 d20 nD20 hi20 hD20
    have hnm:∀ k,k≠ga→k≠b18→¬(k=ga∨k=b18):=fun k h2 h3 q=>q.elim h2 h3
    have low:=d20.kept.below (n0:=bc) (fun k hk=>hnm k (by omega) (by omega)) (by omega)
    have u:=u.trans (low.mono (by omega))
    have r13:=d20.kept.row (hnm _ (by omega) (by omega)) r13
    have zv20:=d20.kept.size
    obtain ⟨hga,hgb,go,q20,r18,hs,hia⟩:=hi20
    have qo:=go.len
    have gl:=go.lt
    have hfl:(forkL (trAs Ls) i).length-(backL ((forkL (trAs Ls) i).map Prod.fst)).length=0:=by rw [back_len,List.length_map];omega
    rw [hfl,List.drop_zero] at go hs
    have hKD20:=hD20
    refine Qs ?_
    refine Nxx [12,15] ?_
    refine cx_seq ?_
    refine cx_still (by kernel_rfl) (by kernel_rfl) fun W27 eW27=>?_
    have dW27:=below_drew _ _ eW27
    have zW27:=size_drew _ _ eW27
    clear eW27
    have r13:=RowAt.below dW27 r13.lt r13
    refine Zsa (Qo (v:=s12.v) r13 rfl (by kernel_rfl) rfl rfl) ?_
    have r18:=RowAt.below dW27 r18.lt r18
    refine Zsa (Qo (v:=q20.v) r18 rfl (by kernel_rfl) rfl rfl) ?_
    refine Zsa y_assign ?_
    refine Zsa y_assign ?_
    refine Zsa y_assign ?_
    refine sg_nil ?_
    refine Nxx [6,7,8] ?_
    refine cx_ret ?_
    have go:=go.below dW27
    have hs:=hs.below dW27
    obtain ⟨hp1,hp2⟩:=planP_ok hE
    have hcl:Kept (fun k=>k≠ga∧k≠b18∧(m20 k∨k<w19.heap.size)) W27 (W27.putObj D20 (.deferred none)):=Kept.putObj _ _ (fun z=>z.2.2.elim nD20 fun z=>by omega)
    have hcg:Kept (fun k=>k=ga∨(fun k=>k≠ga∧k≠b18∧(m20 k∨k<w19.heap.size)) k) W27 (W27.putObj D20 (.deferred none)):=Kept.putObj _ _ (fun z=>z.elim (fun z=>by omega) fun z=>z.2.2.elim nD20 fun z=>by omega)
    have hKD20:=(dW27.block _ (Array.getElem?_eq_some_iff.1 hKD20).1).trans hKD20
    have u:=Un u dW27
    exact xg_ret [D20] ⟨hKD20,trivial⟩ (res_tmp3 rfl rfl rfl rfl) ⟨_,rfl,_,_,congrArg (fun q=>Value.tuple #[_,_,nv q]) hE.symm,(by rw [hp1];exact ((go.kept hcg (fun _ z=>.inr z) (.inl rfl)).na (fun z=>z.1 rfl)).row),(by rw [hp2];exact (hs.inn hia hcl).1),(below_nc u (B:=D20) (by omega) (Nat.le_refl _) (put_grown _ D20 (.deferred none)) (fun r e=>by cases e;exact Nat.le_refl _))⟩
   rintro D20 c20 pre20 v20s m20 hz20 hp20 d20 nD20 hi20 hD20
   exact hi20.elim
  refine Za (yb (nd_t c11) yi_neq) ?_
  refine Qk ?_
  refine Nxx [0,1,5,6,7,8,10,9,11,40] ?_
  refine cx_ct rfl ?_
  refine cx_seq ?_
  refine Qq ?_
  refine ZM ?_
  refine ZA ?_
  refine ZA ?_
  refine ZA ?_
  refine Qk ?_
  refine Nxx [0,1,5,10,9,6,7,8] ?_
  refine cx_ret ?_
  refine xg_seq_ret ?_
  have hpe:planE (trAs Ls) i Ks=(keysE Ks):=(planE_keys hi0 hkl)
  obtain ⟨hp1,hp2⟩:=planP_no (a:=trAs Ls) (i:=i) (ks:=Ks) (fun q=>c11 (by rw [←planE_keys hi0 hkl];exact q))
  have u:=Un (Un u hw6) n7.below
  have u:=u.trans (s8.below _ (by omega))
  have u:=Un u hw10
  exact xg_ret [] trivial (res_tmp3 rfl rfl rfl rfl) ⟨_,rfl,nilS,nilS,congrArg (fun q=>Value.tuple #[_,_,nv q]) hpe.symm,(by rw [hp1];exact RwNd.nil _ _),(by rw [hp2];exact Sl.nil _ _),u⟩
 refine Za (yb (nd_t c9) yi_neq) ?_
 refine Qk ?_
 refine Nxx [0,1,5,6,7,8,10,9,36] ?_
 refine cx_ct rfl ?_
 refine cx_seq ?_
 refine Qq ?_
 refine ZA ?_
 refine ZA ?_
 refine ZA ?_
 refine Qk ?_
 refine Nxx [0,1,5,10,9,6,7,8] ?_
 refine cx_ret ?_
 refine xg_seq_ret ?_
 have hpe:planE (trAs Ls) i Ks=11:=(planE_path hi0 (fun q=>c9 (by rw [List.length_map];omega)))
 obtain ⟨hp1,hp2⟩:=planP_no (a:=trAs Ls) (i:=i) (ks:=Ks) (by rw [hpe];decide)
 have u:=Un (Un u hw6) n7.below
 have u:=u.trans (s8.below _ (by omega))
 exact xg_ret [] trivial (res_tmp3 rfl rfl rfl rfl) ⟨_,rfl,nilS,nilS,congrArg (fun q=>Value.tuple #[_,_,nv q]) hpe.symm,(by rw [hp1];exact RwNd.nil _ _),(by rw [hp2];exact Sl.nil _ _),u⟩
end Go.Proofs.YtfdmhdnlmndhdaaGreatDoor
