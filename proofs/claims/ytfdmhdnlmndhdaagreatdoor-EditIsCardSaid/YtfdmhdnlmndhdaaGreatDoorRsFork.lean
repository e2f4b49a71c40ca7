/-
  What the program tells of a way up.
-/
import Derived.Test.YtfdmhdnlmndhdaaGreatDoorKitG
import Derived.Test.YtfdmhdnlmndhdaaGreatDoorTrRef
namespace Go.Proofs.YtfdmhdnlmndhdaaGreatDoor
open Go.ChangeShapes Go.WideShapes Go.ChangeAt Go.RowKit
set_option linter.unusedVariables false

abbrev TF (B bx bt:Nat) (xs:List (Int × Int)) (w:World):Prop:=Tells Tryz.prog 161 #[pv bx 0,pv bt 0] (fun p:Int × Int=>#[nv p.1,nv p.2]) xs (depH B bx bt) w
theorem forks_is {Ls:List Nd} {i:Int} (h0:0≤i) (h1:i<(leavesA (trAs Ls):Int)):trIs Ls∧isN (2*i) (Ls.length:Int)∧i<64∧forkL (trAs Ls) i=forkF Ls (wayP Ls i):=by
 have tl:=trAs_le Ls
 have hlv:leavesA (trAs Ls)≤64:=by
  unfold leavesA
  omega
 have hti:trIs Ls:=Classical.byContradiction fun q=>by
  rw [trAs_no q] at h1
  have:leavesA ([]:List Nd)=0:=rfl
  omega
 have e:=trAs_ok hti
 have hl:leavesA (trAs Ls)=(Ls.length+1) / 2:=by rw [e,leavesA]
 have hw:=trIs_len hti
 exact ⟨hti,isN_of hti (by omega) (by omega),by omega,by rw [fork_yes ⟨h0,h1⟩,e]⟩
theorem forks_any {B:Nat} {Ls:List Nd} (s:SlV) (i:Int) (W:World) (h:RwNd W B s Ls):Calls Tryz.prog 130 #[s.v,nv i] W fun e W'=>∃ v,e=.returned v∧∃ bx bt,v=.func (.func 161) #[] #[pv bx 0,pv bt 0]∧RowAt W' bx 3 #[nv i]∧RowAt W' bt 22 #[s.v]∧W.heap.size≤bx∧W.heap.size≤bt∧Below W.heap.size W W':=by
 refine Qf (n:=6) Tryz.func130 rfl Tryz.ntmps130 (by simp) ?_
 show CG _ _ _ [(0,s.v),(1,nv i)] _ _
 have u:=Below.refl W.heap.size W
 refine Zr ?_
 refine lg_boxs rfl Wn rfl rfl rfl (by decide) fun b1 w1 n1=>?_
 have r1:=n1.row
 have k1:=n1.blk
 have z1:=n1.size
 have lt1:b1<w1.heap.size:=by omega
 refine lg_boxs rfl Wn rfl rfl rfl (by decide) fun b2 w2 n2=>?_
 have r2:=n2.row
 have k2:=n2.blk
 have z2:=n2.size
 have lt2:b2<w2.heap.size:=by omega
 refine ZAn [2,3,4] ?_
 refine Zr ?_
 refine Za (y_mkf (xs:=[]) (ys:=[.tmp 3,.tmp 2])) ?_
 refine ZAnr [4] ?_
 have r1:=n2.keep r1
 have u:=Un (Un u n1.below) n2.below
 exact Qa rfl rfl ⟨_,rfl,b2,b1,rfl,r2,r1,by omega,by omega,u⟩
theorem forks_tells (i:Int) (bx bt B:Nat) (s:SlV) (Ls:List Nd) (w0:World) (hB0:B≤w0.heap.size) (htab:1<B) (h00:RwNd w0 B s Ls) (rg0:Tb w0) (hx0:RowAt w0 bx 3 #[nv i]) (hb0:RowAt w0 bt 22 #[s.v]) :
  TF B bx bt (forkL (trAs Ls) i) w0:=by
 intro l J Jx W m0 hW hm0 hJa hJxa hY hJ
 refine callsIn_wide.2 ?_
 have hWB:=hW.below (n0:=B) (fun k hk=>.inl hk) hB0
 have hx:=hW.row (.inr (.inl rfl)) hx0
 have hb:=hW.row (.inr (.inr rfl)) hb0
 have h:=h00.below hWB
 have rg:=rg0.from hWB htab
 have lx:=hx.lt
 have lb:=hb.lt
 have zW:=hW.size
 have hd:Did m0 m0 W W:=Did.refl fun k q=>(hm0 k q).2
 show Calls _ _ ([.func (.yield l) #[] #[],pv bx 0,pv bt 0]:List Value).toArray W _
 refine calls_cx (n:=48) Tryz.func161 rfl Tryz.ntmps161 (by simp) (fun _ q=>by simp at q) ?_
 show CX none [] _ _ _ [(0,.func (.yield l) #[] #[]),(1,pv bx 0),(2,pv bt 0)] _ _
 refine cx_seq ?_
 refine cx_seq ?_
 refine cx_only ?_
 refine cx_held (by kernel_rfl) fun W1 eW1=>?_
 have dW1:=below_drew _ _ eW1
 have zW1:=size_drew _ _ eW1
 clear eW1
 have hx:=RowAt.below dW1 hx.lt hx
 refine Zh 0 (fun q hq=>Qo (v:=nv i) (RowAt.below hq hx.lt hx) rfl (by kernel_rfl) rfl rfl) ?_
 by_cases c2:i<0
 ·refine Zh 1 (fun q hq=>yb (dT c2) (yi_lss rfl rfl rfl)) ?_
  refine Zh 2 (fun q hq=>y_move rfl rfl) ?_
  refine hg_skip 3 (by rfl) (want_f (dj:=9) (by rfl) (by kernel_rfl) rfl) rfl (by decide) (by kernel_rfl) (by kernel_rfl) (by kernel_rfl) (fun _ _ _ h=>h) (Below.refl _ _) ?_
  refine hg_skip 4 (by rfl) (want_f (dj:=9) (by rfl) (by kernel_rfl) rfl) rfl (by decide) (by kernel_rfl) (by kernel_rfl) (by kernel_rfl) (fun _ _ _ h=>h) (Below.refl _ _) ?_
  refine hg_skip1 5 (Below.refl _ _) (by rfl) (want_f (dj:=9) (by rfl) (by kernel_rfl) rfl) rfl (by decide) (by kernel_rfl) ?_
  refine hg_skip 6 (by rfl) (want_f (dj:=9) (by rfl) (by kernel_rfl) rfl) rfl (by decide) (by kernel_rfl) (by kernel_rfl) (by kernel_rfl) (fun _ _ _ h=>h) (Below.refl _ _) ?_
  refine Zh 7 (fun q hq=>y_pick true rfl rfl rfl) ?_
  refine hg_doneN (by kernel_rfl) ?_
  refine Nxx [0,1,2,14] ?_
  refine cx_ct rfl ?_
  refine cx_ret ?_
  refine xg_seq_ret ?_
  have hxs:forkL (trAs Ls) i=[]:=fork_no (fun q=>by omega)
  have hd:=hd.call dW1
  have hJ:=hJa.call (by omega) hJ dW1
  obtain ⟨op,dd,kp⟩:=Marks.closed (Nat.le_refl _) (Marks.nil _ _ _) hd
  exact xg_ret [] op (res_none rfl) ⟨⟨_,rfl⟩,m0,dd,.inl (by rw [hxs];exact hJa _ _ _ _ (by omega) hJ kp)⟩
 refine Zh 1 (fun q hq=>yb (dF c2) (yi_lss rfl rfl rfl)) ?_
 refine Zh 2 (fun q hq=>y_move rfl rfl) ?_
 refine Zht 3 9 (fun q hq=>Qo (v:=nv i) (RowAt.below hq hx.lt hx) rfl (by kernel_rfl) rfl rfl) ?_
 have hb:=RowAt.below dW1 hb.lt hb
 refine Zht 4 9 (fun q hq=>Qo (v:=s.v) (RowAt.below hq hb.lt hb) rfl (by kernel_rfl) rfl rfl) ?_
 have h:=h.below (dW1.mono (by omega))
 refine Zot 5 9 ?_
 refine Zct 9 (leavesT_any (h.more (B':=W1.heap.size) (by omega)) (Nat.le_refl _)) rfl rfl ?_
 rintro _ w3 ⟨rfl,hw3⟩
 have zw3:=hw3.size
 refine hg_next hw3 ?_
 refine hg_up hw3 ?_
 by_cases c4:((leavesA (trAs Ls):Nat):Int)≤i
 ·refine Zht 6 9 (fun q hq=>yb (dT c4) (yi_geq rfl rfl rfl)) ?_
  refine Zh 7 (fun q hq=>y_pick false rfl rfl rfl) ?_
  refine hg_doneN (by kernel_rfl) ?_
  refine Nxx [0,1,2,14] ?_
  refine cx_ct rfl ?_
  refine cx_ret ?_
  refine xg_seq_ret ?_
  have hxs:forkL (trAs Ls) i=[]:=fork_no (fun q=>by omega)
  have hd:=(hd.call dW1).call hw3
  have hJ:=hJa.call (by omega) hJ dW1
  have hJ:=hJa.call (by omega) hJ hw3
  obtain ⟨op,dd,kp⟩:=Marks.closed (Nat.le_refl _) (Marks.nil _ _ _) hd
  exact xg_ret [] op (res_none rfl) ⟨⟨_,rfl⟩,m0,dd,.inl (by rw [hxs];exact hJa _ _ _ _ (by omega) hJ kp)⟩
 refine Zht 6 9 (fun q hq=>yb (dF c4) (yi_geq rfl rfl rfl)) ?_
 refine Zh 7 (fun q hq=>y_pick false rfl rfl rfl) ?_
 refine hg_doneN (by kernel_rfl) ?_
 refine Nxx [0,1,2,14] ?_
 refine cx_cf rfl ?_
 refine cx_skip ?_
 refine Nxx [0,1,2] ?_
 refine cx_seq ?_
 obtain ⟨hti,hN,hi64,hxs⟩:=forks_is (Ls:=Ls) (i:=i) (by omega) (by omega)
 obtain ⟨wl,cl⟩:=wayP_len hN
 refine Qq ?_
 have hx:=RowAt.below hw3 hx.lt hx
 refine Za (Qo (v:=nv i) hx rfl (by kernel_rfl) rfl rfl) ?_
 refine Za (yi_mul rfl rfl rfl (by omega) (by omega)) ?_
 have hb:=RowAt.below hw3 hb.lt hb
 refine Za (Qo (v:=s.v) hb rfl (by kernel_rfl) rfl rfl) ?_
 have h:=h.below (hw3.mono (by omega))
 refine Za (y_lenM (el:=50) h.len) ?_
 have rg:=(rg.up dW1).up hw3
 refine Zc (copathF (2*i) (Ls.length:Int) _ rg) rfl rfl ?_
 rintro _ w5 ⟨s5,rfl,m5,f5,hw5⟩
 have zw5:=hw5.size
 refine ZA ?_
 refine Qk ?_
 refine Nxx [0,1,2,4] ?_
 refine cx_seq ?_
 refine Qq ?_
 have hx:=RowAt.below hw5 hx.lt hx
 refine Za (Qo (v:=nv i) hx rfl (by kernel_rfl) rfl rfl) ?_
 refine Za (yi_mul rfl rfl rfl (by omega) (by omega)) ?_
 have hb:=RowAt.below hw5 hb.lt hb
 refine Za (Qo (v:=s.v) hb rfl (by kernel_rfl) rfl rfl) ?_
 have h:=h.below (hw5.mono (by omega))
 refine Za (y_lenM (el:=50) h.len) ?_
 have rg:=rg.up hw5
 refine Zc (directF (2*i) (Ls.length:Int) _ rg) rfl rfl ?_
 rintro _ w6 ⟨s6,rfl,m6,f6,hw6⟩
 have zw6:=hw6.size
 refine Za (y_lenM (el:=3) m6.len) ?_
 refine ZM ?_
 refine Qk ?_
 refine Nxx [0,2,4,24,25,26] ?_
 refine cx_block ?_
 have h:=h.below (hw6.mono (by omega))
 have hb:=RowAt.below hw6 hb.lt hb
 have rg:=rg.up hw6
 have hd:=(hd.call dW1).call hw3
 have hd:=(hd.call hw5).call hw6
 have hJ:=hJa.call (by omega) hJ dW1
 have hJ:=hJa.call (by omega) hJ hw3
 have hJ:=hJa.call (by omega) hJ hw5
 have hJ:=hJa.call (by omega) hJ hw6
 have m5:=m5.below (hw6.mono (by omega))
 have cF1:=f5
 have dF1:=f6
 have cM1:=m5
 have dM1:=m6
 have h1:=h
 have hb1:=hb
 have rg1:=rg
 have hd0:=hd
 have zw1:=hd0.kept.size
 have lb1:=hb1.lt
 have dl:=dirL (2*i) (Ls.length:Int)
 refine cx_loopE (fun t a v=>∃ (m:Nat→Prop),Holds 48 [(0,.func (.yield l) #[] #[]),(2,pv bt 0),(4,s5.v),(24,s6.v),(25,nv ((dirI (2*i) (Ls.length:Int)).length:Int)),(26,nv ((t:Nat):Int))] a∧Did m0 m w6 v∧J (forkF Ls ((wayP Ls i).take t)) m v∧t≤(dirI (2*i) (Ls.length:Int)).length) ((dirI (2*i) (Ls.length:Int)).length+1) (fun a ha=>⟨m0,ha.keep (fk rfl (fk rfl (fk rfl (fk rfl (fk rfl (fk rfl fn)))))),(Did.refl fun k q=>by have:=(hm0 k q).2;omega),hJ,(Nat.zero_le _)⟩) ?_
 rintro t a v ht ⟨m,ha,hd1,hJ,htl⟩
 refine cx_at ha ?_
 clear ha a
 have low:=hd1.kept.below (n0:=B) (fun k hk q=>(hm0 k q).1 (.inl hk)) (by omega)
 have h:=h1.below low
 have hb:=hd1.kept.row (fun q=>(hm0 _ q).1 (.inr (.inr rfl))) hb1
 have rg:=rg1.from low htab
 have hd:=hd0.trans hd1
 have zv:=hd1.kept.size
 have lb:=hb.lt
 have cM:=cM1.kept hd1.kept (fun p e _ q=>by have:=cF1 p e;have:=(hm0 _ q).2;omega) (by omega)
 have dM:=dM1.kept hd1.kept (fun p e _ q=>by have:=dF1 p e;have:=(hm0 _ q).2;omega) (by omega)
 have qc:=cM.len
 have qd:=dM.len
 refine cx_seq ?_
 refine Qq ?_
 by_cases c7:((t:Nat):Int)<((dirI (2*i) (Ls.length:Int)).length:Int)
 ·refine Za (yb (dT c7) yi_lss) ?_
  refine Qk ?_
  refine Nxx [0,2,4,24,25,26,27] ?_
  refine cx_seq ?_
  refine cx_ct rfl ?_
  refine cx_skip ?_
  refine Nxx [0,2,4,24,25,26] ?_
  refine cx_seq ?_
  refine cx_block ?_
  refine cx_seq ?_
  have htlt:t<(dirI (2*i) (Ls.length:Int)).length:=by omega
  refine Qq ?_
  refine ZM ?_
  refine Za (y_ixT (i:=t) (iI:=((t:Nat):Int)) dM (by omega) (by first | omega | (simp only [List.length_append,List.length_cons,List.length_nil];omega)) rfl rfl rfl) ?_
  refine Za (y_ldT (i:=t) dM (by first | omega | (simp only [List.length_append,List.length_cons,List.length_nil];omega)) rfl rfl) ?_
  refine ZA ?_
  refine ZA ?_
  refine Qk ?_
  refine Nxx [0,2,4,24,25,26,5,6] ?_
  refine cx_seq ?_
  refine cx_anyx (by kernel_rfl) fun W8 eW8=>?_
  have dW8:=below_drew _ _ eW8
  have zW8:=size_drew _ _ eW8
  clear eW8
  refine hx_take 1 (by rfl) Wn (by rfl) (by rfl) rfl (by decide) (by kernel_rfl) (by kernel_rfl) (by kernel_rfl) (fun _ _ _ h=>h) (fun _=>y_move rfl rfl) ?_
  refine hx_take 2 (by rfl) Wn (by rfl) (by rfl) rfl (by decide) (by kernel_rfl) (by kernel_rfl) (by kernel_rfl) (fun _ _ _ h=>h) (fun _=>y_move rfl rfl) ?_
  have h:=h.below (dW8.mono (by omega))
  have hb:=RowAt.below dW8 hb.lt hb
  have cM:=cM.below (dW8.mono (by omega))
  have dM:=dM.below (dW8.mono (by omega))
  have rg:=rg.up dW8
  have hd:=hd.call dW8
  have hJ:=hJa.call (by omega) hJ dW8
  have hd1:=hd1.call dW8
  refine hx_join 11 #[true,true,true,true,true,false,false,false,false,false,false,false,false,false,false,false] [(31,s.v),(35,nv ((copI (2*i) (Ls.length:Int)).getD t 0)),(0,.func (.yield l) #[] #[]),(2,pv bt 0),(4,s5.v),(24,s6.v),(25,nv ((dirI (2*i) (Ls.length:Int)).length:Int)),(26,nv ((t:Nat):Int)),(5,nv ((t:Nat):Int)),(6,nv ((dirI (2*i) (Ls.length:Int)).getD t 0))] ?_ fun key=>?_
  ·by_cases c9:hiL Ls ((copI (2*i) (Ls.length:Int)).getD t 0)≠[]
   ·refine hx_one 5 (by rfl) (by kernel_rfl) Wn (by rfl) fun hq=>?_
    refine Zc (somebody_any (h.more (B':=W8.heap.size) (by omega)) ((copI (2*i) (Ls.length:Int)).getD t 0) (Nat.le_refl _) rg) rfl rfl ?_
    rintro u9 w9 ⟨e9,hw9⟩
    obtain rfl:u9=.bool true:=e9.trans (congrArg Value.bool (decide_eq_true c9))
    have zw9:=hw9.size
    refine hx_next hq ?_
    refine hx_take 6 (by rfl) Wn (by rfl) (by rfl) rfl (by decide) (by kernel_rfl) (by kernel_rfl) (by kernel_rfl) (fun _ _ _ h=>h) (fun _=>y_move rfl rfl) ?_
    refine hx_take 7 (by rfl) (want_t (dj:=37) (by rfl) (by kernel_rfl) rfl) (by rfl) (by rfl) rfl (by decide) (by kernel_rfl) (by kernel_rfl) (by kernel_rfl) (fun _ _ _ h=>h) (fun _=>y_move rfl rfl) ?_
    refine hx_take 8 (by rfl) (want_t (dj:=37) (by rfl) (by kernel_rfl) rfl) (by rfl) (by rfl) rfl (by decide) (by kernel_rfl) (by kernel_rfl) (by kernel_rfl) (fun _ _ _ h=>h) (fun _=>y_move rfl rfl) ?_
    refine hx_take 9 (by rfl) (want_t (dj:=37) (by rfl) (by kernel_rfl) rfl) (by rfl) (by rfl) rfl (by decide) (by kernel_rfl) (by kernel_rfl) (by kernel_rfl) (fun _ _ _ h=>h) (fun _=>y_move rfl rfl) ?_
    refine hx_take 10 (by rfl) (want_t (dj:=37) (by rfl) (by kernel_rfl) rfl) (by rfl) (by rfl) rfl (by decide) (by kernel_rfl) (by kernel_rfl) (by kernel_rfl) (fun _ _ _ h=>h) (fun _=>y_move rfl rfl) ?_
    have h:=h.below (hw9.mono (by omega))
    have hb:=RowAt.below hw9 hb.lt hb
    have cM:=cM.below (hw9.mono (by omega))
    have dM:=dM.below (hw9.mono (by omega))
    have rg:=rg.up hw9
    have hd:=hd.call hw9
    have hJ:=hJa.call (by omega) hJ hw9
    have hd1:=hd1.call hw9
    refine hx_one 11 (by rfl) (by kernel_rfl) (want_t (dj:=37) (by rfl) (by kernel_rfl) rfl) (by rfl) fun hq=>?_
    refine Zt 37 (y_ixT (i:=t) (iI:=((t:Nat):Int)) cM rfl (by omega) rfl rfl rfl) ?_
    refine hx_next hq ?_
    refine hx_one 12 (by rfl) (by kernel_rfl) (want_t (dj:=37) (by rfl) (by kernel_rfl) rfl) (by rfl) fun hq=>?_
    refine Zt 37 (y_ldT (i:=t) cM (by omega) rfl rfl) ?_
    refine hx_next hq ?_
    refine hx_onex 13 (by rfl) (by kernel_rfl) (want_t (dj:=37) (by rfl) (by kernel_rfl) rfl) ?_
    have hpre:forkF Ls ((wayP Ls i).take t)++[(((dirI (2*i) (Ls.length:Int)).getD t 0),((copI (2*i) (Ls.length:Int)).getD t 0))] <+: forkF Ls (wayP Ls i):=by
     rw [←forkF_yes (a:=Ls) (l:=(wayP Ls i).take t) (p:=(((dirI (2*i) (Ls.length:Int)).getD t 0),((copI (2*i) (Ls.length:Int)).getD t 0))) c9,←wayP_at hN htlt]
     exact forkF_pre _ _ _
    refine lx_yields (want_t (dj:=37) (by rfl) (by kernel_rfl) rfl) (hY (forkF Ls ((wayP Ls i).take t)) (((dirI (2*i) (Ls.length:Int)).getD t 0),((copI (2*i) (Ls.length:Int)).getD t 0)) w9 m hd hJ (by rw [hxs];exact hpre)) rfl rfl rfl rfl (by decide) ?_ ?_
    ·rintro w10 ⟨m10,j10,g10⟩
     have hd:=hd.trans j10
     have hd1:=hd1.trans j10
     have zy10:=j10.kept.size
     have hJ:=g10
     refine hx_nextx ?_
     refine hx_take 14 (by rfl) (want_t (dj:=37) (by rfl) (by kernel_rfl) rfl) (by rfl) (by rfl) rfl (by decide) (by kernel_rfl) (by kernel_rfl) (by kernel_rfl) (fun _ _ _ h=>h) (fun _=>y_bnot rfl rfl) ?_
     refine hx_take 15 (by rfl) Wn (by rfl) (by rfl) rfl (by decide) (by kernel_rfl) (by kernel_rfl) (by kernel_rfl) (fun _ _ _ h=>h) (fun _=>y_pick true rfl rfl rfl) ?_
     refine hx_doneN (by kernel_rfl) ?_
     refine Nxx [0,2,4,24,25,26,46] ?_
     refine cx_cf rfl ?_
     refine cx_skip ?_
     refine Qs ?_
     refine Nxx [0,2,4,24,25,26] ?_
     refine Qq ?_
     refine Za (yv (congrArg nv (show ((t:Nat):Int)+1=((t+1:Nat):Int) by omega)) (yi_add rfl rfl rfl (by omega) (by omega))) ?_
     refine ZM ?_
     refine Qk ?_
     have hst:forkF Ls ((wayP Ls i).take (t+1))=forkF Ls ((wayP Ls i).take t)++[(((dirI (2*i) (Ls.length:Int)).getD t 0),((copI (2*i) (Ls.length:Int)).getD t 0))]:=by rw [wayP_at hN htlt,forkF_yes c9]
     exact fun a ha=>(show t<((dirI (2*i) (Ls.length:Int)).length+1)∧_ from ⟨(by omega),a,rfl,m10,ha.keep (fk rfl (fk rfl (fk rfl (fk rfl (fk rfl (fk rfl fn)))))),hd1,(by rw [hst];exact hJ),(by omega)⟩)
    rintro w10 ⟨m10,j10,g10⟩
    have hd:=hd.trans j10
    have hd1:=hd1.trans j10
    have zy10:=j10.kept.size
    have hJx:=g10
    refine hx_nextx ?_
    refine hx_take 14 (by rfl) (want_t (dj:=37) (by rfl) (by kernel_rfl) rfl) (by rfl) (by rfl) rfl (by decide) (by kernel_rfl) (by kernel_rfl) (by kernel_rfl) (fun _ _ _ h=>h) (fun _=>y_bnot rfl rfl) ?_
    refine hx_take 15 (by rfl) Wn (by rfl) (by rfl) rfl (by decide) (by kernel_rfl) (by kernel_rfl) (by kernel_rfl) (fun _ _ _ h=>h) (fun _=>y_pick true rfl rfl rfl) ?_
    refine hx_doneN (by kernel_rfl) ?_
    refine Nxx [0,2,4,24,25,26,46] ?_
    refine cx_ct rfl ?_
    refine cx_ret ?_
    refine xg_block_ret ?_
    refine xg_seq_ret ?_
    refine xg_seq_ret ?_
    refine xg_block_ret ?_
    obtain ⟨op,dd,kp⟩:=Marks.closed (Nat.le_refl _) (Marks.nil _ _ _) hd
    exact xg_ret [] op (res_none rfl) ⟨⟨_,rfl⟩,m10,dd,.inr ⟨_,(by rw [hxs];exact hpre),hJxa _ _ _ _ (by omega) hJx kp⟩⟩
   refine hx_one 5 (by rfl) (by kernel_rfl) Wn (by rfl) fun hq=>?_
   refine Zc (somebody_any (h.more (B':=W8.heap.size) (by omega)) ((copI (2*i) (Ls.length:Int)).getD t 0) (Nat.le_refl _) rg) rfl rfl ?_
   rintro u9 w9 ⟨e9,hw9⟩
   obtain rfl:u9=.bool false:=e9.trans (congrArg Value.bool (decide_eq_false c9))
   have zw9:=hw9.size
   refine hx_next hq ?_
   refine hx_take 6 (by rfl) Wn (by rfl) (by rfl) rfl (by decide) (by kernel_rfl) (by kernel_rfl) (by kernel_rfl) (fun _ _ _ h=>h) (fun _=>y_move rfl rfl) ?_
   refine hx_skip 7 (by rfl) (want_f (dj:=37) (by rfl) (by kernel_rfl) rfl) (by rfl) rfl (by decide) (by kernel_rfl) (by kernel_rfl) (by kernel_rfl) (fun _ _ _ h=>h) ?_
   refine hx_skip 8 (by rfl) (want_f (dj:=37) (by rfl) (by kernel_rfl) rfl) (by rfl) rfl (by decide) (by kernel_rfl) (by kernel_rfl) (by kernel_rfl) (fun _ _ _ h=>h) ?_
   refine hx_skip 9 (by rfl) (want_f (dj:=37) (by rfl) (by kernel_rfl) rfl) (by rfl) rfl (by decide) (by kernel_rfl) (by kernel_rfl) (by kernel_rfl) (fun _ _ _ h=>h) ?_
   refine hx_skip 10 (by rfl) (want_f (dj:=37) (by rfl) (by kernel_rfl) rfl) (by rfl) rfl (by decide) (by kernel_rfl) (by kernel_rfl) (by kernel_rfl) (fun _ _ _ h=>h) ?_
   refine hx_skip 11 (by rfl) (want_f (dj:=37) (by rfl) (by kernel_rfl) rfl) (by rfl) rfl (by decide) (by kernel_rfl) (by kernel_rfl) (by kernel_rfl) (fun _ _ _ h=>h) ?_
   refine hx_skip 12 (by rfl) (want_f (dj:=37) (by rfl) (by kernel_rfl) rfl) (by rfl) rfl (by decide) (by kernel_rfl) (by kernel_rfl) (by kernel_rfl) (fun _ _ _ h=>h) ?_
   refine hx_skip1 13 (by rfl) (want_f (dj:=37) (by rfl) (by kernel_rfl) rfl) rfl (by decide) (by kernel_rfl) ?_
   refine hx_skip 14 (by rfl) (want_f (dj:=37) (by rfl) (by kernel_rfl) rfl) (by rfl) rfl (by decide) (by kernel_rfl) (by kernel_rfl) (by kernel_rfl) (fun _ _ _ h=>h) ?_
   refine hx_take 15 (by rfl) Wn (by rfl) (by rfl) rfl (by decide) (by kernel_rfl) (by kernel_rfl) (by kernel_rfl) (fun _ _ _ h=>h) (fun _=>y_pick false rfl rfl rfl) ?_
   refine hx_doneN (by kernel_rfl) ?_
   refine Nxx [0,2,4,24,25,26,46] ?_
   refine cx_cf rfl ?_
   refine cx_skip ?_
   refine Qs ?_
   refine Nxx [0,2,4,24,25,26] ?_
   refine Qq ?_
   refine Za (yv (congrArg nv (show ((t:Nat):Int)+1=((t+1:Nat):Int) by omega)) (yi_add rfl rfl rfl (by omega) (by omega))) ?_
   refine ZM ?_
   refine Qk ?_
   have hst:forkF Ls ((wayP Ls i).take (t+1))=forkF Ls ((wayP Ls i).take t):=by rw [wayP_at hN htlt,forkF_no c9]
   have hJ:=hJa.call (by omega) hJ hw9
   have hd1:=hd1.call hw9
   exact fun a ha=>(show t<((dirI (2*i) (Ls.length:Int)).length+1)∧_ from ⟨(by omega),a,rfl,m,ha.keep (fk rfl (fk rfl (fk rfl (fk rfl (fk rfl (fk rfl fn)))))),hd1,(by rw [hst];exact hJ),(by omega)⟩)
  refine hx_two 0 3 (by rfl) (by rfl) (by kernel_rfl) Wn Wn (by rfl) (by rfl) (fun hq=>?_) (fun hq=>?_)
  ·refine Za (Qo (v:=s.v) hb rfl (by kernel_rfl) rfl rfl) ?_
   refine hx_next hq ?_
   refine hx_one 3 (by rfl) (by kernel_rfl) Wn (by rfl) fun hq=>?_
   refine Za (y_ixT (i:=t) (iI:=((t:Nat):Int)) cM rfl (by omega) rfl rfl rfl) ?_
   refine hx_next hq ?_
   refine hx_one 4 (by rfl) (by kernel_rfl) Wn (by rfl) fun hq=>?_
   refine Za (y_ldT (i:=t) cM (by omega) rfl rfl) ?_
   refine hx_next hq ?_
   exact hx_met (by kernel_rfl) (fk rfl (fk rfl (fk rfl (fk rfl (fk rfl (fk rfl (fk rfl (fk rfl (fk rfl (fk rfl fn)))))))))) key
  refine Za (y_ixT (i:=t) (iI:=((t:Nat):Int)) cM rfl (by omega) rfl rfl rfl) ?_
  refine hx_next hq ?_
  refine hx_two 0 4 (by rfl) (by rfl) (by kernel_rfl) Wn Wn (by rfl) (by rfl) (fun hq=>?_) (fun hq=>?_)
  ·refine Za (Qo (v:=s.v) hb rfl (by kernel_rfl) rfl rfl) ?_
   refine hx_next hq ?_
   refine hx_one 4 (by rfl) (by kernel_rfl) Wn (by rfl) fun hq=>?_
   refine Za (y_ldT (i:=t) cM (by omega) rfl rfl) ?_
   refine hx_next hq ?_
   exact hx_met (by kernel_rfl) (fk rfl (fk rfl (fk rfl (fk rfl (fk rfl (fk rfl (fk rfl (fk rfl (fk rfl (fk rfl fn)))))))))) key
  refine Za (y_ldT (i:=t) cM (by omega) rfl rfl) ?_
  refine hx_next hq ?_
  refine hx_one 0 (by rfl) (by kernel_rfl) Wn (by rfl) fun hq=>?_
  refine Za (Qo (v:=s.v) hb rfl (by kernel_rfl) rfl rfl) ?_
  refine hx_next hq ?_
  exact hx_met (by kernel_rfl) (fk rfl (fk rfl (fk rfl (fk rfl (fk rfl (fk rfl (fk rfl (fk rfl (fk rfl (fk rfl fn)))))))))) key
 refine Za (yb (dF c7) yi_lss) ?_
 refine Qk ?_
 refine Nxx [0,2,4,24,25,26,27] ?_
 refine cx_seq ?_
 refine cx_cf rfl ?_
 refine cx_exit ?_
 refine xg_seq_exit ?_
 refine xg_seq_exit ?_
 refine xg_block_exit ?_
 obtain rfl:t=(dirI (2*i) (Ls.length:Int)).length:=by omega
 have hJ:J (forkL (trAs Ls) i) m v:=by rw [hxs];have:=hJ;rwa [List.take_of_length_le (by rw [wl];exact Nat.le_refl _)] at this
 obtain ⟨op,dd,kp⟩:=Marks.closed (Nat.le_refl _) (Marks.nil _ _ _) hd
 exact xg_end [] op (res_none rfl) ⟨⟨_,rfl⟩,m,dd,.inl (hJa _ _ _ _ (by omega) hJ kp)⟩
end Go.Proofs.YtfdmhdnlmndhdaaGreatDoor
