/-
  KitC: RsFork, RsFil, RsRef, ChMath, ChFacts, ChWk, ChProg, ChRef, ChRefP, ChBack, ChPlan.
-/
import Derived.Test.YtjjdcnkbibkmkaaGreatDoorKitD
import Derived.Test.YtjjdcnkbibkmkaaGreatDoorKitL
import Derived.Scope
namespace Go.Proofs.YtjjdcnkbibkmkaaGreatDoor
open Go.Proofs.Tryz
open Go.ChangeShapes Go.WideShapes Go.ChangeAt Go.RowKit
set_option linter.unusedVariables false
variable {B:Nat} {Ls t:List Nd} {W:World}

/- RsFork:
  What the program tells of a way up.
-/
abbrev TF (B bx bt:Nat) (xs:List (Int × Int)) (w:World):Prop:=Tells prog 237 #[pv bx 0,pv bt 0] (fun p:Int × Int=>#[nv p.1,nv p.2]) xs (depH B bx bt) w
theorem forks_is {Ls:List Nd} {i:Int} (h0:0<=i) (h1:i<(leavesA (trAs Ls):Int)):trIs Ls/\isN (2*i) (Ls.length:Int)/\i<64/\forkL (trAs Ls) i=forkF Ls (wayP Ls i):=by
 have tl:=trAs_le Ls;have hlv:leavesA (trAs Ls)<=64:=by
  unfold leavesA;omega
 have hti:trIs Ls:=Classical.byContradiction fun q=>by
  rw [trAs_no q] at h1;have:leavesA ([]:List Nd)=0:=rfl;omega
 have e:=trAs_ok hti;have hl:leavesA (trAs Ls)=(Ls.length+1) / 2:=by rw [e,leavesA]
 have hw:=trIs_len hti;exact ⟨hti,isN_of hti (by omega) (by omega),by omega,by rw [fork_yes ⟨h0,h1⟩,e]⟩
theorem forks_any [Lo] {B:Nat} {Ls:List Nd} (s:SlV) (i:Int) (W:World) (h:RwNd W B s Ls):Calls prog 194 #[s.v,nv i] W fun e W'=>∃ v,e=.returned v/\∃ bx bt,v=.func (.func 237) #[] #[pv bx 0,pv bt 0]/\RowAt W' bx 3 #[nv i]/\RowAt W' bt 22 #[s.v]/\W.heap.size<=bx/\W.heap.size<=bt/\Bw W W':=by
 refine Ze func194 ntmps194 ?_;have u:=Br W;refine Zr<|lg_boxs rfl Wn rfl rfl rfl (by decide) fun b1 w1 n1=>?_
 have ⟨r1,k1,z1,lt1⟩:=n1.f;refine lg_boxs rfl Wn rfl rfl rfl (by decide) fun b2 w2 n2=>?_;have ⟨r2,k2,z2,lt2⟩:=n2.f;refine ZAn [2,3,4] ?_;refine Zr<|Za (y_mkf (xs:=[]) (ys:=[.tmp 3,.tmp 2])) ?_
 refine ZAnr [4] ?_;exact Qa rfl rfl ⟨_,rfl,b2,b1,rfl,r2,n2.keep r1,by omega,by omega,Un (Un u n1.below) n2.below⟩
theorem forks_tells [Lo] (i:Int) (bx bt B:Nat) (s:SlV) (Ls:List Nd) (w0:World) (hB0:B<=w0.heap.size) (htab:1<B) (h00:RwNd w0 B s Ls) (rg0:Tb w0) (hx0:RowAt w0 bx 3 #[nv i]) (hb0:RowAt w0 bt 22 #[s.v]) :
  TF B bx bt (forkL (trAs Ls) i) w0:=by
 intro l J Jx W m0 hW hm0 hJa hJxa hY hJ;refine callsIn_wide.2 ?_;have hWB:=hW.below (n0:=B) (fun k hk=>.inl hk) hB0;have hx:=hW.row (.inr (.inl rfl)) hx0;have hb:=hW.row (.inr (.inr rfl)) hb0;have h:=h00.below hWB;have rg:=rg0.from hWB htab;have lx:=hx.lt;have lb:=hb.lt;have zW:=hW.size;have hd:Did m0 m0 W W:=Did.refl fun k q=>(hm0 k q).2;show Calls _ _ ([.func (.yield l) #[] #[],pv bx 0,pv bt 0]:List Value).toArray W _;refine calls_cx (n:=48) func237 rfl ntmps237 (by simp) (fun _ q=>by simp at q) ?_;show CX none [] _ _ _ [(0,.func (.yield l) #[] #[]),(1,pv bx 0),(2,pv bt 0)] _ _;refine cx_seq<|cx_seq<|cx_only ?_
 refine cx_held (by kernel_rfl) fun W1 eW1=>?_;have dW1:=below_drew _ _ eW1;have zW1:=size_drew _ _ eW1;clear eW1;have hx:=Rb dW1 hx;refine Zh 0 (fun q hq=>Qo (v:=nv i) (Rb hq hx) rfl (by kernel_rfl) rfl rfl) ?_;by_cases c2:i<0
 ·refine Zh 1 (fun q hq=>yb (dT c2) (yi_lss rfl rfl rfl)) ?_;refine Zh 2 (fun q hq=>y_move rfl rfl) ?_;refine hg_skip 3 (by rfl) (want_f (dj:=9) (by rfl) (by kernel_rfl) rfl) rfl (by decide) (by kernel_rfl) (by kernel_rfl) (by kernel_rfl) (fun _ _ _ h=>h) (Below.refl _ _) ?_;refine hg_skip 4 (by rfl) (want_f (dj:=9) (by rfl) (by kernel_rfl) rfl) rfl (by decide) (by kernel_rfl) (by kernel_rfl) (by kernel_rfl) (fun _ _ _ h=>h) (Below.refl _ _) ?_;refine hg_skip1 5 (Below.refl _ _) (by rfl) (want_f (dj:=9) (by rfl) (by kernel_rfl) rfl) rfl (by decide) (by kernel_rfl) ?_;refine hg_skip 6 (by rfl) (want_f (dj:=9) (by rfl) (by kernel_rfl) rfl) rfl (by decide) (by kernel_rfl) (by kernel_rfl) (by kernel_rfl) (fun _ _ _ h=>h) (Below.refl _ _) ?_;refine Zh 7 (fun q hq=>y_pick true rfl rfl rfl) ?_;refine hg_doneN (by kernel_rfl) ?_;refine Nxx [0,1,2,14] ?_;refine cx_ct rfl<|cx_ret<|xg_seq_ret ?_
  have hxs:forkL (trAs Ls) i=[]:=fork_no (fun q=>by omega);have hd:=hd.call dW1;have hJ:=hJa.call (by omega) hJ dW1;obtain ⟨op,dd,kp⟩:=Marks.closed Lr (Marks.nil _ _ _) hd;exact xg_ret [] op (res_none rfl) ⟨⟨_,rfl⟩,m0,dd,.inl (by rw [hxs];exact hJa _ _ _ _ (by omega) hJ kp)⟩
 refine Zh 1 (fun q hq=>yb (dF c2) (yi_lss rfl rfl rfl)) ?_;refine Zh 2 (fun q hq=>y_move rfl rfl) ?_;refine Zht 3 9 (fun q hq=>Qo (v:=nv i) (Rb hq hx) rfl (by kernel_rfl) rfl rfl) ?_;have hb:=Rb dW1 hb;refine Zht 4 9 (fun q hq=>Qo (v:=s.v) (Rb hq hb) rfl (by kernel_rfl) rfl rfl) ?_;have h:=h.below (Bm dW1);refine Zot 5 9 ?_;refine Zdt 9 (leavesT_any (h.mW W1) Lr) ?_;rintro _ w3 ⟨rfl,hw3⟩;have zw3:=hw3.size;refine hg_next hw3 ?_;refine hg_up hw3 ?_;by_cases c4:((leavesA (trAs Ls):Nat):Int)<=i
 ·refine Zht 6 9 (fun q hq=>yb (dT c4) (yi_geq rfl rfl rfl)) ?_;refine Zh 7 (fun q hq=>y_pick false rfl rfl rfl) ?_;refine hg_doneN (by kernel_rfl) ?_;refine Nxx [0,1,2,14] ?_;refine cx_ct rfl<|cx_ret<|xg_seq_ret ?_
  have hxs:forkL (trAs Ls) i=[]:=fork_no (fun q=>by omega);have hd:=(hd.call dW1).call hw3;have hJ:=hJa.call (by omega) hJ dW1;have hJ:=hJa.call (by omega) hJ hw3;obtain ⟨op,dd,kp⟩:=Marks.closed Lr (Marks.nil _ _ _) hd;exact xg_ret [] op (res_none rfl) ⟨⟨_,rfl⟩,m0,dd,.inl (by rw [hxs];exact hJa _ _ _ _ (by omega) hJ kp)⟩
 refine Zht 6 9 (fun q hq=>yb (dF c4) (yi_geq rfl rfl rfl)) ?_;refine Zh 7 (fun q hq=>y_pick false rfl rfl rfl) ?_;refine hg_doneN (by kernel_rfl) ?_;refine Nxx [0,1,2,14] ?_;refine cx_cf rfl<|cx_skip<|Nxx [0,1,2] ?_
 refine cx_seq ?_;obtain ⟨hti,hN,hi64,hxs⟩:=forks_is (Ls:=Ls) (i:=i) (by omega) (by omega);obtain ⟨wl,cl⟩:=wayP_len hN;refine Qq ?_;have hx:=Rb hw3 hx;refine Zv (nv i) hx ?_;refine Za (yi_mul rfl rfl rfl (by omega) (by omega)) ?_;have hb:=Rb hw3 hb;refine Zv s.v hb ?_;have h:=h.below (Bm hw3);refine Za (y_lenM (el:=81) h.len) ?_;have rg:=(rg.up dW1).up hw3;refine Zd (copathF (2*i) (Ls.length:Int) _ rg) ?_;rintro _ w5 ⟨s5,rfl,m5,f5,hw5⟩;have zw5:=hw5.size;refine ZA ?_;refine Qk<|Nxx [0,1,2,4] ?_
 refine cx_seq<|Qq ?_
 have hx:=Rb hw5 hx;refine Zv (nv i) hx ?_;refine Za (yi_mul rfl rfl rfl (by omega) (by omega)) ?_;have hb:=Rb hw5 hb;refine Zv s.v hb ?_;have h:=h.below (Bm hw5);refine Za (y_lenM (el:=81) h.len) ?_;have rg:=rg.up hw5;refine Zd (directF (2*i) (Ls.length:Int) _ rg) ?_;rintro _ w6 ⟨s6,rfl,m6,f6,hw6⟩;have zw6:=hw6.size;refine Za (y_lenM (el:=3) m6.len) ?_;refine ZM ?_;refine Qk<|Nxx [0,2,4,24,25,26] ?_
 refine cx_block ?_;have h:=h.below (Bm hw6);have hb:=Rb hw6 hb;have rg:=rg.up hw6;have hd:=(hd.call dW1).call hw3;have hd:=(hd.call hw5).call hw6;have hJ:=hJa.call (by omega) hJ dW1;have hJ:=hJa.call (by omega) hJ hw3;have hJ:=hJa.call (by omega) hJ hw5;have hJ:=hJa.call (by omega) hJ hw6;have m5:=m5.below (Bm hw6);have cF1:=f5;have dF1:=f6;have cM1:=m5;have dM1:=m6;have h1:=h;have hb1:=hb;have rg1:=rg;have hd0:=hd;have zw1:=hd0.kept.size;have lb1:=hb1.lt;have dl:=dirL (2*i) (Ls.length:Int);refine cx_loopE (fun t a v=>∃ (m:Nat->Prop),Holds 48 [(0,.func (.yield l) #[] #[]),(2,pv bt 0),(4,s5.v),(24,s6.v),(25,nv ((dirI (2*i) (Ls.length:Int)).length:Int)),(26,nv ((t:Nat):Int))] a/\Did m0 m w6 v/\J (forkF Ls ((wayP Ls i).take t)) m v/\t<=(dirI (2*i) (Ls.length:Int)).length) ((dirI (2*i) (Ls.length:Int)).length+1) (fun a ha=>⟨m0,ha.keep kz,(Did.refl fun k q=>by have:=(hm0 k q).2;omega),hJ,(Nat.zero_le _)⟩) ?_;rintro t a v ht ⟨m,ha,hd1,hJ,htl⟩;refine cx_at ha ?_;clear ha a;have low:=hd1.kept.below (n0:=B) (fun k hk q=>(hm0 k q).1 (.inl hk)) (by omega);have h:=h1.below low;have hb:=hd1.kept.row (fun q=>(hm0 _ q).1 (.inr (.inr rfl))) hb1;have rg:=rg1.from low htab;have hd:=hd0.trans hd1;have zv:=hd1.kept.size;have lb:=hb.lt;have cM:=cM1.kept hd1.kept (fun p e _ q=>by have:=cF1 p e;have:=(hm0 _ q).2;omega) (by omega);have dM:=dM1.kept hd1.kept (fun p e _ q=>by have:=dF1 p e;have:=(hm0 _ q).2;omega) (by omega);have qc:=cM.len;have qd:=dM.len;refine cx_seq<|Qq ?_
 refine Zi yi_lss (fun c7=>?_) fun c7=>?_
 ·refine Qk<|Nxx [0,2,4,24,25,26,27] ?_
  refine cx_seq<|cx_ct rfl<|cx_skip<|Nxx [0,2,4,24,25,26] ?_
  refine cx_seq<|cx_block<|cx_seq ?_
  have htlt:t<(dirI (2*i) (Ls.length:Int)).length:=by omega
  refine Qq<|ZM ?_
  refine Za (y_ixT (i:=t) (iI:=((t:Nat):Int)) dM (by omega) (by omega) rfl rfl rfl) ?_;refine Za (y_ldT (i:=t) dM (by omega) rfl rfl) ?_;refine Xa 2 ?_;refine Qk<|Nxx [0,2,4,24,25,26,5,6] ?_
  refine cx_seq<|cx_anyx (by kernel_rfl) fun W8 eW8=>?_
  have dW8:=below_drew _ _ eW8;have zW8:=size_drew _ _ eW8;clear eW8;refine hx_take 1 (by rfl) Wn (by rfl) (by rfl) rfl (by decide) (by kernel_rfl) (by kernel_rfl) (by kernel_rfl) (fun _ _ _ h=>h) (fun _=>y_move rfl rfl) ?_;refine hx_take 2 (by rfl) Wn (by rfl) (by rfl) rfl (by decide) (by kernel_rfl) (by kernel_rfl) (by kernel_rfl) (fun _ _ _ h=>h) (fun _=>y_move rfl rfl) ?_;have h:=h.below (Bm dW8);have hb:=Rb dW8 hb;have cM:=cM.below (Bm dW8);have dM:=dM.below (Bm dW8);have rg:=rg.up dW8;have hd:=hd.call dW8;have hJ:=hJa.call (by omega) hJ dW8;have hd1:=hd1.call dW8;refine hx_join 11 #[true,true,true,true,true,false,false,false,false,false,false,false,false,false,false,false] [(31,s.v),(35,nv ((copI (2*i) (Ls.length:Int)).getD t 0)),(0,.func (.yield l) #[] #[]),(2,pv bt 0),(4,s5.v),(24,s6.v),(25,nv ((dirI (2*i) (Ls.length:Int)).length:Int)),(26,nv ((t:Nat):Int)),(5,nv ((t:Nat):Int)),(6,nv ((dirI (2*i) (Ls.length:Int)).getD t 0))] ?_ fun key=>?_
  ·by_cases c9:hiL Ls ((copI (2*i) (Ls.length:Int)).getD t 0)≠[]
   ·refine hx_one 5 (by rfl) (by kernel_rfl) Wn (by rfl) fun hq=>?_;refine Zd (somebody_any (h.mW W8) ((copI (2*i) (Ls.length:Int)).getD t 0) Lr rg) ?_;rintro u9 w9 ⟨e9,hw9⟩;obtain rfl:u9=.bool true:=e9.trans (congrArg Value.bool (decide_eq_true c9));have zw9:=hw9.size;refine hx_next hq ?_;refine hx_take 6 (by rfl) Wn (by rfl) (by rfl) rfl (by decide) (by kernel_rfl) (by kernel_rfl) (by kernel_rfl) (fun _ _ _ h=>h) (fun _=>y_move rfl rfl) ?_;refine hx_take 7 (by rfl) (want_t (dj:=37) (by rfl) (by kernel_rfl) rfl) (by rfl) (by rfl) rfl (by decide) (by kernel_rfl) (by kernel_rfl) (by kernel_rfl) (fun _ _ _ h=>h) (fun _=>y_move rfl rfl) ?_;refine hx_take 8 (by rfl) (want_t (dj:=37) (by rfl) (by kernel_rfl) rfl) (by rfl) (by rfl) rfl (by decide) (by kernel_rfl) (by kernel_rfl) (by kernel_rfl) (fun _ _ _ h=>h) (fun _=>y_move rfl rfl) ?_;refine hx_take 9 (by rfl) (want_t (dj:=37) (by rfl) (by kernel_rfl) rfl) (by rfl) (by rfl) rfl (by decide) (by kernel_rfl) (by kernel_rfl) (by kernel_rfl) (fun _ _ _ h=>h) (fun _=>y_move rfl rfl) ?_;refine hx_take 10 (by rfl) (want_t (dj:=37) (by rfl) (by kernel_rfl) rfl) (by rfl) (by rfl) rfl (by decide) (by kernel_rfl) (by kernel_rfl) (by kernel_rfl) (fun _ _ _ h=>h) (fun _=>y_move rfl rfl) ?_;have h:=h.below (Bm hw9);have hb:=Rb hw9 hb;have cM:=cM.below (Bm hw9);have dM:=dM.below (Bm hw9);have rg:=rg.up hw9;have hd:=hd.call hw9;have hJ:=hJa.call (by omega) hJ hw9;have hd1:=hd1.call hw9;refine hx_one 11 (by rfl) (by kernel_rfl) (want_t (dj:=37) (by rfl) (by kernel_rfl) rfl) (by rfl) fun hq=>?_;refine Zt 37 (y_ixT (i:=t) (iI:=((t:Nat):Int)) cM rfl (by omega) rfl rfl rfl) ?_;refine hx_next hq ?_;refine hx_one 12 (by rfl) (by kernel_rfl) (want_t (dj:=37) (by rfl) (by kernel_rfl) rfl) (by rfl) fun hq=>?_;refine Zt 37 (y_ldT (i:=t) cM (by omega) rfl rfl) ?_;refine hx_next hq ?_;refine hx_onex 13 (by rfl) (by kernel_rfl) (want_t (dj:=37) (by rfl) (by kernel_rfl) rfl) ?_;have hpre:forkF Ls ((wayP Ls i).take t)++[(((dirI (2*i) (Ls.length:Int)).getD t 0),((copI (2*i) (Ls.length:Int)).getD t 0))] <+: forkF Ls (wayP Ls i):=by
     rw [<-forkF_yes (a:=Ls) (l:=(wayP Ls i).take t) (p:=(((dirI (2*i) (Ls.length:Int)).getD t 0),((copI (2*i) (Ls.length:Int)).getD t 0))) c9,<-wayP_at hN htlt];exact forkF_pre _ _ _
    refine lx_yields (want_t (dj:=37) (by rfl) (by kernel_rfl) rfl) (hY (forkF Ls ((wayP Ls i).take t)) (((dirI (2*i) (Ls.length:Int)).getD t 0),((copI (2*i) (Ls.length:Int)).getD t 0)) w9 m hd hJ (by rw [hxs];exact hpre)) rfl rfl rfl rfl (by decide) ?_ ?_
    ·rintro w10 ⟨m10,j10,g10⟩;have hd:=hd.trans j10;have hd1:=hd1.trans j10;have zy10:=j10.kept.size;have hJ:=g10;refine hx_nextx ?_;refine hx_take 14 (by rfl) (want_t (dj:=37) (by rfl) (by kernel_rfl) rfl) (by rfl) (by rfl) rfl (by decide) (by kernel_rfl) (by kernel_rfl) (by kernel_rfl) (fun _ _ _ h=>h) (fun _=>y_bnot rfl rfl) ?_;refine hx_take 15 (by rfl) Wn (by rfl) (by rfl) rfl (by decide) (by kernel_rfl) (by kernel_rfl) (by kernel_rfl) (fun _ _ _ h=>h) (fun _=>y_pick true rfl rfl rfl) ?_;refine hx_doneN (by kernel_rfl) ?_;refine Nxx [0,2,4,24,25,26,46] ?_;refine cx_cf rfl<|cx_skip<|Qs<|Nxx [0,2,4,24,25,26] ?_
     refine Qq<|Za Yj ?_
     refine ZM ?_;refine Qk ?_;have hst:forkF Ls ((wayP Ls i).take (t+1))=forkF Ls ((wayP Ls i).take t)++[(((dirI (2*i) (Ls.length:Int)).getD t 0),((copI (2*i) (Ls.length:Int)).getD t 0))]:=by rw [wayP_at hN htlt,forkF_yes c9]
     exact fun a ha=>(show t<((dirI (2*i) (Ls.length:Int)).length+1)/\_ from ⟨(by omega),a,rfl,m10,ha.keep kz,hd1,(by rw [hst];exact hJ),(by omega)⟩)
    rintro w10 ⟨m10,j10,g10⟩;have hd:=hd.trans j10;have hd1:=hd1.trans j10;have zy10:=j10.kept.size;have hJx:=g10;refine hx_nextx ?_;refine hx_take 14 (by rfl) (want_t (dj:=37) (by rfl) (by kernel_rfl) rfl) (by rfl) (by rfl) rfl (by decide) (by kernel_rfl) (by kernel_rfl) (by kernel_rfl) (fun _ _ _ h=>h) (fun _=>y_bnot rfl rfl) ?_;refine hx_take 15 (by rfl) Wn (by rfl) (by rfl) rfl (by decide) (by kernel_rfl) (by kernel_rfl) (by kernel_rfl) (fun _ _ _ h=>h) (fun _=>y_pick true rfl rfl rfl) ?_;refine hx_doneN (by kernel_rfl) ?_;refine Nxx [0,2,4,24,25,26,46] ?_;refine cx_ct rfl<|cx_ret<|xg_block_ret<|xg_seq_ret<|xg_seq_ret<|xg_block_ret ?_
    obtain ⟨op,dd,kp⟩:=Marks.closed Lr (Marks.nil _ _ _) hd;exact xg_ret [] op (res_none rfl) ⟨⟨_,rfl⟩,m10,dd,.inr ⟨_,(by rw [hxs];exact hpre),hJxa _ _ _ _ (by omega) hJx kp⟩⟩
   refine hx_one 5 (by rfl) (by kernel_rfl) Wn (by rfl) fun hq=>?_;refine Zd (somebody_any (h.mW W8) ((copI (2*i) (Ls.length:Int)).getD t 0) Lr rg) ?_;rintro u9 w9 ⟨e9,hw9⟩;obtain rfl:u9=.bool false:=e9.trans (congrArg Value.bool (decide_eq_false c9));have zw9:=hw9.size;refine hx_next hq ?_;refine hx_take 6 (by rfl) Wn (by rfl) (by rfl) rfl (by decide) (by kernel_rfl) (by kernel_rfl) (by kernel_rfl) (fun _ _ _ h=>h) (fun _=>y_move rfl rfl) ?_;refine hx_skip 7 (by rfl) (want_f (dj:=37) (by rfl) (by kernel_rfl) rfl) (by rfl) rfl (by decide) (by kernel_rfl) (by kernel_rfl) (by kernel_rfl) (fun _ _ _ h=>h) ?_;refine hx_skip 8 (by rfl) (want_f (dj:=37) (by rfl) (by kernel_rfl) rfl) (by rfl) rfl (by decide) (by kernel_rfl) (by kernel_rfl) (by kernel_rfl) (fun _ _ _ h=>h) ?_;refine hx_skip 9 (by rfl) (want_f (dj:=37) (by rfl) (by kernel_rfl) rfl) (by rfl) rfl (by decide) (by kernel_rfl) (by kernel_rfl) (by kernel_rfl) (fun _ _ _ h=>h) ?_;refine hx_skip 10 (by rfl) (want_f (dj:=37) (by rfl) (by kernel_rfl) rfl) (by rfl) rfl (by decide) (by kernel_rfl) (by kernel_rfl) (by kernel_rfl) (fun _ _ _ h=>h) ?_;refine hx_skip 11 (by rfl) (want_f (dj:=37) (by rfl) (by kernel_rfl) rfl) (by rfl) rfl (by decide) (by kernel_rfl) (by kernel_rfl) (by kernel_rfl) (fun _ _ _ h=>h) ?_;refine hx_skip 12 (by rfl) (want_f (dj:=37) (by rfl) (by kernel_rfl) rfl) (by rfl) rfl (by decide) (by kernel_rfl) (by kernel_rfl) (by kernel_rfl) (fun _ _ _ h=>h) ?_;refine hx_skip1 13 (by rfl) (want_f (dj:=37) (by rfl) (by kernel_rfl) rfl) rfl (by decide) (by kernel_rfl) ?_;refine hx_skip 14 (by rfl) (want_f (dj:=37) (by rfl) (by kernel_rfl) rfl) (by rfl) rfl (by decide) (by kernel_rfl) (by kernel_rfl) (by kernel_rfl) (fun _ _ _ h=>h) ?_;refine hx_take 15 (by rfl) Wn (by rfl) (by rfl) rfl (by decide) (by kernel_rfl) (by kernel_rfl) (by kernel_rfl) (fun _ _ _ h=>h) (fun _=>y_pick false rfl rfl rfl) ?_;refine hx_doneN (by kernel_rfl) ?_;refine Nxx [0,2,4,24,25,26,46] ?_;refine cx_cf rfl<|cx_skip<|Qs<|Nxx [0,2,4,24,25,26] ?_
   refine Qq<|Za Yj ?_
   refine ZM ?_;refine Qk ?_;have hst:forkF Ls ((wayP Ls i).take (t+1))=forkF Ls ((wayP Ls i).take t):=by rw [wayP_at hN htlt,forkF_no c9]
   have hJ:=hJa.call (by omega) hJ hw9;have hd1:=hd1.call hw9;exact fun a ha=>(show t<((dirI (2*i) (Ls.length:Int)).length+1)/\_ from ⟨(by omega),a,rfl,m,ha.keep kz,hd1,(by rw [hst];exact hJ),(by omega)⟩)
  refine hx_two 0 3 (by rfl) (by rfl) (by kernel_rfl) Wn Wn (by rfl) (by rfl) (fun hq=>?_) (fun hq=>?_)
  ·refine Zv s.v hb ?_;refine hx_next hq ?_;refine hx_one 3 (by rfl) (by kernel_rfl) Wn (by rfl) fun hq=>?_;refine Za (y_ixT (i:=t) (iI:=((t:Nat):Int)) cM rfl (by omega) rfl rfl rfl) ?_;refine hx_next hq ?_;refine hx_one 4 (by rfl) (by kernel_rfl) Wn (by rfl) fun hq=>?_;refine Za (y_ldT (i:=t) cM (by omega) rfl rfl) ?_;refine hx_next hq ?_;exact hx_met (by kernel_rfl) kz key
  refine Za (y_ixT (i:=t) (iI:=((t:Nat):Int)) cM rfl (by omega) rfl rfl rfl) ?_;refine hx_next hq ?_;refine hx_two 0 4 (by rfl) (by rfl) (by kernel_rfl) Wn Wn (by rfl) (by rfl) (fun hq=>?_) (fun hq=>?_)
  ·refine Zv s.v hb ?_;refine hx_next hq ?_;refine hx_one 4 (by rfl) (by kernel_rfl) Wn (by rfl) fun hq=>?_;refine Za (y_ldT (i:=t) cM (by omega) rfl rfl) ?_;refine hx_next hq ?_;exact hx_met (by kernel_rfl) kz key
  refine Za (y_ldT (i:=t) cM (by omega) rfl rfl) ?_;refine hx_next hq ?_;refine hx_one 0 (by rfl) (by kernel_rfl) Wn (by rfl) fun hq=>?_;refine Zv s.v hb ?_;refine hx_next hq ?_;exact hx_met (by kernel_rfl) kz key
 refine Qk<|Nxx [0,2,4,24,25,26,27] ?_
 refine cx_seq<|cx_cf rfl<|cx_exit<|xg_seq_exit<|xg_seq_exit<|xg_block_exit ?_
 obtain rfl:t=(dirI (2*i) (Ls.length:Int)).length:=by omega
 have hJ:J (forkL (trAs Ls) i) m v:=by rw [hxs];have:=hJ;rwa [List.take_of_length_le (by rw [wl];exact Nat.le_refl _)] at this
 obtain ⟨op,dd,kp⟩:=Marks.closed Lr (Marks.nil _ _ _) hd;exact xg_end [] op (res_none rfl) ⟨⟨_,rfl⟩,m,dd,.inl (hJa _ _ _ _ (by omega) hJ kp)⟩
/- RsFil:
  A way up, filtered: what the program answers.
-/
theorem fork_len (a:List Nd) (i:Int):(forkL a i).length<=6:=by
 unfold forkL;split
 ·refine Nat.le_trans (List.length_filter_le _ _) ?_;rw [wayP,List.length_zip];have:=dirL (2*i) a.length;omega
 exact Nat.zero_le _
theorem filter_any [Lo] {W:World} {B:Nat} {s:SlV} {Ls:List Nd} (h:RwNd W B s Ls) (i:Int) (hB:B<=W.heap.size) (rg:Tb W):Calls prog 137 #[s.v,nv i] W fun e W'=>∃ v,e=.returned v/\∃ r:SlV,v=r.v/\SlN W' W'.heap.size r ((forkL (trAs Ls) i).map Prod.fst)/\Bw W W':=by
 have h:=h.more hB;have hlt:=rg.lt;refine calls_cx (n:=17) func137 rfl ntmps137 (by simp) (fun _ q=>by simp at q) ?_;show CX none [] _ _ _ [(0,s.v),(1,nv i)] _ _;have u:=Br W;refine cx_seq<|Qq<|ZA ?_
 refine Qk<|Nxx [0,1,4] ?_
 refine cx_seq<|Qq<|lg_allocs (u:=nilS.v) (by kernel_rfl) rfl Wn rfl rfl (by decide) fun b1 w1 n1=>?_
 have ⟨r1,k1,z1,lt1⟩:=n1.f;refine Qk<|Nxx [0,1,4,5] ?_
 refine cx_seq<|cx_seq<|Qq<|ZM ?_
 refine ZM ?_;have h:=h.below (Bm n1.below);refine Zd (forks_any s i _ h) ?_;rintro _ w2 ⟨bx2,bt2,rfl,x2,y2,i2,j2,hw2⟩;have zw2:=hw2.size;have lx2:=x2.lt;have ly2:=y2.lt;refine Qk<|Nxx [4,5,9] ?_
 refine cx_block ?_;obtain ⟨bs,hbs⟩:∃ q,q=w2.heap.size:=⟨_,rfl⟩;have h:=h.below (Bm hw2);have u:=Un (Un u n1.below) hw2;have r1:=Rb hw2 r1;have rg:=(rg.up n1.below).up hw2;refine cx_told2 (e1:=(fun p:Int × Int=>nv p.1)) (e2:=(fun p:Int × Int=>nv p.2)) (e3:=(fun p:Int × Int=>nv p.1)) (d':=6) (m0:=mine b1 nilS.v) (by kernel_rfl) rfl (forks_tells i bx2 bt2 _ _ _ _ (by omega) hlt h rg x2 y2) (fun k q=>by obtain rfl:k=b1:=mine_nil q;exact ⟨fun z=>by rcases z with z | z | z<;>omega,by omega⟩) (fun k hk z=>by rcases z with z | rfl | rfl<;>omega) (by decide) (by decide) 
  (fun (pre:List (Int × Int)) m X=>∃ r:SlV,m=mine b1 r.v/\RowAt X b1 36 #[r.v]/\X.ownsRow bs 3 1 r.v (pre.map Prod.fst).length ((pre.map Prod.fst).map (Value.int .i64)))
  (fun c (pre:List (Int × Int)) m X=>False)
  (fun s m X Y hX ⟨r,hm,r5,g0⟩ k=>⟨r,hm,k.row (.inl (by rw [hm];exact .inl rfl)) r5,own_kept g0 k fun q e=>.inl (by rw [hm];exact .inr e)⟩)
  (fun c s m X Y hX h k=>h)
  ⟨nilS,rfl,r1,own_nilN _ _⟩
  (fun l x W=>as_take rfl rfl rfl rfl (by decide) rfl l W)
  ?_ ?_ ?_
 ·rintro l3 pre3 k3 v3 m3 d3 hi3 hp3;obtain ⟨r,rfl,r1,g0⟩:=hi3;have fl:=fork_len (trAs Ls) i;have pl:=hp3.length_le;simp only [List.length_append,List.length_cons,List.length_nil] at pl;have hr:=Did.refl d3.lt;have zv3:=d3.kept.size;have lw3:=r1.lt;refine cx_block<|Qq<|Zv r.v r1 ?_
  refine ZM ?_;refine lg_bslice (el:=3) (z:=nv 0) (cs:=#[nv k3.1]) huIs (by kernel_rfl) (by decide) (by decide) rfl rfl (by kernel_rfl) rfl rfl (by decide) fun b4 w4 n4=>?_;have ⟨r4,k4,z4,_⟩:=n4.f;have m4:SlN w4 (b4+1) ⟨some ⟨b4,0,none⟩,1,1⟩ [k3.1]:=new_SlN (xs:=[k3.1]) r4 rfl (of_decide_eq_true (by kernel_rfl));have og4:w4.ownsRow b4 3 1 (.slice (some ⟨b4,0,none⟩) 1 1) ([k3.1]:List Int).length (([k3.1]:List Int).map (Value.int .i64)):=new_ownN (xs:=[k3.1]) n4 rfl (of_decide_eq_true (by kernel_rfl));have g0:=own_below g0 n4.below;refine lg_appM (b:=b1) g0 r4 (by simp only [List.length_map];omega) (by omega) (by omega) Wn rfl rfl rfl rfl rfl (by decide) fun r5 w5 m5 g5 l5 j5=>?_;have z5:=l5.size;have r1:=RowAt.below l5 (by omega) (n4.keep r1);have o6:=r1;refine lg_sts r1 rfl rfl (by kernel_rfl) Wn rfl rfl rfl rfl fun w6 s6=>?_;have ⟨r1,z6⟩:=s6.f;refine Qk<|Qs ?_
  have hr:=(hr.call n4.below).trans j5;have hr:=hr.trans (Did.set s6 o6 (.inl rfl) hr.lt);have g5:=own_set g5 s6 o6 (by omega);exact fun a ha=>⟨_,hr,_,rfl,r1,own_castN g5 (by simp)⟩
 ·rintro D3 v3d m3 hz3 d3 nD3 hi3 hD3;obtain ⟨r,rfl,r1,g0⟩:=hi3;have u:=u.trans (d3.below (n0:=W.heap.size) (by omega) (fun k q=>by obtain rfl:k=b1:=mine_nil q;omega));have zv3:=d3.kept.size;have hKD3:=hD3;refine Qs<|Nxx [4,5] ?_
  refine cx_seq<|Qq<|Zv r.v r1 ?_
  refine ZA ?_;refine Qk<|Nxx [4] ?_
  refine cx_ret ?_;exact xg_ret [D3] ⟨hKD3,trivial⟩ (res_tmp rfl rfl) ⟨_,rfl,r,rfl,own_num (owns_nc g0 (put_grown _ D3 (.deferred none)) (put_nc hKD3)),(below_nc u (B:=D3) (by omega) Lr (put_grown _ D3 (.deferred none)) (fun r e=>by cases e;exact Nat.le_refl _))⟩
 rintro D3 c3 pre3 v3s m3 hz3 hp3 d3 nD3 hi3 hD3;exact hi3.elim
theorem beside_any [Lo] {W:World} {B:Nat} {s:SlV} {Ls:List Nd} (h:RwNd W B s Ls) (i:Int) (hB:B<=W.heap.size) (rg:Tb W):Calls prog 225 #[s.v,nv i] W fun e W'=>∃ v,e=.returned v/\∃ r:SlV,v=r.v/\SlN W' W'.heap.size r ((forkL (trAs Ls) i).map Prod.snd)/\Bw W W':=by
 have h:=h.more hB;have hlt:=rg.lt;refine calls_cx (n:=18) func225 rfl ntmps225 (by simp) (fun _ q=>by simp at q) ?_;show CX none [] _ _ _ [(0,s.v),(1,nv i)] _ _;have u:=Br W;refine cx_seq<|Qq<|ZA ?_
 refine Qk<|Nxx [0,1,4] ?_
 refine cx_seq<|Qq<|lg_allocs (u:=nilS.v) (by kernel_rfl) rfl Wn rfl rfl (by decide) fun b1 w1 n1=>?_
 have ⟨r1,k1,z1,lt1⟩:=n1.f;refine Qk<|Nxx [0,1,4,5] ?_
 refine cx_seq<|cx_seq<|Qq<|ZM ?_
 refine ZM ?_;have h:=h.below (Bm n1.below);refine Zd (forks_any s i _ h) ?_;rintro _ w2 ⟨bx2,bt2,rfl,x2,y2,i2,j2,hw2⟩;have zw2:=hw2.size;have lx2:=x2.lt;have ly2:=y2.lt;refine Qk<|Nxx [4,5,10] ?_
 refine cx_block ?_;obtain ⟨bs,hbs⟩:∃ q,q=w2.heap.size:=⟨_,rfl⟩;have h:=h.below (Bm hw2);have u:=Un (Un u n1.below) hw2;have r1:=Rb hw2 r1;have rg:=(rg.up n1.below).up hw2;refine cx_told2 (e1:=(fun p:Int × Int=>nv p.1)) (e2:=(fun p:Int × Int=>nv p.2)) (e3:=(fun p:Int × Int=>nv p.2)) (d':=7) (m0:=mine b1 nilS.v) (by kernel_rfl) rfl (forks_tells i bx2 bt2 _ _ _ _ (by omega) hlt h rg x2 y2) (fun k q=>by obtain rfl:k=b1:=mine_nil q;exact ⟨fun z=>by rcases z with z | z | z<;>omega,by omega⟩) (fun k hk z=>by rcases z with z | rfl | rfl<;>omega) (by decide) (by decide) 
  (fun (pre:List (Int × Int)) m X=>∃ r:SlV,m=mine b1 r.v/\RowAt X b1 36 #[r.v]/\X.ownsRow bs 3 1 r.v (pre.map Prod.snd).length ((pre.map Prod.snd).map (Value.int .i64)))
  (fun c (pre:List (Int × Int)) m X=>False)
  (fun s m X Y hX ⟨r,hm,r5,g0⟩ k=>⟨r,hm,k.row (.inl (by rw [hm];exact .inl rfl)) r5,own_kept g0 k fun q e=>.inl (by rw [hm];exact .inr e)⟩)
  (fun c s m X Y hX h k=>h)
  ⟨nilS,rfl,r1,own_nilN _ _⟩
  (fun l x W=>as_take rfl rfl rfl rfl (by decide) rfl l W)
  ?_ ?_ ?_
 ·rintro l3 pre3 k3 v3 m3 d3 hi3 hp3;obtain ⟨r,rfl,r1,g0⟩:=hi3;have fl:=fork_len (trAs Ls) i;have pl:=hp3.length_le;simp only [List.length_append,List.length_cons,List.length_nil] at pl;have hr:=Did.refl d3.lt;have zv3:=d3.kept.size;have lw3:=r1.lt;refine cx_block<|Qq<|Zv r.v r1 ?_
  refine ZM ?_;refine lg_bslice (el:=3) (z:=nv 0) (cs:=#[nv k3.2]) huIs (by kernel_rfl) (by decide) (by decide) rfl rfl (by kernel_rfl) rfl rfl (by decide) fun b4 w4 n4=>?_;have ⟨r4,k4,z4,_⟩:=n4.f;have m4:SlN w4 (b4+1) ⟨some ⟨b4,0,none⟩,1,1⟩ [k3.2]:=new_SlN (xs:=[k3.2]) r4 rfl (of_decide_eq_true (by kernel_rfl));have og4:w4.ownsRow b4 3 1 (.slice (some ⟨b4,0,none⟩) 1 1) ([k3.2]:List Int).length (([k3.2]:List Int).map (Value.int .i64)):=new_ownN (xs:=[k3.2]) n4 rfl (of_decide_eq_true (by kernel_rfl));have g0:=own_below g0 n4.below;refine lg_appM (b:=b1) g0 r4 (by simp only [List.length_map];omega) (by omega) (by omega) Wn rfl rfl rfl rfl rfl (by decide) fun r5 w5 m5 g5 l5 j5=>?_;have z5:=l5.size;have r1:=RowAt.below l5 (by omega) (n4.keep r1);have o6:=r1;refine lg_sts r1 rfl rfl (by kernel_rfl) Wn rfl rfl rfl rfl fun w6 s6=>?_;have ⟨r1,z6⟩:=s6.f;refine Qk<|Qs ?_
  have hr:=(hr.call n4.below).trans j5;have hr:=hr.trans (Did.set s6 o6 (.inl rfl) hr.lt);have g5:=own_set g5 s6 o6 (by omega);exact fun a ha=>⟨_,hr,_,rfl,r1,own_castN g5 (by simp)⟩
 ·rintro D3 v3d m3 hz3 d3 nD3 hi3 hD3;obtain ⟨r,rfl,r1,g0⟩:=hi3;have u:=u.trans (d3.below (n0:=W.heap.size) (by omega) (fun k q=>by obtain rfl:k=b1:=mine_nil q;omega));have zv3:=d3.kept.size;have hKD3:=hD3;refine Qs<|Nxx [4,5] ?_
  refine cx_seq<|Qq<|Zv r.v r1 ?_
  refine ZA ?_;refine Qk<|Nxx [4] ?_
  refine cx_ret ?_;exact xg_ret [D3] ⟨hKD3,trivial⟩ (res_tmp rfl rfl) ⟨_,rfl,r,rfl,own_num (owns_nc g0 (put_grown _ D3 (.deferred none)) (put_nc hKD3)),(below_nc u (B:=D3) (by omega) Lr (put_grown _ D3 (.deferred none)) (fun r e=>by cases e;exact Nat.le_refl _))⟩
 rintro D3 c3 pre3 v3s m3 hz3 hp3 d3 nD3 hi3 hD3;exact hi3.elim
/- RsRef:
  Who has a key below a node: what the document answers.
-/
/- ChMath:
  Parent hashes: who made which node, what is planned: pure.
-/
def saysN (n:Nd):List Int:=if n.kind=1 then n.leaf.par else n.inner.hash
def givesL (t:List Nd) (x b:Int):List Int:=sumL (ofParentO (atN t x.toNat).inner (ofH (dropL (atN t x.toNat).inner.unm t) b))
theorem gives_len (t:List Nd) (x b:Int):(givesL t x b).length=32:=sumL_length _
def unmO (u:List Int) (c w:Int):List Int:=(u.map (2*·)).filter fun y=>decide (undI y c w)
def unmB (t:List Nd) (x c:Int):List Int:=unmO (atN t x.toNat).inner.unm c t.length
theorem unmO_take {u:List Int} {c w:Int} {k:Nat} (h:k<u.length):unmO (u.take (k+1)) c w=unmO (u.take k) c w++(if undI (2*u.getD k 0) c w then [2*u.getD k 0] else []):=by
 rw [take_succ_getD u k h];unfold unmO;rw [List.map_append,List.filter_append];by_cases q:undI (2*u.getD k 0) c w
 ·rw [if_pos q];exact congrArg _ (List.filter_cons_of_pos (decide_eq_true q))
 rw [if_neg q];exact congrArg _ (List.filter_cons_of_neg (by rw [decide_eq_false q];decide))
theorem unmO_le (u:List Int) (c w:Int):(unmO u c w).length<=u.length:=by
 have:=List.length_filter_le (fun y=>decide (undI y c w)) (u.map (2*·));rwa [List.length_map] at this
def linkL (t:List Nd) (x c d:Int):Prop:=isN x (t.length:Int)/\(atN t x.toNat).kind=2/\(c=leftI x t.length\/c=rightI x t.length)/\d∈resL t c/\cutK (resL t c) [d]=unmB t x c/\saysN (atN t d.toNat)=givesL t x (sibI c t.length)
instance (t:List Nd) (x c d:Int):Decidable (linkL t x c d):=by unfold linkL;infer_instance
def madeL (t:List Nd) (x c:Int):Prop:=∃ d∈resL t c,linkL t x c d
instance (t:List Nd) (x c:Int):Decidable (madeL t x c):=by unfold madeL;infer_instance
def validL (t:List Nd) (x:Int):Prop:=isN x (t.length:Int)/\((atN t x.toNat).kind=2->madeL t x (leftI x t.length)\/madeL t x (rightI x t.length))
instance (t:List Nd) (x:Int):Decidable (validL t x):=by unfold validL;infer_instance
def verL (t:List Nd):Prop:=∀ i,i<t.length->validL t (i:Int)
instance (t:List Nd):Decidable (verL t):=by unfold verL;infer_instance
theorem says_node {t:List Nd} {x c d:Int} (h:saysN (atN t d.toNat)=givesL t x c) (h0:0<=d) (ht:trIs t):isN d (t.length:Int)/\¬(atN t d.toNat).kind=0:=by
 have hl:=congrArg List.length h;rw [gives_len] at hl;have hk:¬(atN t d.toNat).kind=0:=fun q=>by
  rcases nd_cases (trIs_ok ht d.toNat).1 with e | e | e
  ·rw [e] at hl;exact absurd hl (by decide)
  ·omega
  omega
 refine ⟨isN_of ht h0 ?_,hk⟩;refine Classical.byContradiction fun q=>hk ?_;rw [atN_none (by omega)]
theorem link_first {t:List Nd} {x c d:Int} {k:Nat} (h:linkL t x c d) (hk:k<(resL t c).length) (hp:∀ j,j<k->(resL t c).getD j 0∈unmB t x c) (hn:(resL t c).getD k 0∉unmB t x c):d=(resL t c).getD k 0:=by
 obtain ⟨_,_,_,hm,hc,_⟩:=h;refine Classical.byContradiction fun q=>hn ?_;rw [<-hc];exact cutK_mem.2 ⟨getD_in hk,fun z=>q (by have:=List.mem_singleton.1 z;omega)⟩
theorem link_none {t:List Nd} {x c d:Int} (h:linkL t x c d) (hp:∀ j,j<(resL t c).length->(resL t c).getD j 0∈unmB t x c):False:=by
 obtain ⟨_,_,_,hm,hc,_⟩:=h;obtain ⟨j,hj,e⟩:=mem_getD hm;have:=hp j hj;rw [e,<-hc] at this;exact (cutK_mem.1 this).2 (by simp)
def keyE (k:List Int):Int:=if k.length=0 then 5 else if 200<k.length then 4 else 0
def keysE:List (List Int)->Int
 | []=>0
 | k::ks=>if keyE k=0 then keysE ks else keyE k
theorem pn_key (k:List Int):pnCheck ⟨k,[],[]⟩=keyE k:=by
 unfold pnCheck keyE;by_cases h0:k.length=0
 ·rw [if_pos (by simpa using h0),if_pos h0]
 rw [if_neg (by simpa using h0),if_neg h0];by_cases h1:200<k.length
 ·rw [if_pos (.inl (show (200:Int)<(k.length:Int) by omega)),if_pos h1]
 rw [if_neg (fun z=>by
  rcases z with z | z | z
  ·exact h1 (by have z:(200:Int)<(k.length:Int):=z;omega)
  ·exact absurd (show (200:Int)<0 from z) (by decide)
  exact absurd (show (64:Int)<0 from z) (by decide)),if_neg h1,if_neg (by rintro ⟨x,q,_⟩;cases q),if_neg (fun q=>q List.Pairwise.nil)]
theorem keysE_none:∀ {ks:List (List Int)},(∀ j,j<ks.length->keyE (ks.getD j [])=0)->keysE ks=0
 | [],_=>rfl
 | k::ks,h=>by
  rw [keysE,if_pos (show keyE k=0 from h 0 (by simp))];exact keysE_none fun j hj=>h (j+1) (by simpa using hj)
theorem keysE_first:∀ {ks:List (List Int)} {t:Nat},(∀ j,j<t->keyE (ks.getD j [])=0)->t<ks.length->¬keyE (ks.getD t [])=0->keysE ks=keyE (ks.getD t [])
 | [],t,_,h,_=>absurd h (Nat.not_lt_zero _)
 | k::ks,0,_,_,hk=>by
  rw [keysE,if_neg (show ¬keyE k=0 from hk)];rfl
 | k::ks,t+1,h,ht,hk=>by
  rw [keysE,if_pos (show keyE k=0 from h 0 (by omega))];exact keysE_first (fun j hj=>h (j+1) (by omega)) (by simpa using ht) hk
theorem keysE_ok:∀ {ks:List (List Int)},keysE ks=0->∀ k∈ks,0<k.length/\k.length<=200
 | [],_,_,q=>by cases q
 | k::ks,h,x,hx=>by
  rw [keysE] at h;split at h
  ·rename_i e
   rcases List.mem_cons.1 hx with rfl | hx
   ·unfold keyE at e;split at e
    ·omega
    split at e
    ·omega
    omega
   exact keysE_ok h x hx
  rename_i e
  exact absurd h e
abbrev keyN (k said:List Int):Nd:=⟨2,Lf.zero,⟨k,said,[]⟩⟩
abbrev Zk:=(Int × Int) × List Int
def planS (o:List Nd × List Int) (p:Int × Int) (k:List Int):List Nd × List Int:=(o.1.set p.1.toNat (keyN k o.2),givesL (o.1.set p.1.toNat (keyN k o.2)) p.1 p.2)
def planF (a:List Nd):List Zk->List Nd × List Int
 | []=>(a,[])
 | p::ps=>planS (planF a ps) p.1 p.2
def plan0 (a:List Nd) (i:Int):List Nd:=clr (dirI (2*i) a.length) a
def planZ (a:List Nd) (i:Int) (ks:List (List Int)):List Zk:=(forkL a i).zip ks
def planE (a:List Nd) (i:Int) (ks:List (List Int)):Int:=if ¬(0<=i/\i<leavesA a) then 3 else if ¬ks.length=(forkL a i).length then 11 else keysE ks
def planP (a:List Nd) (i:Int) (ks:List (List Int)):List Nd:=if planE a i ks=0 then (planF (plan0 a i) (planZ a i ks)).1 else []
def planH (a:List Nd) (i:Int) (ks:List (List Int)):List Int:=if planE a i ks=0 then (planF (plan0 a i) (planZ a i ks)).2 else []
theorem planF_len (a:List Nd):∀ Z:List Zk,(planF a Z).1.length=a.length
 | []=>rfl
 | p::ps=>by
  show ((planF a ps).1.set _ _).length=_;rw [List.length_set,planF_len a ps]
theorem planF_said (a:List Nd) (Z:List Zk):(planF a Z).2.length<=32:=by
 cases Z with
 | nil=>exact Nat.zero_le _
 | cons p ps=>exact Nat.le_of_eq (gives_len _ _ _)
theorem planZ_len {a:List Nd} {i:Int} {ks:List (List Int)} (h:ks.length=(forkL a i).length):(planZ a i ks).length=(forkL a i).length:=by
 rw [planZ,List.length_zip,h,Nat.min_self]
theorem planZ_at {a:List Nd} {i:Int} {ks:List (List Int)} (h:ks.length=(forkL a i).length) {k:Nat} (hk:k<(forkL a i).length):(planZ a i ks)[k]?=some ((((forkL a i).map Prod.fst).getD k 0,((forkL a i).map Prod.snd).getD k 0),ks.getD k []):=by
 rw [planZ,List.getElem?_zip_eq_some,List.getD_eq_getElem?_getD,List.getD_eq_getElem?_getD,List.getD_eq_getElem?_getD,List.getElem?_map,List.getElem?_map,List.getElem?_eq_getElem hk,List.getElem?_eq_getElem (show k<ks.length by omega)];exact ⟨rfl,rfl⟩
theorem plan_step {a t:List Nd} {i:Int} {ks:List (List Int)} (h:ks.length=(forkL a i).length) {k:Nat} (hk:k<(forkL a i).length) :
  planF t ((planZ a i ks).drop k)=planS (planF t ((planZ a i ks).drop (k+1))) (((forkL a i).map Prod.fst).getD k 0,((forkL a i).map Prod.snd).getD k 0) (ks.getD k []):=by
 have hz:=planZ_at h hk;have hl:k<(planZ a i ks).length:=by rw [planZ_len h];exact hk
 rw [List.drop_eq_getElem_cons hl,Option.some.inj ((List.getElem?_eq_getElem hl).symm.trans hz)];rfl
theorem plan_end {a t:List Nd} {i:Int} {ks:List (List Int)} (h:ks.length=(forkL a i).length):planF t ((planZ a i ks).drop (forkL a i).length)=(t,[]):=by
 rw [List.drop_of_length_le (by rw [planZ_len h];exact Nat.le_refl _)];rfl
theorem key_ok {k said:List Int} (h0:0<k.length) (h1:k.length<=200) (h2:said.length<=200):ndCheck (keyN k said)=0 :=
 nd_ok2 rfl rfl (pnCheck_mk h0 h1 h2 (Nat.zero_le _) (fun x q=>by cases q) List.Pairwise.nil)
theorem planF_is {a:List Nd} (ha:trIs a):∀ {Z:List Zk},(∀ z∈Z,isN z.1.1 (a.length:Int)/\¬z.1.1 % 2=0/\0<z.2.length/\z.2.length<=200)->trIs (planF a Z).1
 | [],_=>ha
 | p::ps,h=>by
  have ih:=planF_is ha (Z:=ps) fun z hz=>h z (List.mem_cons_of_mem _ hz);obtain ⟨h1,h2,h3,h4⟩:=h p (by simp);have:=h1.le;exact trIs_set ih ⟨key_ok h3 h4 (Nat.le_trans (planF_said a ps) (by omega)),.inl (by omega),.inr (show (2:Int)≠1 by decide)⟩
theorem fork_nodes {a:List Nd} {i:Int} (ha:trIs a) {p:Int × Int} (h:p∈forkL a i):isN p.1 (a.length:Int)/\¬p.1 % 2=0/\isN p.2 (a.length:Int)/\isN (2*i) (a.length:Int)/\p∈wayP a i:=by
 by_cases q:0<=i/\i<leavesA a
 ·rw [fork_yes q] at h;have hl:leavesA a=(a.length+1) / 2:=rfl;have hw:=trIs_len ha;have hN:isN (2*i) (a.length:Int):=isN_of ha (by omega) (by omega);have hm:=(List.mem_filter.1 h).1;have hz:=List.of_mem_zip hm;have hd:∀ k∈dirI (2*i) (a.length:Int),isN k (a.length:Int)/\¬k % 2=0:=fin2 (p:=fun x w=>∀ k∈dirI x w,isN k w/\¬k % 2=0) (by kernel_rfl) hN;exact ⟨(hd _ hz.1).1,(hd _ hz.1).2,(cop_nodes hN _ hz.2).1,hN,hm⟩
 rw [fork_no q] at h;cases h
theorem planE_ok {a:List Nd} {i:Int} {ks:List (List Int)} (h:planE a i ks=0):(0<=i/\i<leavesA a)/\ks.length=(forkL a i).length/\keysE ks=0:=by
 unfold planE at h;split at h
 ·exact absurd h (by decide)
 rename_i h1
 split at h
 ·exact absurd h (by decide)
 rename_i h2
 exact ⟨Classical.not_not.1 h1,Classical.not_not.1 h2,h⟩
theorem planE_range {a:List Nd} {i:Int} {ks:List (List Int)} (h:¬(0<=i/\i<leavesA a)):planE a i ks=3:=if_pos h
theorem planE_path {a:List Nd} {i:Int} {ks:List (List Int)} (h:0<=i/\i<leavesA a) (h2:¬ks.length=(forkL a i).length):planE a i ks=11:=by
 unfold planE;rw [if_neg (fun q=>q h),if_pos h2]
theorem planE_keys {a:List Nd} {i:Int} {ks:List (List Int)} (h:0<=i/\i<leavesA a) (h2:ks.length=(forkL a i).length):planE a i ks=keysE ks:=by
 unfold planE;rw [if_neg (fun q=>q h),if_neg (fun q=>q h2)]
theorem planP_no {a:List Nd} {i:Int} {ks:List (List Int)} (h:¬planE a i ks=0):planP a i ks=[]/\planH a i ks=[]:=⟨if_neg h,if_neg h⟩
theorem planP_ok {a:List Nd} {i:Int} {ks:List (List Int)} (h:planE a i ks=0):planP a i ks=(planF (plan0 a i) (planZ a i ks)).1/\planH a i ks=(planF (plan0 a i) (planZ a i ks)).2:=⟨if_pos h,if_pos h⟩
theorem planH_le (a:List Nd) (i:Int) (ks:List (List Int)):(planH a i ks).length<=32:=by
 unfold planH;split
 ·exact planF_said _ _
 exact Nat.zero_le _
theorem planZ_nodes {a:List Nd} {i:Int} {ks:List (List Int)} (ha:trIs a) (h:planE a i ks=0):∀ z∈planZ a i ks,isN z.1.1 (a.length:Int)/\¬z.1.1 % 2=0/\0<z.2.length/\z.2.length<=200:=fun z hz=>by
 obtain ⟨_,_,hk⟩:=planE_ok h;have hm:=List.of_mem_zip (l₁:=forkL a i) (l₂:=ks) (a:=z.1) (b:=z.2) hz;obtain ⟨h1,h2,_⟩:=fork_nodes ha hm.1;exact ⟨h1,h2,keysE_ok hk _ hm.2⟩
theorem plan0_len (a:List Nd) (i:Int):(plan0 a i).length=a.length:=clr_len _ _
theorem plan0_is {a:List Nd} (ha:trIs a) (i:Int):trIs (plan0 a i):=clr_is _ ha
theorem planP_is {a:List Nd} (ha:trIs a) (i:Int) (ks:List (List Int)):trIs (planP a i ks):=by
 by_cases h:planE a i ks=0
 ·rw [(planP_ok h).1];refine planF_is (plan0_is ha i) fun z hz=>?_;rw [plan0_len];exact planZ_nodes ha h z hz
 rw [(planP_no h).1];exact trIs_nil
theorem planP_len {a:List Nd} {i:Int} {ks:List (List Int)} (h:planE a i ks=0):(planP a i ks).length=a.length:=by
 rw [(planP_ok h).1,planF_len,plan0_len]
/- ChFacts:
  What the statements of layer 13 ask of who made which node: pure.
-/
-- what is below alone matters
section
variable {t s:List Nd} (hl:t.length=s.length)
include hl
end
-- a way, and those beside it
def posI (x w:Int) (j:Nat):Int:=if j=0 then x else (dirI x w).getD (j-1) 0
def kidAt (x w:Int) (j:Nat):Prop:=((posI x w j=leftI ((dirI x w).getD j 0) w/\(copI x w).getD j 0=rightI ((dirI x w).getD j 0) w)\/(posI x w j=rightI ((dirI x w).getD j 0) w/\(copI x w).getD j 0=leftI ((dirI x w).getD j 0) w)) /\
 sibI (posI x w j) w=(copI x w).getD j 0/\sibI ((copI x w).getD j 0) w=posI x w j/\isN ((dirI x w).getD j 0) w/\¬(dirI x w).getD j 0=x/\¬lvl ((dirI x w).getD j 0)=0
instance (x w:Int) (j:Nat):Decidable (kidAt x w j):=by unfold kidAt;infer_instance
theorem sib_way {x w:Int} (h:isN x w) {b:Int} (hb:b∈copI x w):sibI (sibI b w) w=b:=fin2 (p:=fun x w=>∀ b∈copI x w,sibI (sibI b w) w=b) (by kernel_rfl) h b hb
def offW (i:Int) (a s:List Nd):Prop:=s.length=a.length/\∀ y,isN y (a.length:Int)->¬undI (2*i) y a.length->atN s y.toNat=atN a y.toNat
section
variable {a s:List Nd} {i:Int} (hN:isN (2*i) (a.length:Int)) (h:offW i a s)
include hN h
end
-- what is planned
theorem planS_two (o:List Nd × List Int) (p:Int × Int) (k:List Int):(planS o p k).2=givesL (planS o p k).1 p.1 p.2:=by simp only [planS]
section
variable {a:List Nd} {i:Int} {ks:List (List Int)} (ha:trIs a) (h:planE a i ks=0)
include ha h
end
/- ChWk:
  Rows of nodes whose contents lie in known blocks; rows of slices of octets that are joined, and written; labels: rules.
-/
section
variable {P:Program} {Q:Exit->Act->World->Prop} {n:Nat} {E:Env} {w:World}
theorem cg_scope {c:Code} (h:CG P (Exit.noGoto Q) n E c w):CG P Q n E (.scope c) w:=fun a ha=>wp_scope_straight (h a ha)
theorem eg_scope_ret (h:∀ a,Holds n E a->Q .ret a w):∀ a,Holds n E a->Exit.noGoto Q .ret a w:=h
theorem cg_label {l:Nat} (h:∀ a,Holds n E a->Q .normal a w):CG P Q n E (.label l) w:=fun a ha=>wp_label (h a ha)
end
theorem nd_sub {w:World} {b j:Nat} {l:NdV} {L:Nd} (hc:∀ k u,(l.cs L)[k]?=some u->w.cell? ⟨b,j+k,none⟩=some u):∀ k u,(l.inner.cs L.inner)[k]?=some u->w.cell? ⟨b,j+5+k,none⟩=some u:=fun k u e=>by
 have hk:k<3:=(Array.getElem?_eq_some_iff.1 e).1;rw [Nat.add_assoc];refine hc (5+k) u ?_
 match k,hk with
 | 0,_=>exact e
 | 1,_=>exact e
 | 2,_=>exact e
def InS (M:Nat->Prop) (s:SlV):Prop:=0<s.m->∀ p,s.A=some p->M p.block
structure InNd (M:Nat->Prop) (l:NdV):Prop where
 enc:InS M l.leaf.enc
 cred:InS M l.leaf.cred
 par:InS M l.leaf.par
 ienc:InS M l.inner.enc
 hash:InS M l.inner.hash
 unm:InS M l.inner.unm
section
variable {w w':World} {B B' g:Nat} {s:SlV} {xs:List Int} {l:NdV} {L:Nd} {M M':Nat->Prop}
theorem InS.nil (M:Nat->Prop):InS M nilS:=fun h=>absurd h (Nat.lt_irrefl 0)
theorem InS.mono (h:InS M s) (g:∀ k,M k->M' k):InS M' s:=fun h0 p e=>g _ (h h0 p e)
theorem InS.of (h:Sl w B s xs) (g:∀ k,k<B->M k):InS M s:=fun h0 p e=>by
 obtain ⟨b,o,e2,hb,_⟩:=h.2.2.2.2 h0;rw [e2] at e;obtain rfl:p=⟨b,o,none⟩:=(Option.some.inj e).symm;exact g b hb
theorem InS.ofN [Lo] (h:SlN w B s xs) (g:∀ k,k<B->M k):InS M s:=fun h0 p e=>by
 obtain ⟨b,o,e2,hb,_⟩:=h.2.2.2 h0;rw [e2] at e;obtain rfl:p=⟨b,o,none⟩:=(Option.some.inj e).symm;exact g b hb
theorem InNd.mono (h:InNd M l) (g:∀ k,M k->M' k):InNd M' l:=⟨h.enc.mono g,h.cred.mono g,h.par.mono g,h.ienc.mono g,h.hash.mono g,h.unm.mono g⟩
theorem InNd.zero (M:Nat->Prop):InNd M NdV.zero:=⟨.nil M,.nil M,.nil M,.nil M,.nil M,.nil M⟩
theorem InNd.of [Lo] (h:IsNd w B l L) (g:∀ k,k<B->M k):InNd M l:=⟨.of h.leaf.enc g,.of h.leaf.cred g,.of h.leaf.par g,.of h.inner.enc g,.of h.inner.hash g,.ofN h.inner.unm g⟩
theorem InNd.off (h:InNd M l) (g:¬M B):OffNd B l:=by
 have f:∀ {s:SlV},InS M s->OffS B s:=fun h h0 p e q=>g (q▸h h0 p e);exact ⟨f h.enc,f h.cred,f h.par,f h.ienc,f h.hash,f h.unm⟩
theorem Sl.inn (h:Sl w w.heap.size s xs) (f:InS M s) (k:Kept M w w'):Sl w' w'.heap.size s xs :=
 ⟨h.1,h.2.1,h.2.2.1,h.2.2.2.1,fun h0=>by
  obtain ⟨b,o,e,hb,hc⟩:=h.2.2.2.2 h0;exact ⟨b,o,e,Nat.lt_of_lt_of_le hb k.size,fun i z hi=>(World.cell?_of_block (w:=w) (a:=⟨b,o+i,none⟩) (k.block b hb (f h0 _ e))).trans (hc i z hi)⟩⟩
theorem SlN.inn [Lo] (h:SlN w w.heap.size s xs) (f:InS M s) (k:Kept M w w'):SlN w' w'.heap.size s xs :=
 ⟨h.1,⟨h.2.1.1,h.ty.same fun h0 p hp=>k.block _ (h.blk h0 hp) (f h0 p hp)⟩,h.2.2.1,fun h0=>by
  obtain ⟨b,o,e,hb,hc⟩:=h.2.2.2 h0;exact ⟨b,o,e,Nat.lt_of_lt_of_le hb k.size,fun i z hi=>(World.cell?_of_block (w:=w) (a:=⟨b,o+i,none⟩) (k.block b hb (f h0 _ e))).trans (hc i z hi)⟩⟩
theorem IsNd.inn [Lo] (h:IsNd w w.heap.size l L) (f:InNd M l) (k:Kept M w w'):IsNd w' w'.heap.size l L :=
 ⟨⟨h.leaf.enc.inn f.enc k,h.leaf.cred.inn f.cred k,h.leaf.par.inn f.par k⟩,⟨h.inner.enc.inn f.ienc k,h.inner.hash.inn f.hash k,h.inner.unm.inn f.unm k⟩⟩
theorem OffS.u8 {cs:Array Value} {t:TypeId} (h:U8 w s.A) (r:RowAt w g t cs) (ht:t≠5):OffS g s:=fun _ p e q=>by
 obtain ⟨c,hc⟩:=h p e;unfold RowAt at r;rw [q,r] at hc;injection hc with hc
 injection hc with _ hc
 exact ht hc
theorem nd_ne_u8:81≠5:=by decide
theorem Hs.lit {b m:Nat} {cs:Array Value} (h:Sl w B ⟨some ⟨b,0,none⟩,m,m⟩ xs) (hB:B<=w.heap.size) (r:RowAt w b 5 cs):Hs w ⟨some ⟨b,0,none⟩,m,m⟩ xs :=
 ⟨h.more hB,fun p e=>by
  obtain rfl:p=⟨b,0,none⟩:=(Option.some.inj e).symm;exact ⟨cs,r⟩⟩
theorem Hs.nil (w:World):Hs w nilS []:=⟨Sl.nil _ _,fun p e=>by cases e⟩
end
def OwnNm [Lo] (M:Nat->Prop) (w:World) (g:Nat) (s:SlV) (Ls:List Nd):Prop:=s.A=some ⟨g,0,none⟩/\∃ (ps:List NdP) (cur:Array Value),ps.map (·.2)=Ls/\s.m=ps.length/\s.m<=s.c/\s.c<=maxLen/\RowAt w g 81 cur/\cur.size=s.c*8/\cur.toList.take (ps.length*8)=ndCells ps/\∀ p∈ps,IsNd w w.heap.size p.1 p.2/\InNd M p.1
section
variable {w w':World} {B B' g T:Nat} {s r:SlV} {xs:List Int} {l:NdV} {L:Nd} {Ls Ms:List Nd} {M M' m:Nat->Prop}
theorem OwnNm.cast [Lo] (h:OwnNm M w g s Ls) (e:Ls=Ms):OwnNm M w g s Ms:=e▸h
theorem OwnNm.mono [Lo] (h:OwnNm M w g s Ls) (f:∀ k,M k->M' k):OwnNm M' w g s Ls:=by
 obtain ⟨e,ps,cur,h1,h2,h3,h4,h5,h6,h7,h8⟩:=h;exact ⟨e,ps,cur,h1,h2,h3,h4,h5,h6,h7,fun p q=>⟨(h8 p q).1,(h8 p q).2.mono f⟩⟩
theorem OwnNm.na [Lo] (h:OwnNm M w g s Ls) (hg:¬M g):OwnNa w g w.heap.size s Ls:=by
 obtain ⟨e,ps,cur,h1,h2,h3,h4,h5,h6,h7,h8⟩:=h;exact ⟨e,Nat.le_refl _,ps,cur,h1,h2,h3,h4,h5,h6,h7,fun p q=>⟨(h8 p q).1,(h8 p q).2.off hg⟩⟩
theorem OwnNm.lt [Lo] (h:OwnNm M w g s Ls):g<w.heap.size:=by
 obtain ⟨_,ps,cur,_,_,_,_,hr,_⟩:=h;exact hr.lt
theorem OwnNm.len [Lo] (h:OwnNm M w g s Ls):Ls.length=s.m:=by
 obtain ⟨_,ps,cur,rfl,e,_⟩:=h;rw [e,List.length_map]
theorem OwnNm.kept [Lo] (h:OwnNm M w g s Ls) (k:Kept m w w') (hm:∀ q,M q->m q) (hg:m g):OwnNm M w' g s Ls:=by
 obtain ⟨e,ps,cur,h1,h2,h3,h4,h5,h6,h7,h8⟩:=h;exact ⟨e,ps,cur,h1,h2,h3,h4,k.row hg h5,h6,h7,fun p q=>⟨(h8 p q).1.inn (h8 p q).2 (k.mono fun i _ z=>hm i z),(h8 p q).2⟩⟩
theorem OwnNm.below [Lo] (h:OwnNm M w g s Ls) (k:Bw w w'):OwnNm M w' g s Ls:=h.kept (m:=fun _=>True) (Below.kept k) (fun _ _=>trivial) trivial
theorem OwnNm.alt [Lo] {b:Nat} (h:OwnNm M w g s Ls) (k:Alt w w' b) (hb:¬M b) (hg:g≠b):OwnNm M w' g s Ls:=h.kept k (fun q z e=>hb (e▸z)) hg
theorem OwnNm.of [Lo] {base:Nat} (h:OwnNd w base B s.v Ls) (hw:B<=w.heap.size) (hpos:0<Ls.length):∃ g,base<=g/\g<w.heap.size/\OwnNm (fun k=>k<B) w g s Ls:=by
 obtain ⟨ps,rfl,ho,hp⟩:=h;rw [List.length_map] at hpos;rcases ho.2 with ⟨e,h0⟩ | ⟨g,cap,cur,e,hg,hh,h1,h2,h3,h4⟩
 ·omega
 obtain rfl:s=⟨some ⟨g,0,none⟩,ps.length,cap⟩:=SlV.v_inj e;exact ⟨g,hg,(Array.getElem?_eq_some_iff.1 hh).1,rfl,ps,cur,rfl,rfl,h1,h2,hh,h3,h4,fun p q=>⟨(hp p q).more hw,.of (hp p q) fun _ z=>z⟩⟩
theorem OwnNm.set [Lo] (h:OwnNm M w g s Ls) (hM:¬M g) {i:Nat} (hi:i<Ls.length) (hl:IsNd w w.heap.size l L) (ho:InNd M l) {new:Array Value} (st:Set1 w w' g 81 new)
  (hnew:∀ cur:Array Value,RowAt w g 81 cur->new.toList=cur.toList.take (0+i*8)++(l.cs L).toList++cur.toList.drop (0+i*8+8)):OwnNm M w' g s (Ls.set i L):=by
 obtain ⟨e,ps,cur,rfl,h2,h3,h4,h5,h6,h7,h8⟩:=h;rw [List.length_map] at hi;have hnew:=hnew cur h5;have k:Kept M w w':=(Kept.mono st.alt fun i _ z q=>hM (q▸z));have hT:cur.toList=ndCells ps++cur.toList.drop (ps.length*8):=by
  conv=>lhs;rw [<-List.take_append_drop (ps.length*8) cur.toList,h7]
 generalize hR:cur.toList.drop (ps.length*8)=R at hT;have hlen:=ndCells_len ps;have hnw:new.toList=ndCells (ps.set i (l,L))++R:=by
  rw [hnew,<-ndCells_set ps i (l,L) hi,hT,Nat.zero_add,List.take_append_of_le_length (by omega),List.drop_append_of_le_length (by omega)];simp only [List.append_assoc,ndc]
 refine ⟨e,ps.set i (l,L),new,by rw [List.map_set],by rw [List.length_set];exact h2,h3,h4,st.row,?_,?_,fun p hp=>?_⟩
 ·have hc:cur.toList.length=s.c*8:=by
   rw [Array.length_toList];exact h6
  rw [<-Array.length_toList,hnw,List.length_append,ndCells_len,List.length_set,<-hR,List.length_drop,hc];omega
 ·rw [hnw];exact List.take_left' (by rw [ndCells_len])
 rcases List.mem_or_eq_of_mem_set hp with q | q
 ·exact ⟨(h8 p q).1.inn (h8 p q).2 k,(h8 p q).2⟩
 subst q;exact ⟨hl.inn ho k,ho⟩
end
section
variable {ops:Array Oper} {Q:Exit->Act->World->Prop} {n d:Nat} {E:Env} {o:Oper} {rest:List Oper} {w w':World} {x y z:Operand} {ty:TypeId} {g T base:Nat} {s r:SlV} {l:NdV} {L:Nd} {Ls:List Nd} {xs:List Int} {M:Nat->Prop} {u:Value} {Xs Ys:List (List Int)}
theorem lg_stM [Lo] {i:Nat} (hown:OwnNm M w g s Ls) (hM:¬M g) (hl:IsNd w w.heap.size l L) (hof:InNd M l) (hi:i<Ls.length) (hw:Want ops E o true) (ho:o.op=.store 81 x y) (hx:val E x=some (pv g (0+i*8))) (hy:val E y=some (.agg (l.cs L))) (hd:o.dst=none)
  (h:∀ w' new,Set1 w w' g 81 new->OwnNm M w' g s (Ls.set i L)->LG prog ops Q n E rest w'):LG prog ops Q n E (o::rest) w:=by
 have hm:=hown.len;have hown2:=hown;obtain ⟨e,ps,cur,h1,h2,h3,h4,h5,h6,h7,h8⟩:=hown;refine lg_st (j:=0+i*8) hw h5 ho hx hy (by kernel_rfl) (by kernel_rfl) (by rw [h6];show 0+i*8+8<=_;omega) rfl hd fun w' st=>h w' _ st (hown2.set hM hi hl hof st fun cur' r'=>?_);obtain rfl:cur=cur':=by
  unfold RowAt at h5 r';rw [h5] at r';injection r' with r'
  injection r'
 rfl
theorem OwnOc.hs (h:OwnOc w base s.v Xs):∃ ps:List OcP,ps.map (·.2)=Xs/\s.m=ps.length/\(∀ p∈ps,Hs w p.1 p.2)/\(0<s.m->∃ b,s.A=some ⟨b,0,none⟩/\∀ j u,(ps.map (·.1.v))[j]?=some u->w.cell? ⟨b,j,none⟩=some u):=by
 obtain ⟨ps,rfl,ho,hp⟩:=h;rcases ho.2 with ⟨e,h0⟩ | ⟨g,cap,cur,e,hg,hh,h1,h2,h3,h4⟩
 ·obtain rfl:s=nilS:=SlV.v_inj e;exact ⟨ps,rfl,h0.symm,hp,fun q=>absurd q (Nat.lt_irrefl 0)⟩
 obtain rfl:s=⟨some ⟨g,0,none⟩,ps.length,cap⟩:=SlV.v_inj e;refine ⟨ps,rfl,rfl,hp,fun _=>⟨g,rfl,fun j u hu=>?_⟩⟩;have:=ho.cells (g:=g) rfl j u hu;rw [Addr.add_lit] at this;simpa using this
theorem RwOc.tail {B l:Nat} (h:RwOc w B s Xs) (hl:l<=s.m):RwOc w B ⟨cutA s.A l s.c,s.m-l,s.c-l⟩ (Xs.drop l):=by
 have hc:=h.cap;have hle:=h.len;refine ⟨by show s.m-l<=s.c-l;omega,by have:=h.2.1;show s.c-l<=_;omega,by rw [List.length_drop,hle],fun hm=>?_⟩;have hm:0<s.m-l:=hm;obtain ⟨b,o,e,hB,hcell⟩:=h.2.2.2 (by omega);refine ⟨b,o+l,?_,hB,fun i xs hx=>?_⟩
 ·show cutA s.A l s.c=_;rw [e];unfold cutA;rw [if_neg (by omega),Option.map_some,Addr.add_lit,Nat.mul_one]
 rw [List.getElem?_drop] at hx;obtain ⟨r,h1,h2⟩:=hcell (l+i) xs hx;exact ⟨r,h1,by rw [show o+l+i*1=o+(l+i)*1 by omega];exact h2⟩
theorem OwnOc.set (h:OwnOc w base s.v Xs) {i:Nat} (hi:i<Xs.length) (hs:Hs w r xs):∃ g cap cur,s=⟨some ⟨g,0,none⟩,Xs.length,cap⟩/\base<=g/\RowAt w g 26 cur/\cur.size=cap/\Xs.length<=cap/\∀ w',Set1 w w' g 26 (cur.setIfInBounds i r.v)->OwnOc w' base s.v (Xs.set i xs):=by
 obtain ⟨ps,rfl,ho,hp⟩:=h;rw [List.length_map] at hi ⊢;rcases ho.2 with ⟨e,h0⟩ | ⟨g,cap,cur,e,hg,hh,h1,h2,h3,h4⟩
 ·omega
 obtain rfl:s=⟨some ⟨g,0,none⟩,ps.length,cap⟩:=SlV.v_inj e;have hcc:cur.size=cap:=by omega
 refine ⟨g,cap,cur,rfl,hg,hh,hcc,h1,fun w' st=>⟨ps.set i (r,xs),by rw [List.map_set],⟨by rw [List.length_map,Nat.mul_one],.inr ⟨g,cap,_,by rw [List.length_set],hg,st.row,by rw [List.length_set];exact h1,h2,by rw [Array.size_setIfInBounds];omega,?_⟩⟩,fun p hq=>?_⟩⟩
 ·rw [List.length_set,Array.toList_setIfInBounds,List.map_set,List.take_set,h4]
 have k:Alt w w' g:=st.alt;have hne:∀ k cs,w.heap[k]?=some (.cells cs 5 (0,0))->k≠g:=fun k cs e q=>by
  rw [q,hh] at e;exact oc_ne_u8 (by injection e with e;injection e)
 rcases List.mem_or_eq_of_mem_set hq with z | z
 ·exact (hp p z).kept k hne
 subst z;exact hs.kept k hne
theorem OwnOc.addr {i:Nat} (h:OwnOc w base s.v Xs) (hi:i<Xs.length):∃ g,s.A=some ⟨g,0,none⟩/\base<=g/\g<w.heap.size:=by
 obtain ⟨ps,rfl,ho,hp⟩:=h;rw [List.length_map] at hi;rcases ho.2 with ⟨e,h0⟩ | ⟨g,cap,cur,e,hg,hh,_⟩
 ·omega
 obtain rfl:s=⟨some ⟨g,0,none⟩,ps.length,cap⟩:=SlV.v_inj e;exact ⟨g,rfl,hg,(Array.getElem?_eq_some_iff.1 hh).1⟩
end
section
variable {P:Program} {Q:Exit->Act->World->Prop} {n:Nat} {E:Env} {w:World} {v u z:Value} {ds:List Deferred}
theorem res_tmp3 {fn:Func} {p q r:Tmp} {w':World} (h:fn.results=#[.tmp p,.tmp q,.tmp r]) (hp:look E p=some v) (hq:look E q=some u) (hr:look E r=some z):∀ a,Holds n E a->(results fn a.tmps).run P w'=.ok (.tuple #[v,u,z]) w':=fun a ha=>by
 have h1:=ha.2.2 p _ hp;have h2:=ha.2.2 q _ hq;have h3:=ha.2.2 r _ hr;simp [results,h,h1,h2,h3]
theorem cx_told3 {α:Type} {g:Operand} {p q d1 d2:Nat} {asg body:Code} {gf:FuncId} {lb:Array Value} {e1 e2:α->Value} {xs:List α} {dep:Nat->Prop} {m0:Nat->Prop}
  (hf : ((P.funcs[gf]?).map fun fn => (fn.name == "runtime.NumGoroutine", fn.body.isNone)) = some (false, false))
  (hg:val E g=some (.func (.func gf) #[] lb)) (hT:Tells P gf lb (fun x=>#[e1 x,e2 x]) xs dep w) (hm:∀ k,m0 k->¬dep k/\k<w.heap.size) (hdl:∀ k,w.heap.size<=k->¬dep k) (hp:p<n) (hq:q<n)
  (I:List α->(Nat->Prop)->World->Prop) (Ix:Code->List α->(Nat->Prop)->World->Prop) (hI:Lasts w.heap.size I) (hIx:∀ c,Lasts w.heap.size (Ix c)) (h0:I [] m0 w)
  (hassign:∀ l x W,CX (some l) [] P (Exit.then (fun a' W'=>W'=W/\Holds n ((d2,e2 x)::(d1,e1 x)::(q,e2 x)::(p,e1 x)::E) a') (fun _ _ _=>False)) n ((q,e2 x)::(p,e1 x)::E) asg W)
  (hbody:∀ l pre x W m,Did m0 m w W->I pre m W->(pre++[x]) <+: xs->CX (some l) [] P (toldPost I Ix (pre++[x]) m W) n ((d2,e2 x)::(d1,e1 x)::(q,e2 x)::(p,e1 x)::E) body W)
  (hdone:∀ D W m,w.heap.size<=D->Did m0 m w W->¬m D->I xs m W->W.heap[D]?=some (.deferred (some []))->∀ a,Holds n E a->Q .normal (mkd (mark D::ds) a) W)
  (hstop:∀ D c pre W m,w.heap.size<=D->pre <+: xs->Did m0 m w W->¬m D->Ix c pre m W->W.heap[D]?=some (.deferred (some []))->CX none (mark D::ds) P Q n E c W) :
  CX none ds P Q n E (.rangeFunc g #[p,q] asg body) w :=
 cx_told (fun x=>(q,e2 x)::(p,e1 x)::E) (fun x=>(d2,e2 x)::(d1,e1 x)::(q,e2 x)::(p,e1 x)::E) hf hg hT (fun _=>rfl) hm hdl (fun x tmps ha=>hold_two hp hq ha) I Ix hI hIx h0 hassign hbody hdone hstop
theorem as_two {d1 d2 p q i1 i2:Nat} {l1 l2:List Oper} {o1 o2:Oper} (hl1:l1=[o1]) (ho1:o1.op=.assign (.tmp p)) (hd1:o1.dst=some d1) (hg1:o1.guard=none) (hn1:d1<n) (hv1:look E p=some v)
  (hl2:l2=[o2]) (ho2:o2.op=.assign (.tmp q)) (hd2:o2.dst=some d2) (hg2:o2.guard=none) (hn2:d2<n) (hv2:look ((d1,v)::E) q=some u) (k:Nat) (W:World) :
  CX (some k) [] P (Exit.then (fun a' W'=>W'=W/\Holds n ((d2,u)::(d1,v)::E) a') (fun _ _ _=>False)) n E (.seq (.region i1 l1.toArray false) (.region i2 l2.toArray false)) W:=by
 subst hl1;refine cx_seq (Qq (ls (y_assign ho1 (v:=v) (by simpa [val] using hv1)) hd1 hg1 hn1 (Qk fun a ha=>?_)) ?_)
 ·exact cx_at ha (as_take hl2 ho2 hd2 hg2 hn2 hv2 k W)
 simp [ndOp,ho1]
theorem Did.widen {m m':Nat->Prop} {A B:World} (h:Did m m A B) (hm:∀ k,m' k->m k\/(A.heap.size<=k/\k<B.heap.size)):Did m m' A B :=
 ⟨h.kept,fun k q=>(hm k q).imp id fun z=>z.1,fun k q=>(hm k q).elim (h.lt k) fun z=>z.2⟩
theorem Did.setb {m:Nat->Prop} {A B:World} {b:Nat} {t:TypeId} {cs:Array Value} (h:Set1 A B b t cs) (hb:m b) (hm:∀ k,m k->k<A.heap.size):Did m m A B:=by
 have u:=h.below 0 (Nat.zero_le _);exact ⟨⟨u.os,u.tape,u.output,u.size,fun k _ q=>h.other k fun e=>q (e▸hb)⟩,fun _ q=>.inl q,fun k q=>by rw [h.size];exact hm k q⟩
end
def InA (M:Nat->Prop) (s:SlV):Prop:=∀ p,s.A=some p->M p.block
section
variable {w w':World} {B n:Nat} {s:SlV} {xs:List Int} {M M':Nat->Prop}
theorem InA.nil (M:Nat->Prop):InA M nilS:=fun p e=>by cases e
theorem InA.in (h:InA M s):InS M s:=fun _=>h
theorem InA.mono (h:InA M s) (g:∀ k,M k->M' k):InA M' s:=fun p e=>g _ (h p e)
theorem Hs.inn (h:Hs w s xs) (f:InA M s) (k:Kept M w w'):Hs w' s xs :=
 ⟨h.1.inn f.in k,fun p e=>by
  obtain ⟨cs,hc⟩:=h.2 p e;exact ⟨cs,(k.block p.block (Array.getElem?_eq_some_iff.1 hc).1 (f p e)).trans hc⟩⟩
theorem Hs.lt (h:Hs w s xs):∀ p,s.A=some p->p.block<w.heap.size:=fun p e=>by
 obtain ⟨cs,hc⟩:=h.2 p e;exact (Array.getElem?_eq_some_iff.1 hc).1
theorem Hs.alt8 {b:Nat} {t:TypeId} {cs old:Array Value} (h:Hs w s xs) (st:Set1 w w' b t cs) (r:RowAt w b t old) (ht:t≠5):Hs w' s xs:=h.kept st.alt fun k c e q=>by
 subst q;unfold RowAt at r;rw [r] at e;injection e with e
 injection e with _ e
 exact ht e
theorem Tt.from (k:Below n w w') (h:Tt w) (h1:1<n) (h2:2<n):Tt w':=by
 obtain ⟨hb,tg,r⟩:=h;exact ⟨Tb.from k h1 hb,tg,RowAt.below k h2 r⟩
theorem SlN.offB [Lo] {g:Nat} (h:SlN w B s xs) (hB:B<=w.heap.size) (f:OffS g s) (k:Alt w w' g):SlN w' B s xs :=
 ⟨h.1,⟨h.2.1.1,h.ty.same fun h0 p hp=>k.block _ (Nat.lt_of_lt_of_le (h.blk h0 hp) hB) (f h0 p hp)⟩,h.2.2.1,fun h0=>by
  obtain ⟨b,o,e,hb,hc⟩:=h.2.2.2 h0;exact ⟨b,o,e,hb,fun i z hi=>(World.cell?_of_block (w:=w) (a:=⟨b,o+i,none⟩) (k.block b (by omega) (f h0 _ e))).trans (hc i z hi)⟩⟩
theorem SlN.belowN [Lo] (h:SlN w B s xs) (k:Below B w w'):SlN w' B s xs:=h.below k
end
section
variable {H:Type} {enc:TypeId × Value->H} {w:World} {spare:Nat->Bool} {held:Bool} {v:Value} {d:DataW H} {ps:List MemPlace} {r:Reach} {b0:Nat}
theorem cellsOc:prog.cellsOf 26=1:=by kernel_rfl
theorem open_rowOc {fuel:Nat} {cs:List Value} {x:DataW H × List MemPlace} (h:DataW.trod enc prog w 0 (fun _=>true) held fuel 29 cs=some x) :
  ∃ (s:SlV) (Xs:List (List Int)),cs=[s.v]/\RwOc w w.heap.size s Xs:=by
 rcases Go.Deep.open_slice huOcs h with ⟨hcs,_⟩ | ⟨a,len,cap,m,n,D,Pl,hcs,_,hl,hm,hmm,_,hx⟩
 ·exact ⟨nilS,[],hcs,RwOc.nil _ _⟩
 rw [if_pos rfl] at hmm;subst hmm;have key:∀ i,i<m->∃ (l:SlV) (L:List Int),Sl w w.heap.size l L/\w.cell? (a.add (i*1))=some l.v:=by
  intro i hi;obtain ⟨cs',h1,h2⟩:=hx i hi;obtain ⟨l,L,e,h3⟩:=open_bytesC h2;rw [cellsOc] at h1;refine ⟨l,L,h3,?_⟩;have:=cells_at h1 0 l.v (by rw [e];rfl);simpa [Addr.add] using this
 obtain ⟨b,off,spot⟩:=a;refine ⟨⟨some ⟨b,off,spot⟩,len,m⟩,(List.range len).pmap (fun i hi=>(key i hi).choose_spec.choose) (fun i hi=>by have:=List.mem_range.1 hi;omega),hcs,hl,hm,by simp,fun hpos=>?_⟩;have hpos:0<len:=hpos;obtain ⟨l0,L0,_,hc⟩:=key 0 (by omega);have hspot:spot=none:=by simpa [Addr.add] using World.cell?_spot hc
 subst hspot;refine ⟨b,off,rfl,?_,fun i L hL=>?_⟩
 ·have:=World.block_lt_of_cell? w _ hc;simpa [Addr.add] using this
 rw [List.getElem?_pmap,Option.pmap_eq_some_iff] at hL;obtain ⟨i',hi',h4,rfl⟩:=hL;have hi:i'=i:=by
  rw [List.getElem?_range (by have:=(List.getElem?_eq_some_iff.1 h4).1;simpa using this)] at h4;exact (Option.some.inj h4).symm
 subst hi;refine ⟨_,(key i' hi').choose_spec.choose_spec.1,?_⟩;exact (congrArg w.cell? (by rw [Addr.add_lit])).symm.trans (key i' hi').choose_spec.choose_spec.2
end
/- ChProg:
  Who made which node: the program.
-/
set_option maxRecDepth 20000
def inP (t:List Nd) (x:Int):Prop:=trIs t/\isN x (t.length:Int)/\(atN t x.toNat).kind=2
instance (t:List Nd) (x:Int):Decidable (inP t x):=by unfold inP;infer_instance
def chP (t:List Nd) (x c:Int):Prop:=c=leftI x (t.length:Int)\/c=rightI x (t.length:Int)
instance (t:List Nd) (x c:Int):Decidable (chP t x c):=by unfold chP;infer_instance
theorem Tt.set {w w':World} {b:Nat} {t t0:TypeId} {cs old:Array Value} (st:Set1 w w' b t cs) (h:Tt w) (h1:b≠1) (h2:b≠2):Tt w':=by
 obtain ⟨⟨tg,r⟩,tg2,r2⟩:=h;exact ⟨⟨tg,st.keep r (Ne.symm h1)⟩,tg2,st.keep r2 (Ne.symm h2)⟩
theorem in_no {x:Int} (h:¬inP t x):¬(isN x ((trAs t).length:Int)/\(atN (trAs t) x.toNat).kind=2):=fun q=>by
 by_cases h1:trIs t
 ·rw [trAs_ok h1] at q;exact h ⟨h1,q⟩
 rw [trAs_no h1] at q;have:=q.1.le;simp only [List.length_nil] at this;omega
theorem no_tree {x:Int} (h:¬trIs t):¬isN x ((trAs t).length:Int):=fun q=>by
 rw [trAs_no h] at q;have:=q.le;simp only [List.length_nil] at this;omega
theorem says_any [Lo] {l:NdV} {L:Nd} (hl:IsNd W B l L) (hB:B<=W.heap.size):Calls prog 311 #[.agg (l.cs L)] W fun e W'=>∃ v,e=.returned v/\∃ r:SlV,v=r.v/\Sl W' W'.heap.size r (saysN L)/\Bw W W':=by
 have hl:=hl.more hB;refine Ze func311 ntmps311 ?_;have u:=Br W;refine Zr<|Zb fun b1 w1 n1=>?_
 have ⟨r1,k1,z1,lt1⟩:=n1.f;refine ZAn [1,2] ?_;refine Qd<|Zr<|Zy 0 ?_
 refine Zv (nv L.kind) r1 ?_;refine Zi yi_eql (fun c2=>?_) fun c2=>?_
 ·refine Znt [1,2,5] ?_;refine Zr<|Zy 1 ?_
  refine Zy 3 ?_;refine Zv l.leaf.par.v r1 ?_;refine ZAnr [1,2] ?_;refine Qc ?_;have hl:=hl.below (Bm n1.below);have u:=Un u n1.below;exact Qa rfl rfl ⟨_,rfl,_,rfl,(by rw [saysN,if_pos c2];exact (hl.leaf.par.mW w1)),u⟩
 refine Zn [1,2,5] ?_;refine Zcf [1,2] ?_;refine Zr<|Zy 5 ?_
 refine Zy 1 ?_;refine Zv l.inner.hash.v r1 ?_;refine ZAnr [2] ?_;have hl:=hl.below (Bm n1.below);have u:=Un u n1.below;exact Qa rfl rfl ⟨_,rfl,_,rfl,(by rw [saysN,if_neg c2];exact (hl.inner.hash.mW w1)),u⟩
theorem isInner_any [Lo] {s:SlV} (h:RwNd W B s Ls) (x:Int) (hB:B<=W.heap.size) (rg:Tb W):Calls prog 244 #[s.v,nv x] W fun e W'=>∃ v,e=.returned v/\v=.bool (decide (inP Ls x))/\Bw W W':=by
 have h:=h.more hB;refine Ze func244 ntmps244 ?_;have u:=Br W;have q1:=h.len;have q2:=h.cap;refine ZrAn [0,1,4] ?_;refine ZrM ?_;by_cases c1:trIs Ls
 ·refine Zd (sane_any (h.mW W) Lr) ?_;rintro u2 w2 ⟨e2,hw2⟩;have zw2:=hw2.size;obtain rfl:u2=.bool true:=e2.trans (congrArg Value.bool (decide_eq_true c1));refine Xa 3 ?_;have h:=h.below (Bm hw2);refine Zt 7 (y_lenM (el:=81) h.len) ?_;by_cases c3:isN x (Ls.length:Int)
  ·have lex:=c3.le;refine Zt 7 (yb (dT c3) (Qp (isL_any x (Ls.length:Int) _))) ?_;refine Xa 4 ?_;obtain ⟨eb4,eo4,el4,eL4,eA4,eB4,eg4,eh4,ec4⟩:=h.at (x.toNat) (by have:=h.len;omega);refine Zt 13 (Yy s 81 8 x.toNat x eA4 (by omega) (by have:=h.len;omega) rfl rfl rfl) ?_;refine Zx 13 0 ?_;refine Zt 13 (y_celld (ec4 0 _ rfl)) ?_;refine Zp 13 yi_eql (fun c5=>?_) fun c5=>?_
   ·refine Xu 2 [4] ?_;have u:=Un u hw2;exact Qt (dT ⟨c1,c3,(by rw [atN_some eg4];exact c5)⟩).symm u
   refine Xu 2 [4] ?_;exact Qt (dF (fun q=>c5 (by have z:=q.2.2;rwa [atN_some eg4] at z))).symm (Un u hw2)
  refine Zt 7 (yb (dF c3) (Qp (isL_any x (Ls.length:Int) _))) ?_;refine Xu 10 [4] ?_;exact Qt (dF (fun q=>c3 q.2.1)).symm (Un u hw2)
 refine Zd (sane_any (h.mW W) Lr) ?_;rintro u6 w6 ⟨e6,hw6⟩;have zw6:=hw6.size;obtain rfl:u6=.bool false:=e6.trans (congrArg Value.bool (decide_eq_false c1));refine Xu 15 [4] ?_;exact Qt (dF (fun q=>c1 q.1)).symm (Un u hw6)
theorem isChild_any [Lo] {s:SlV} (h:RwNd W B s Ls) (x c:Int) (hB:B<=W.heap.size) (rg:Tb W):Calls prog 309 #[s.v,nv x,nv c] W fun e W'=>∃ v,e=.returned v/\v=.bool (decide (chP Ls x c))/\Bw W W':=by
 have h:=h.more hB;refine Ze func309 ntmps309 ?_;have u:=Br W;have q1:=h.len;have q2:=h.cap;refine ZrAn [0,1,2,6] ?_;refine XR 3 ?_;refine Za (y_lenM (el:=81) h.len) ?_;refine Za (Qp (left_any x (Ls.length:Int) _ (rg.up u))) ?_;refine Zi yi_eql (fun c1=>?_) fun c1=>?_
 ·refine Xu 9 [6] ?_;exact Qt (dT (.inl c1)).symm u
 refine Xa 4 ?_;refine Zt 13 (y_lenM (el:=81) h.len) ?_;refine Zt 13 (Qp (right_any x (Ls.length:Int) _ (rg.up u))) ?_;refine Zp 13 yi_eql (fun c2=>?_) fun c2=>?_
 ·refine Xu 2 [6] ?_;exact Qt (dT (.inr c2)).symm u
 refine Xu 2 [6] ?_;exact Qt (dF (fun q=>q.elim c1 c2)).symm u
theorem unmerged_any [Lo] {s:SlV} (h:RwNd W B s Ls) (hti:trIs Ls) {x:Int} (hx:isN x (Ls.length:Int)) (c:Int) (hB:B<=W.heap.size) (rg:Tb W):Calls prog 280 #[s.v,nv x,nv c] W fun e W'=>∃ v,e=.returned v/\∃ r:SlV,v=r.v/\SlN W' W'.heap.size r (unmB Ls x c)/\Bw W W':=by
 have h:=h.more hB;refine Ze func280 ntmps280 ?_;have u:=Br W;have q1:=h.len;have q2:=h.cap;have lex:=hx.le;have hun:=unm_small hti x.toNat;refine ZrAn [0,1,2,6] ?_;refine ZrAn [0,1,2,6,7] ?_;refine Qd<|ZrM ?_
 refine ZM ?_;obtain ⟨eb1,eo1,el1,eL1,eA1,eB1,eg1,eh1,ec1⟩:=h.at (x.toNat) (by have:=h.len;omega);refine Za (Yy s 81 8 x.toNat x eA1 (by omega) (by have:=h.len;omega) rfl rfl rfl) ?_;refine Zy 5 ?_;refine Zy 2 ?_;refine Za (y_celld (ec1 7 _ rfl)) ?_;refine Za (y_lenM (el:=3) eh1.inner.unm.len) ?_;refine Xn 1 [0,2,6,7,15,16,17] ?_;refine Qj ?_;obtain ⟨C,hC⟩:∃ q,q=W.heap.size:=⟨_,rfl⟩;have eL:eL1=atN Ls x.toNat:=(atN_some eg1).symm;subst eL;refine Qr (fun t a v=>∃ (qr:SlV),Holds 34 [(0,s.v),(2,nv c),(7,qr.v),(15,el1.inner.unm.v),(16,nv ((atN Ls x.toNat).inner.unm.length:Int)),(17,nv ((t:Nat):Int))] a/\RwNd v W.heap.size s Ls/\SlN v W.heap.size el1.inner.unm (atN Ls x.toNat).inner.unm/\v.ownsRow C 3 1 qr.v ((unmO ((atN Ls x.toNat).inner.unm.take t) c (Ls.length:Int))).length (((unmO ((atN Ls x.toNat).inner.unm.take t) c (Ls.length:Int))).map (Value.int .i64))/\Bw W v/\C<=v.heap.size/\t<=(atN Ls x.toNat).inner.unm.length/\W.heap.size<=C) ((atN Ls x.toNat).inner.unm.length+1) (fun a ha=>⟨nilS,ha.keep kz,h,(eh1.inner.unm.more (by omega)),(own_nilN _ _),u,(by omega),(Nat.zero_le _),(by omega)⟩) ?_;rintro t a v ht ⟨qr,ha,h,hu,g0,u,cC,tle,cW⟩;refine cg_at ha ?_;clear ha a;have zv:=u.size;have q1:=h.len;have q2:=h.cap;have ul:=unmO_le ((atN Ls x.toNat).inner.unm.take t) c (Ls.length:Int);rw [List.length_take] at ul;have le_u:=hu.len;have ca_u:=hu.cap;refine Zr ?_;refine Zi yi_lss (fun c2=>?_) fun c2=>?_
 ·refine Zn [0,2,7,15,16,17,18] ?_;refine Qd<|cg_ct rfl<|Zki [0,2,7,15,16,17] ?_
  refine Qd<|Qj<|Qd ?_
  have htn:t<(atN Ls x.toNat).inner.unm.length:=by omega
  have hub:=hun.1 _ (getD_mem htn);refine Qe<|Za (y_ixT (i:=t) (iI:=((t:Nat):Int)) hu (by omega) (by omega) rfl rfl rfl) ?_
  refine Za (y_ldT (i:=t) hu (by omega) rfl rfl) ?_;refine ZAn [0,2,7,15,16,17,9] ?_;refine ZrM ?_;refine Za (yi_mul rfl rfl rfl (by omega) (by omega)) ?_;refine Xa 2 ?_;refine Za (y_lenM (el:=81) h.len) ?_;by_cases c3:undI (2*(((atN Ls x.toNat).inner.unm).getD t 0)) c (Ls.length:Int)
  ·refine Zd (under_any (2*(((atN Ls x.toNat).inner.unm).getD t 0)) c (Ls.length:Int) _ (rg.up u)) ?_;rintro u4 w4 ⟨e4,hw4⟩;have zw4:=hw4.size;obtain rfl:u4=.bool true:=e4.trans (congrArg Value.bool (decide_eq_true c3));refine Znt [0,2,7,15,16,17,9,26] ?_;refine Qe<|ZM ?_
   refine ZM ?_;refine Za (yi_mul rfl rfl rfl (by omega) (by omega)) ?_;refine lg_bslice (el:=3) (z:=nv 0) (cs:=#[nv (2*(((atN Ls x.toNat).inner.unm).getD t 0))]) huIs (by kernel_rfl) (by decide) (by decide) rfl rfl (by kernel_rfl) rfl rfl (by decide) fun b5 w5 n5=>?_;have ⟨r5,k5,z5,_⟩:=n5.f;have m5:SlN w5 (b5+1) ⟨some ⟨b5,0,none⟩,1,1⟩ [(2*(((atN Ls x.toNat).inner.unm).getD t 0))]:=new_SlN (xs:=[(2*(((atN Ls x.toNat).inner.unm).getD t 0))]) r5 rfl (of_decide_eq_true (by kernel_rfl));have og5:w5.ownsRow b5 3 1 (.slice (some ⟨b5,0,none⟩) 1 1) ([(2*(((atN Ls x.toNat).inner.unm).getD t 0))]:List Int).length (([(2*(((atN Ls x.toNat).inner.unm).getD t 0))]:List Int).map (Value.int .i64)):=new_ownN (xs:=[(2*(((atN Ls x.toNat).inner.unm).getD t 0))]) n5 rfl (of_decide_eq_true (by kernel_rfl));have g0:=own_below g0 hw4;have g0:=own_below g0 n5.below;refine lg_appT g0 m5 (by simp only [List.length_cons,List.length_nil];omega) (by omega) Wn rfl rfl rfl rfl rfl (by decide) fun r6 w6 m6 g6 l6 z6=>?_;refine ZA ?_;refine Qk<|Qi<|Nx [0,2,15,16,17,7] ?_
   refine Qe<|Za Yj ?_
   refine ZM ?_;refine Qk ?_;have h:=((h.below (Bm hw4)).below (Bm n5.below)).below (Bm l6);have hu:=((hu.below (Bm hw4)).below (Bm n5.below)).below (Bm l6);have u:=(Un (Un u hw4) n5.below).trans (Bm l6);exact fun a ha=>(show t<((atN Ls x.toNat).inner.unm.length+1)/\_ from ⟨(by omega),r6,ha.keep kz,h,hu,(own_castN g6 (by rw [unmO_take htn,if_pos c3])),u,(by omega),(by omega),cW⟩)
  refine Zd (under_any (2*(((atN Ls x.toNat).inner.unm).getD t 0)) c (Ls.length:Int) _ (rg.up u)) ?_;rintro u7 w7 ⟨e7,hw7⟩;have zw7:=hw7.size;obtain rfl:u7=.bool false:=e7.trans (congrArg Value.bool (decide_eq_false c3));refine Zn [0,2,7,15,16,17,9,26] ?_;refine cg_cf rfl<|cg_skip<|Qi<|Nx [0,2,7,15,16,17] ?_
  refine Qe<|Za Yj ?_
  refine ZM ?_;refine Qk ?_;have g0:=own_below g0 hw7;have h:=h.below (Bm hw7);have hu:=hu.below (Bm hw7);have u:=Un u hw7;exact fun a ha=>(show t<((atN Ls x.toNat).inner.unm.length+1)/\_ from ⟨(by omega),qr,ha.keep kz,h,hu,(own_castN g0 (by rw [unmO_take htn,if_neg c3,List.append_nil])),u,(by omega),(by omega),cW⟩)
 refine Zn [0,2,7,15,16,17,18] ?_;refine Qd<|cg_cf rfl<|cg_exit<|Qh<|Qh<|Ql<|Nx [7] ?_
 refine XRu 2 [6] ?_;obtain rfl:t=(atN Ls x.toNat).inner.unm.length:=by omega
 exact Qa rfl rfl ⟨_,rfl,_,rfl,own_num (own_castN g0 (by rw [List.take_length];rfl)),u⟩
theorem sumF_any {s:SlV} {xs:List Int} (h:Sl W B s xs) (hB:B<=W.heap.size) (hl:xs.length<=100000) (tt:Tt W):Calls prog 242 #[s.v] W fun e W'=>∃ v,e=.returned v/\∃ r:SlV,v=r.v/\Hs W' r (sumL xs)/\Fr W.heap.size r/\Bw W W':=by
 obtain ⟨tg,r⟩:=tt.k;refine (sumT_any s.A s.m s.c xs W r (h.2.2.more hB) h.1 (by have:=h.len;omega)).mono ?_;rintro e W' ⟨v,rfl,hs⟩;exact ⟨v,rfl,Hs.ofF hs⟩
theorem pn_small (ht:trIs t) (i:Nat):(atN t i).inner.enc.length<=200/\(atN t i).inner.hash.length<=200:=by
 rcases nd_cases (trIs_ok ht i).1 with e | ⟨_,e,_⟩ | ⟨_,_,e⟩
 ·rw [e];exact ⟨Nat.zero_le _,Nat.zero_le _⟩
 ·rw [e];exact ⟨Nat.zero_le _,Nat.zero_le _⟩
 exact ⟨(pnCheck_ok e).2.1,(pnCheck_ok e).2.2.1⟩
theorem gives_any [Lo] {s:SlV} (h:RwNd W B s Ls) (hti:trIs Ls) {x:Int} (hx:isN x (Ls.length:Int)) (b:Int) (hB:B<=W.heap.size) (rg:Tt W):Calls prog 228 #[s.v,nv x,nv b] W fun e W'=>∃ v,e=.returned v/\∃ r:SlV,v=r.v/\Hs W' r (givesL Ls x b)/\Fr W.heap.size r/\Bw W W':=by
 have h:=h.more hB;refine Ze func228 ntmps228 ?_;have u:=Br W;have q1:=h.len;have q2:=h.cap;have lex:=hx.le;have hta:=trAs_ok hti;have hun:=(unm_small hti x.toNat).2;have hpl:=pn_small hti x.toNat;refine ZrAn [0,1,2,6] ?_;refine XR 2 ?_;obtain ⟨eb1,eo1,el1,eL1,eA1,eB1,eg1,eh1,ec1⟩:=h.at (x.toNat) (by have:=h.len;omega);refine Za (Yy s 81 8 x.toNat x eA1 (by omega) (by have:=h.len;omega) rfl rfl rfl) ?_;refine Zy 5 ?_;refine Za (y_loadC (cs:=el1.inner.cs eL1.inner) (nd_sub ec1)) ?_;refine lg_allocw (cs:=PnV.zero.cs Pn.zero) Wn rfl (by kernel_rfl) rfl (by decide) fun b2 w2 n2=>?_;have ⟨r2,k2,z2,lt2⟩:=n2.f;have o3:=r2;refine Zw r2 fun w3 s3=>?_;have ⟨r2,z3⟩:=s3.f;refine Zn [0,2,6,7] ?_;refine Qd ?_;have eL:eL1=atN Ls x.toNat:=(atN_some eg1).symm;subst eL;refine cg_held (by kernel_rfl) fun W4 eW4=>?_;have dW4:=below_drew _ _ eW4;have zW4:=size_drew _ _ eW4;clear eW4;have r2:=Rb dW4 r2;refine Zh 0 (fun q hq=>y_loadA (Rb hq r2) (by kernel_rfl) (by kernel_rfl) rfl rfl) ?_;refine Zh 1 (fun q hq=>y_move rfl rfl) ?_;refine Zh 2 (fun q hq=>y_move rfl rfl) ?_;refine Zh 3 (fun q hq=>y_fld (off:=2) (by kernel_rfl) rfl rfl) ?_;refine Zh 4 (fun q hq=>Qo (v:=el1.inner.unm.v) (Rb hq r2) rfl (by kernel_rfl) rfl rfl) ?_;have h:=((h.below (Bm n2.below)).below s3.bl).below (Bm dW4);have eh1:=((eh1.below (Bm n2.below)).below s3.bl).below (Bm dW4);have u:=Un ((Un u n2.below).trans s3.bl) dW4;refine Zo 5 ?_;refine Zc (without_any (h.mW W4) b (eh1.inner.unm.mW W4) Lr (by omega) (Tt.up u rg)) rfl rfl ?_;rintro _ w5 ⟨r5,rfl,m5,hw5⟩;have zw5:=hw5.size;have ol5:=ofH_len (dropL ((atN Ls x.toNat).inner.unm) (trAs Ls)) b;refine hg_next hw5 ?_;refine hg_up hw5 ?_;have eh1:=eh1.below (Bm hw5);refine Zo 6 ?_;refine Zc (ofParentN_any (eh1.inner.mW w5) (m5.mW w5) Lr (by omega) (by omega) (by omega)) rfl rfl ?_;rintro _ w6 ⟨r6,rfl,m6,hw6⟩;have zw6:=hw6.size;have lp6:=ofParentO_le (atN Ls x.toNat).inner (ofH (dropL ((atN Ls x.toNat).inner.unm) (trAs Ls)) b);refine hg_next hw6 ?_;refine hg_up hw6 ?_;have u:=Un (Un u hw5) hw6;refine Zo 7 ?_;refine Zc (sumF_any (m6.mW w6) Lr (by omega) (Tt.up u rg)) rfl rfl ?_;rintro _ w7 ⟨r7,rfl,m7,f7,hw7⟩;have zw7:=hw7.size;refine hg_next hw7 ?_;refine hg_up hw7 ?_;refine Zh 8 (fun q hq=>y_assign rfl rfl) ?_;refine hg_done (by kernel_rfl) ?_;refine Nx [6] ?_;refine cg_ret ?_;exact Qa rfl rfl ⟨_,rfl,_,rfl,(by have z:=m7;rwa [hta] at z),Fr.le f7 (by omega),Un u hw7⟩
theorem wrong_any [Lo] {s:SlV} {Xs:List (List Int)} (h:RwOc W B s Xs) (hB:B<=W.heap.size):Calls prog 226 #[s.v] W fun e W'=>∃ v,e=.returned v/\v=nv (keysE Xs)/\Bw W W':=by
 have h:=h.more hB;refine Ze func226 ntmps226 ?_;have u:=Br W;have q1:=h.len;have q2:=h.cap;refine ZrAn [0,2] ?_;refine Qd<|ZrM ?_
 refine Za (y_lenM (el:=26) h.len) ?_;refine Xn 1 [2,6,7,8] ?_;refine Qj<|Qr (fun t a v=>Holds 19 [(6,s.v),(7,nv (Xs.length:Int)),(8,nv ((t:Nat):Int))] a/\RwOc v W.heap.size s Xs/\Bw W v/\(∀ i,i<t->keyE (Xs.getD i [])=0)/\t<=Xs.length) (Xs.length+1) (fun a ha=>⟨ha.keep kz,h,u,(fun i hi=>absurd hi (Nat.not_lt_zero _)),(Nat.zero_le _)⟩) ?_
 rintro t a v ht ⟨ha,h,u,he,tle⟩;refine cg_at ha ?_;clear ha a;have zv:=u.size;have q1:=h.len;have q2:=h.cap;refine Zr ?_;refine Zi yi_lss (fun c1=>?_) fun c1=>?_
 ·refine Zn [6,7,8,9] ?_;refine Qd<|cg_ct rfl<|Zki [6,7,8] ?_
  refine Qd<|Qj<|Zr ?_
  obtain ⟨eb2,eo2,er2,eA2,eB2,eh2,ec2⟩:=h.at (t) (by have:=h.len;first | omega | (simp only [allH_len,allN_len,List.length_append,List.length_cons,List.length_nil] at this;omega));refine Za (Yx s 26 1 t eA2 (by have:=h.len;first | omega | (simp only [allH_len,allN_len,List.length_append,List.length_cons,List.length_nil] at this;omega)) rfl rfl rfl) ?_;refine Za (y_celld (ec2)) ?_;refine ZAn [6,7,8,4] ?_;refine ZrM ?_;refine Za (y_build (cs:=(⟨er2,nilS,nilS⟩:PnV).cs (⟨(Xs.getD t []),[],[]⟩:Pn))) ?_;refine Zd (checkP_any (show IsPn v v.heap.size (⟨er2,nilS,nilS⟩:PnV) (⟨(Xs.getD t []),[],[]⟩:Pn) from ⟨(eh2.mW v),((Sl.nil _ 0).mW v),((SlN.nil _ 0).mW v)⟩) Lr) ?_;rintro _ w3 ⟨rfl,hw3⟩;have zw3:=hw3.size;refine ZAn [6,7,8,5] ?_;refine ZrM ?_;refine Zj yi_neq (fun c4=>?_) fun c4=>?_
  ·refine Xc 0 [6,7,8,5,16] ?_;refine cg_skip<|Qi<|Nx [6,7,8] ?_
   refine Qe<|Za Yj ?_
   refine ZM ?_;refine Qk ?_;exact fun a ha=>(show t<(Xs.length+1)/\_ from ⟨(by omega),ha.keep kz,h.below (Bm hw3),Un u hw3,(fun i hi=>if q:i<t then he i q else by
     obtain rfl:i=t:=by omega
     exact (pn_key _).symm.trans c4),(by omega)⟩)
  refine Znt [6,7,8,5,16] ?_;refine XRu 2 [6,7,8,2] ?_;refine Qg<|Qc<|Qc<|Qg<|Qc ?_
  have hk:¬keyE (Xs.getD t [])=0:=fun q=>c4 ((pn_key _).trans q);exact Qn ((pn_key _).trans (keysE_first he (by omega) hk).symm) (Un u hw3)
 refine Zn [6,7,8,9] ?_;refine Qd<|cg_cf rfl<|cg_exit<|Qh<|Qh<|Ql<|nx (E':=[]) fn ?_
 refine ZrAr [2] ?_;exact Qn (keysE_none fun i hi=>he i (by omega)).symm u
theorem link_any [Lo] {s:SlV} (h:RwNd W B s Ls) (x c d:Int) (hB:B<=W.heap.size) (rg:Tt W):Calls prog 281 #[s.v,nv x,nv c,nv d] W fun e W'=>∃ v,e=.returned v/\v=.bool (decide (linkL (trAs Ls) x c d))/\Bw W W':=by
 have h:=h.more hB;refine Ze func281 ntmps281 ?_;have u:=Br W;have q1:=h.len;have q2:=h.cap;refine ZrAn [0,1,2,3,8] ?_;refine Qd<|ZrM ?_
 refine ZM ?_;by_cases c1:inP Ls x
 ·obtain ⟨hti,hx,hk2⟩:=id c1;have hta:=trAs_ok hti;have rl:=res_len (trAs_is Ls) c;refine Zd (isInner_any (h.mW W) x Lr (Tt.up u rg).b) ?_;rintro u2 w2 ⟨e2,hw2⟩;have zw2:=hw2.size;obtain rfl:u2=.bool true:=e2.trans (congrArg Value.bool (decide_eq_true c1));refine Xa 5 ?_;have h:=h.below (Bm hw2);have u:=Un u hw2;by_cases c3:chP Ls x c
  ·refine Zdt 14 (isChild_any (h.mW w2) x c Lr (Tt.up u rg).b) ?_;rintro u4 w4 ⟨e4,hw4⟩;have zw4:=hw4.size;obtain rfl:u4=.bool true:=e4.trans (congrArg Value.bool (decide_eq_true c3));refine Xa 5 ?_;have h:=h.below (Bm hw4);refine Zt 21 (y_lenM (el:=81) h.len) ?_;by_cases c5:isN d (Ls.length:Int)
   ·have led:=c5.le;refine Zt 21 (yb (dT c5) (Qp (isL_any d (Ls.length:Int) _))) ?_;refine Xn 2 [0,1,2,3,8,27] ?_;refine Zcf [0,1,2,3,8] ?_;refine XR 2 ?_;have u:=Un u hw4;refine Zd (resolve_any (h.mW w4) c Lr (Tt.up u rg).b) ?_;rintro _ w6 ⟨s6,rfl,m6,hw6⟩;have zw6:=hw6.size;refine ZAn [0,1,2,3,8,9] ?_;refine Qd<|ZrM ?_
    refine ZM ?_;refine Zi (Qp (containsI_any m6 d)) (fun c7=>?_) fun c7=>?_
    ·refine Xa 4 ?_;refine lg_bsliceW (el:=3) (z:=nv 0) (cs:=#[nv d]) (want_t (dj:=35) (by rfl) (by kernel_rfl) rfl) huIs (by kernel_rfl) (by decide) (by decide) rfl rfl (by kernel_rfl) rfl (by decide) fun b8 w8 n8=>?_;have ⟨r8,k8,z8,_⟩:=n8.f;have m8:SlN w8 (b8+1) ⟨some ⟨b8,0,none⟩,1,1⟩ [d]:=new_SlN (xs:=[d]) r8 rfl (of_decide_eq_true (by kernel_rfl));have og8:w8.ownsRow b8 3 1 (.slice (some ⟨b8,0,none⟩) 1 1) ([d]:List Int).length (([d]:List Int).map (Value.int .i64)):=new_ownN (xs:=[d]) n8 rfl (of_decide_eq_true (by kernel_rfl));have m6:=m6.below (Bm n8.below);refine Zct 35 (cutP_any m6 m8 (by omega) (by omega) (by omega) (by simp only [List.length_cons,List.length_nil];omega)) rfl rfl ?_;rintro _ w9 ⟨r9,rfl,m9,hw9⟩;have zw9:=hw9.size;have cl9:=cutK_length (resL (trAs Ls) c) ([d]:List Int);refine Xa 3 ?_;have h:=((h.below (Bm hw6)).below (Bm n8.below)).below (Bm hw9);have u:=Un (Un (Un u hw6) n8.below) hw9;refine Zdt 35 (unmerged_any (h.mW w9) hti hx c Lr (Tt.up u rg).b) ?_;rintro _ w10 ⟨r10,rfl,m10,hw10⟩;have zw10:=hw10.size;have ul10:(unmB Ls x c).length<=64:=Nat.le_trans (unmO_le _ _ _) (unm_small hti _).2;have m9:=m9.below (Bm hw10);by_cases c11:(cutK (resL (trAs Ls) c) ([d]:List Int))=(unmB Ls x c)
     ·refine Zct 35 (equalN_S m9 m10 (by omega) (by omega)) rfl rfl ?_;rintro u12 w12 ⟨e12,hw12⟩;have zw12:=hw12.size;obtain rfl:u12=.bool true:=e12.trans (congrArg Value.bool (decide_eq_true c11));refine Xn 2 [0,1,2,3,8,46] ?_;refine Zcf [0,1,2,3,8] ?_;refine XR 2 ?_;have h:=(h.below (Bm hw10)).below (Bm hw12);obtain ⟨eb13,eo13,el13,eL13,eA13,eB13,eg13,eh13,ec13⟩:=h.at (d.toNat) (by have:=h.len;omega);refine Za (Yy s 81 8 d.toNat d eA13 (by omega) (by have:=h.len;omega) rfl rfl rfl) ?_;refine Za (y_loadC (cs:=el13.cs eL13) ec13) ?_;refine Zd (says_any (eh13.mW w12) Lr) ?_;rintro _ w14 ⟨r14,rfl,m14,hw14⟩;have zw14:=hw14.size;refine Xa 4 ?_;have h:=h.below (Bm hw14);refine Za (y_lenM (el:=81) h.len) ?_;have u:=Un (Un (Un u hw10) hw12) hw14;refine Za (Qp (sibling_any c (Ls.length:Int) _ (Tt.up u rg).b)) ?_;refine Zd (gives_any (h.mW w14) hti hx (sibI c (Ls.length:Int)) Lr (Tt.up u rg)) ?_;rintro _ w15 ⟨r15,rfl,m15,f15,hw15⟩;have zw15:=hw15.size;have gl15:=gives_len Ls x (sibI c (Ls.length:Int));have m14:=m14.below (Bm hw15);refine Zi (Qp (bytesEq_S m14 m15.1)) (fun c16=>?_) fun c16=>?_
      ·refine ZAnr [8] ?_;have u:=Un u hw15;exact Qt (dT (by rw [hta];exact ⟨hx,hk2,c3,(by have z:=c7;rwa [hta] at z),(by have z:=c11;rwa [hta] at z),(by rw [atN_some eg13];exact c16)⟩)).symm u
      refine ZAnr [8] ?_;exact Qt (dF (fun q=>c16 (by have z:=q.2.2.2.2.2;rwa [hta,atN_some eg13] at z))).symm (Un u hw15)
     refine Zct 35 (equalN_S m9 m10 (by omega) (by omega)) rfl rfl ?_;rintro u17 w17 ⟨e17,hw17⟩;have zw17:=hw17.size;obtain rfl:u17=.bool false:=e17.trans (congrArg Value.bool (decide_eq_false c11));refine Xt 2 [0,1,2,3,8,46] ?_;refine ZrAr [0,1,2,3,8] ?_;refine Qc ?_;have u:=Un (Un u hw10) hw17;exact Qt (dF (fun q=>c11 (by have z:=q.2.2.2.2.1;rw [hta] at z ⊢;exact z))).symm u
    refine Xt 13 [0,1,2,3,8,46] ?_;refine ZrAr [0,1,2,3,8] ?_;refine Qc ?_;exact Qt (dF (fun q=>c7 q.2.2.2.1)).symm (Un u hw6)
   refine Zt 21 (yb (dF c5) (Qp (isL_any d (Ls.length:Int) _))) ?_;refine Xt 2 [0,1,2,3,8,27] ?_;refine ZrAr [0,1,2,3,8] ?_;refine Qc ?_;have u:=Un u hw4;exact Qt (dF (fun q=>c5 (by obtain ⟨_,_,_,q4,_,q6⟩:=q;rw [hta] at q4 q6;exact (says_node q6 (res_range hti q4).1 hti).1))).symm u
  refine Zdt 14 (isChild_any (h.mW w2) x c Lr (Tt.up u rg).b) ?_;rintro u18 w18 ⟨e18,hw18⟩;have zw18:=hw18.size;obtain rfl:u18=.bool false:=e18.trans (congrArg Value.bool (decide_eq_false c3));refine Xt 9 [0,1,2,3,8,27] ?_;refine ZrAr [0,1,2,3,8] ?_;refine Qc ?_;exact Qt (dF (fun q=>c3 (by have z:=q.2.2.1;rwa [hta] at z))).symm (Un u hw18)
 refine Zd (isInner_any (h.mW W) x Lr (Tt.up u rg).b) ?_;rintro u19 w19 ⟨e19,hw19⟩;have zw19:=hw19.size;obtain rfl:u19=.bool false:=e19.trans (congrArg Value.bool (decide_eq_false c1));refine Xt 15 [0,1,2,3,8,27] ?_;refine ZrAr [0,1,2,3,8] ?_;refine Qc ?_;exact Qt (dF (fun q=>in_no c1 ⟨q.1,q.2.1⟩)).symm (Un u hw19)
theorem made_any [Lo] {s:SlV} (h:RwNd W B s Ls) (hti:trIs Ls) {x:Int} (hx:isN x (Ls.length:Int)) (hB:B<=W.heap.size) (rg:Tt W):Calls prog 245 #[s.v,nv x] W fun e W'=>∃ v,e=.returned v/\v=.bool (decide (madeL Ls x (leftI x (Ls.length:Int))\/madeL Ls x (rightI x (Ls.length:Int))))/\Bw W W':=by
 have h:=h.more hB;refine Ze func245 ntmps245 ?_;have u:=Br W;have q1:=h.len;have q2:=h.cap;have hta:=trAs_ok hti;refine ZrAn [0,1,4] ?_;refine cg_scope ?_;refine Qd<|cg_label ?_
 refine Nx [0,1,4] ?_;refine Qd<|ZrM ?_
 refine ZM ?_;refine Za (y_lenM (el:=81) h.len) ?_;refine Za (Qp (left_any x (Ls.length:Int) _ (Tt.up u rg).b)) ?_;refine Xa 2 ?_;refine Za (y_lenM (el:=81) h.len) ?_;refine Za (Qp (right_any x (Ls.length:Int) _ (Tt.up u rg).b)) ?_;refine Za (y_build (cs:=#[nv (leftI x (Ls.length:Int)),nv (rightI x (Ls.length:Int))])) ?_;refine Xn 1 [0,1,4,18,19] ?_;refine Qj<|Qr (fun t a v=>Holds 44 [(0,s.v),(1,nv x),(18,.agg #[nv (leftI x (Ls.length:Int)),nv (rightI x (Ls.length:Int))]),(19,nv ((t:Nat):Int))] a/\RwNd v W.heap.size s Ls/\Bw W v/\(∀ i,i<t->¬madeL Ls x (kidI x (Ls.length:Int) i))) 2 (fun a ha=>⟨ha.keep kz,h,u,(fun i hi=>absurd hi (Nat.not_lt_zero _))⟩) ?_
 rintro t a v ht ⟨ha,h,u,hno⟩;refine cg_at ha ?_;clear ha a;have zv:=u.size;have q1:=h.len;have q2:=h.cap;refine Zr ?_;refine Zi yi_lss (fun c1=>?_) fun c1=>?_
 ·refine Zn [0,1,18,19,20] ?_;refine Qd<|cg_ct rfl<|Zki [0,1,18,19] ?_
  refine Qd<|Qj<|Zr ?_
  have hk2:(#[nv (leftI x (Ls.length:Int)),nv (rightI x (Ls.length:Int))]:Array Value)[t]?=some (nv (kidI x (Ls.length:Int) t)):=by
   rcases (by omega:t=0\/t=1) with rfl | rfl<;>rfl
  refine Za (y_idx (len:=2) (el:=3) (k:=.i64) (by kernel_rfl) (by kernel_rfl) (by kernel_rfl) (by omega) hk2 rfl rfl rfl) ?_;refine ZAn [0,1,18,19,6] ?_;refine XR 3 ?_;refine Zd (unmerged_any (h.mW v) hti hx (kidI x (Ls.length:Int) t) Lr (Tt.up u rg).b) ?_;rintro _ w2 ⟨r2,rfl,m2,hw2⟩;have zw2:=hw2.size;have ul2:(unmB Ls x (kidI x (Ls.length:Int) t)).length<=64:=Nat.le_trans (unmO_le _ _ _) (unm_small hti _).2;refine ZAn [0,1,18,19,6,7] ?_;refine XR 2 ?_;have h:=h.below (Bm hw2);have u:=Un u hw2;refine Zd (resolve_any (h.mW w2) (kidI x (Ls.length:Int) t) Lr (Tt.up u rg).b) ?_;rintro _ w3 ⟨s3,rfl,m3,hw3⟩;have zw3:=hw3.size;refine Za (yv (congrArg nv (show ((resL (trAs Ls) (kidI x (Ls.length:Int) t)).length:Int)=((resL Ls (kidI x (Ls.length:Int) t)).length:Int) by rw [hta])) (y_lenM (el:=3) m3.len (by kernel_rfl) rfl rfl)) ?_;refine Xn 1 [0,1,18,19,6,7,28,29,30] ?_;refine Qj ?_;have ht2:t<2:=by omega
  obtain ⟨C,hC⟩:∃ q,q=w3.heap.size:=⟨_,rfl⟩;have m2:=m2.below (Bm hw3);have h:=h.below (Bm hw3);have u:=Un u hw3;refine Qr (fun j a v=>Holds 44 [(0,s.v),(1,nv x),(6,nv (kidI x (Ls.length:Int) t)),(7,r2.v),(18,.agg #[nv (leftI x (Ls.length:Int)),nv (rightI x (Ls.length:Int))]),(19,nv ((t:Nat):Int)),(28,s3.v),(29,nv ((resL Ls (kidI x (Ls.length:Int) t)).length:Int)),(30,nv ((j:Nat):Int))] a/\RwNd v W.heap.size s Ls/\Bw W v/\SlN v C r2 (unmB Ls x (kidI x (Ls.length:Int) t))/\SlN v C s3 (resL Ls (kidI x (Ls.length:Int) t))/\C<=v.heap.size/\W.heap.size<=C/\j<=(resL Ls (kidI x (Ls.length:Int) t)).length/\(∀ q,q<j->(resL Ls (kidI x (Ls.length:Int) t)).getD q 0∈unmB Ls x (kidI x (Ls.length:Int) t))) ((resL Ls (kidI x (Ls.length:Int) t)).length+1) (fun a ha=>⟨ha.keep kz,h,u,(m2.more (by omega)),(by have z:=m3.more (B':=C) (by omega);rwa [hta] at z),(by omega),(by omega),(Nat.zero_le _),(fun q hq=>absurd hq (Nat.not_lt_zero _))⟩) ?_;rintro j a v ht ⟨ha,h,u,ho,hr,cC,cW,jle,hin⟩;refine cg_at ha ?_;clear ha a;have zv:=u.size;have q1:=h.len;have q2:=h.cap;have q3:=hr.len;have q4:=hr.cap;have q5:=ho.len;have q6:=ho.cap;refine Zr ?_;refine Zi yi_lss (fun c4=>?_) fun c4=>?_
  ·refine Zn [0,1,6,7,18,19,28,29,30,31] ?_;refine Qd<|cg_ct rfl<|Zki [0,1,6,7,18,19,28,29,30] ?_
   refine Qd<|Qj<|Qd ?_
   have hjn:j<(resL Ls (kidI x (Ls.length:Int) t)).length:=by omega
   refine Qe<|Za (y_ixT (i:=j) (iI:=((j:Nat):Int)) hr (by omega) (by omega) rfl rfl rfl) ?_
   refine Za (y_ldT (i:=j) hr (by omega) rfl rfl) ?_;refine ZAn [0,1,6,7,18,19,28,29,30,9] ?_;refine Qd<|ZrM ?_
   refine ZM ?_;refine Zi (Qp (containsI_any ho ((resL Ls (kidI x (Ls.length:Int) t)).getD j 0))) (fun c5=>?_) fun c5=>?_
   ·refine Znt [0,1,6,7,18,19,28,29,30,9,36] ?_;refine cg_exit<|Qh<|Ql<|Nx [0,1,6,7,18,19,28,29,30] ?_
    refine Qe<|Za Yj ?_
    refine ZM ?_;refine Qk ?_;exact fun a ha=>(show j<((resL Ls (kidI x (Ls.length:Int) t)).length+1)/\_ from ⟨(by omega),ha.keep kz,h,u,ho,hr,(by omega),cW,(by omega),(fun q hq=>if z:q<j then hin q z else by
      obtain rfl:q=j:=by omega
      exact c5)⟩)
   refine Zn [0,1,6,7,18,19,28,29,30,9,36] ?_;refine Zcf [0,1,6,7,18,19,28,29,30,9] ?_;refine Qd<|ZrM ?_
   refine Xa 3 ?_;by_cases c6:linkL (trAs Ls) x (kidI x (Ls.length:Int) t) ((resL Ls (kidI x (Ls.length:Int) t)).getD j 0)
   ·refine Zd (link_any (h.mW v) x (kidI x (Ls.length:Int) t) ((resL Ls (kidI x (Ls.length:Int) t)).getD j 0) Lr (Tt.up u rg)) ?_;rintro u7 w7 ⟨e7,hw7⟩;have zw7:=hw7.size;obtain rfl:u7=.bool true:=e7.trans (congrArg Value.bool (decide_eq_true c6));refine Znt [0,1,6,7,18,19,28,29,30,41] ?_;refine ZrAr [0,1,6,7,18,19,28,29,30,4] ?_;refine Qc<|Qg<|Qc<|Qc<|Qg<|Qg<|Qc<|Qc<|Qg<|Qc<|eg_scope_ret ?_
    have u:=Un u hw7;exact Qa rfl rfl ⟨_,rfl,congrArg Value.bool (dT (show madeL Ls x (leftI x (Ls.length:Int))\/madeL Ls x (rightI x (Ls.length:Int)) from by
     have hl:linkL Ls x (kidI x (Ls.length:Int) t) ((resL Ls (kidI x (Ls.length:Int) t)).getD j 0):=by have z:=c6;rwa [hta] at z
     have hm:madeL Ls x (kidI x (Ls.length:Int) t):=⟨_,hl.2.2.2.1,hl⟩;rcases (by omega:t=0\/t=1) with rfl | rfl
     ·exact .inl hm
     exact .inr hm)).symm,u⟩
   refine Zd (link_any (h.mW v) x (kidI x (Ls.length:Int) t) ((resL Ls (kidI x (Ls.length:Int) t)).getD j 0) Lr (Tt.up u rg)) ?_;rintro u8 w8 ⟨e8,hw8⟩;have zw8:=hw8.size;obtain rfl:u8=.bool false:=e8.trans (congrArg Value.bool (decide_eq_false c6));refine Zn [0,1,6,7,18,19,28,29,30,41] ?_;refine Zcf [0,1,6,7,18,19,28,29,30] ?_;refine cg_exit<|eg_block_other (by decide) ?_
   refine Qh<|Qh<|eg_block_other (by decide) ?_
   refine Ql<|Nx [0,1,18,19] ?_
   refine Qe<|Za Yj ?_
   refine ZM ?_;refine Qk ?_;exact fun a ha=>(show t<2/\_ from ⟨(by omega),ha.keep kz,h.below (Bm hw8),Un u hw8,(fun i hi=>if q:i<t then hno i q else by
     obtain rfl:i=t:=by omega
     exact (fun ⟨d,_,hd⟩=>c6 (by rw [hta];exact (link_first hd (by omega) hin c5)▸hd)))⟩)
  refine Zn [0,1,6,7,18,19,28,29,30,31] ?_;refine Qd<|cg_cf rfl<|cg_exit<|Qh<|Qh<|Ql<|Qi<|Nx [0,1,18,19] ?_
  refine Qe<|Za Yj ?_
  refine ZM ?_;refine Qk ?_;exact fun a ha=>(show t<2/\_ from ⟨(by omega),ha.keep kz,h,u,(fun i hi=>if q:i<t then hno i q else by
    obtain rfl:i=t:=by omega
    exact (fun ⟨d,_,hd⟩=>link_none hd fun q hq=>hin q (by omega)))⟩)
 refine Zn [0,1,18,19,20] ?_;refine Qd<|cg_cf rfl<|cg_exit<|Qh<|Qh<|Ql<|nx (E':=[]) fn ?_
 refine ZrAr [4] ?_;refine eg_scope_ret ?_;exact Qt (dF (fun q=>q.elim (hno 0 (by omega)) (hno 1 (by omega)))).symm u
theorem valid_any [Lo] {s:SlV} (h:RwNd W B s Ls) (x:Int) (hB:B<=W.heap.size) (rg:Tt W):Calls prog 199 #[s.v,nv x] W fun e W'=>∃ v,e=.returned v/\v=.bool (decide (validL (trAs Ls) x))/\Bw W W':=by
 have h:=h.more hB;refine Ze func199 ntmps199 ?_;have u:=Br W;have q1:=h.len;have q2:=h.cap;refine ZrAn [0,1,4] ?_;refine Qd<|ZrM ?_
 refine ZM ?_;by_cases c1:inP Ls x
 ·obtain ⟨hti,hx,hk2⟩:=id c1;have hta:=trAs_ok hti;refine Zd (isInner_any (h.mW W) x Lr (Tt.up u rg).b) ?_;rintro u2 w2 ⟨e2,hw2⟩;have zw2:=hw2.size;obtain rfl:u2=.bool true:=e2.trans (congrArg Value.bool (decide_eq_true c1));refine Znt [0,1,4,7] ?_;refine XR 2 ?_;have h:=h.below (Bm hw2);have u:=Un u hw2;by_cases c3:madeL Ls x (leftI x (Ls.length:Int))\/madeL Ls x (rightI x (Ls.length:Int))
  ·refine Zd (made_any (h.mW w2) hti hx  Lr (Tt.up u rg)) ?_;rintro u4 w4 ⟨e4,hw4⟩;have zw4:=hw4.size;obtain rfl:u4=.bool true:=e4.trans (congrArg Value.bool (decide_eq_true c3));refine ZAnr [0,1,4] ?_;refine Qc ?_;have u:=Un u hw4;exact Qt (dT (by rw [hta];exact ⟨hx,fun _=>c3⟩)).symm u
  refine Zd (made_any (h.mW w2) hti hx  Lr (Tt.up u rg)) ?_;rintro u5 w5 ⟨e5,hw5⟩;have zw5:=hw5.size;obtain rfl:u5=.bool false:=e5.trans (congrArg Value.bool (decide_eq_false c3));refine ZAnr [0,1,4] ?_;refine Qc ?_;have u:=Un u hw5;exact Qt (dF (fun q=>c3 (by rw [hta] at q;exact q.2 hk2))).symm u
 have hnin:=c1;refine Zd (isInner_any (h.mW W) x Lr (Tt.up u rg).b) ?_;rintro u6 w6 ⟨e6,hw6⟩;have zw6:=hw6.size;obtain rfl:u6=.bool false:=e6.trans (congrArg Value.bool (decide_eq_false c1));refine Zn [0,1,4,7] ?_;refine Zcf [0,1,4] ?_;refine ZrM ?_;have h:=h.below (Bm hw6);by_cases c7:trIs Ls
 ·refine Zd (sane_any (h.mW w6) Lr) ?_;rintro u8 w8 ⟨e8,hw8⟩;have zw8:=hw8.size;obtain rfl:u8=.bool true:=e8.trans (congrArg Value.bool (decide_eq_true c7));refine Xa 3 ?_;have h:=h.below (Bm hw8);refine Zt 13 (y_lenM (el:=81) h.len) ?_;refine Zp 13 (Qp (isL_any x (Ls.length:Int) _)) (fun c9=>?_) fun c9=>?_
  ·refine Xu 2 [4] ?_;have u:=Un (Un u hw6) hw8;exact Qt (dT ⟨(by rw [trAs_ok c7];exact c9),fun k=>absurd k fun k=>hnin ⟨c7,c9,(by rw [trAs_ok c7] at k;exact k)⟩⟩).symm u
  refine Xu 2 [4] ?_;exact Qt (dF (fun q=>c9 (by have z:=q.1;rwa [trAs_ok c7] at z))).symm (Un (Un u hw6) hw8)
 refine Zd (sane_any (h.mW w6) Lr) ?_;rintro u10 w10 ⟨e10,hw10⟩;have zw10:=hw10.size;obtain rfl:u10=.bool false:=e10.trans (congrArg Value.bool (decide_eq_false c7));refine Xu 7 [4] ?_;exact Qt (dF (fun q=>no_tree c7 q.1)).symm (Un (Un u hw6) hw10)
theorem verify_any [Lo] {s:SlV} (h:RwNd W B s Ls) (hB:B<=W.heap.size) (rg:Tt W):Calls prog 140 #[s.v] W fun e W'=>∃ v,e=.returned v/\v=.bool (decide (verL (trAs Ls)))/\Bw W W':=by
 have h:=h.more hB;refine Ze func140 ntmps140 ?_;have u:=Br W;have q1:=h.len;have q2:=h.cap;refine ZrAn [0,2] ?_;refine Qd<|ZrM ?_
 by_cases c1:trIs Ls
 ·have hti:=c1;have hta:=trAs_ok hti;refine Zd (sane_any (h.mW W) Lr) ?_;rintro u2 w2 ⟨e2,hw2⟩;have zw2:=hw2.size;obtain rfl:u2=.bool true:=e2.trans (congrArg Value.bool (decide_eq_true c1));refine Xn 1 [0,2,6] ?_;refine Zcf [0,2] ?_;refine Qd<|ZrM ?_
  have h:=h.below (Bm hw2);refine Za (y_lenM (el:=81) h.len) ?_;refine Xn 1 [0,2,8,9] ?_;refine Qj ?_;have u:=Un u hw2;refine Qr (fun t a v=>Holds 17 [(0,s.v),(8,nv (Ls.length:Int)),(9,nv ((t:Nat):Int))] a/\RwNd v W.heap.size s Ls/\Bw W v/\(∀ i,i<t->validL Ls (i:Int))/\t<=Ls.length) (Ls.length+1) (fun a ha=>⟨ha.keep kz,h,u,(fun i hi=>absurd hi (Nat.not_lt_zero _)),(Nat.zero_le _)⟩) ?_;rintro t a v ht ⟨ha,h,u,he,tle⟩;refine cg_at ha ?_;clear ha a;have zv:=u.size;have q1:=h.len;have q2:=h.cap;refine Zr ?_;refine Zi yi_lss (fun c3=>?_) fun c3=>?_
  ·refine Zn [0,8,9,10] ?_;refine Qd<|cg_ct rfl<|Zki [0,8,9] ?_
   refine Qd<|Qj<|ZrM ?_
   refine ZAn [0,8,9,3] ?_;refine XR 2 ?_;by_cases c4:validL (trAs Ls) ((t:Nat):Int)
   ·refine Zd (valid_any (h.mW v) ((t:Nat):Int) Lr (Tt.up u rg)) ?_;rintro u5 w5 ⟨e5,hw5⟩;have zw5:=hw5.size;obtain rfl:u5=.bool true:=e5.trans (congrArg Value.bool (decide_eq_true c4));refine Xn 1 [0,8,9,15] ?_;refine cg_cf rfl<|cg_skip<|Qi<|Nx [0,8,9] ?_
    refine Qe<|Za Yj ?_
    refine ZM ?_;refine Qk ?_;exact fun a ha=>(show t<(Ls.length+1)/\_ from ⟨(by omega),ha.keep kz,h.below (Bm hw5),Un u hw5,(fun i hi=>if q:i<t then he i q else by
      obtain rfl:i=t:=by omega
      have z:=c4;rwa [hta] at z),(by omega)⟩)
   refine Zd (valid_any (h.mW v) ((t:Nat):Int) Lr (Tt.up u rg)) ?_;rintro u6 w6 ⟨e6,hw6⟩;have zw6:=hw6.size;obtain rfl:u6=.bool false:=e6.trans (congrArg Value.bool (decide_eq_false c4));refine Xn 1 [0,8,9,15] ?_;refine cg_ct rfl<|ZrAr [0,8,9,2] ?_
   refine Qg<|Qc<|Qc<|Qg<|Qc ?_
   have u:=Un u hw6;exact Qt (dF (fun q=>c4 (by rw [hta] at q ⊢;exact q t (by omega)))).symm u
  refine Zn [0,8,9,10] ?_;refine Qd<|cg_cf rfl<|cg_exit<|Qh<|Qh<|Ql<|nx (E':=[]) fn ?_
  refine ZrAr [2] ?_;exact Qt (dT (by rw [hta];exact fun i hi=>he i (by omega))).symm u
 have hta:=trAs_no c1;refine Zd (sane_any (h.mW W) Lr) ?_;rintro u7 w7 ⟨e7,hw7⟩;have zw7:=hw7.size;obtain rfl:u7=.bool false:=e7.trans (congrArg Value.bool (decide_eq_false c1));refine Xn 1 [0,2,6] ?_;refine cg_ct rfl<|ZrAr [0,2] ?_
 refine Qc ?_;have u:=Un u hw7;exact Qt (dT (by rw [hta];exact fun i hi=>absurd hi (Nat.not_lt_zero _))).symm u
/- ChRef:
  Who made which node: the document.
-/
set_option maxRecDepth 20000
def nbP (t:List Nd) (x:Int):Prop:=isN x (t.length:Int)/\¬(atN t x.toNat).kind=0
instance (t:List Nd) (x:Int):Decidable (nbP t x):=by unfold nbP;infer_instance
def ocFew (Xs:List (List Int)):Prop:=(∀ i,i<Xs.length->(Xs.getD i []).length<=400)/\Xs.length<=20
instance (Xs:List (List Int)):Decidable (ocFew Xs):=by unfold ocFew;infer_instance
theorem fewO_any {W:World} {B:Nat} {s:SlV} {Xs:List (List Int)} (h:RwOc W B s Xs) (hB:B<=W.heap.size):Calls prog 30 #[s.v] W fun e W'=>∃ v,e=.returned v/\v=.bool (decide (ocFew Xs))/\Bw W W':=by
 have h:=h.more hB;refine Ze func30 ntmps30 ?_;have u:=Br W;have q1:=h.len;have q2:=h.cap;refine ZrAn [0,2] ?_;refine Qd<|ZrAn [0,2,3] ?_
 refine Qj<|Qr (fun t a v=>Holds 19 [(0,s.v),(3,nv ((t:Nat):Int))] a/\RwOc v W.heap.size s Xs/\Bw W v/\(∀ i,i<t->(Xs.getD i []).length<=400)/\t<=Xs.length) (Xs.length+1) (fun a ha=>⟨ha.keep kz,h,u,(fun i hi=>absurd hi (Nat.not_lt_zero _)),(Nat.zero_le _)⟩) ?_
 rintro t a v ht ⟨ha,h,u,he,tle⟩;refine cg_at ha ?_;clear ha a;have zv:=u.size;have q1:=h.len;have q2:=h.cap;refine Qd<|ZrM ?_
 refine ZM ?_;refine Za (y_lenM (el:=26) h.len) ?_;refine Zi yi_lss (fun c1=>?_) fun c1=>?_
 ·refine Znt [0,3,7] ?_;refine Zki [0,3] ?_;refine Qd<|Qj<|ZrM ?_
  refine ZM ?_;obtain ⟨eb2,eo2,er2,eA2,eB2,eh2,ec2⟩:=h.at (t) (by have:=h.len;first | omega | (simp only [allH_len,allN_len,List.length_append,List.length_cons,List.length_nil] at this;omega));refine Za (Yx s 26 1 t eA2 (by have:=h.len;first | omega | (simp only [allH_len,allN_len,List.length_append,List.length_cons,List.length_nil] at this;omega)) rfl rfl rfl) ?_;refine Za (y_celld (ec2)) ?_;refine Za (y_lenS (el:=5) eh2) ?_;refine Zi yi_gtr (fun c3=>?_) fun c3=>?_
  ·refine Znt [0,3,15] ?_;refine ZrAr [0,3,2] ?_;refine Qg<|Qc<|Qc<|Qg<|Qc ?_
   exact Qt (dF (fun q=>by have:=q.1 t (by omega);omega)).symm u
  refine Xc 0 [0,3,15] ?_;refine cg_skip<|Qi<|Nx [0,3] ?_
  refine Qe<|ZM ?_
  refine Za Yj ?_;refine ZA ?_;refine Qk ?_;exact fun a ha=>(show t<(Xs.length+1)/\_ from ⟨(by omega),ha.keep kz,h,u,(fun i hi=>if q:i<t then he i q else by
    obtain rfl:i=t:=by omega
    omega),(by omega)⟩)
 refine Xc 0 [0,3,7] ?_;refine cg_exit<|Qh<|Qh<|Ql<|Nx [0] ?_
 refine ZrM ?_;refine Za (y_lenM (el:=26) h.len) ?_;refine Zi yi_leq (fun c4=>?_) fun c4=>?_
 ·refine ZAnr [2] ?_;exact Qt (dT ⟨fun i hi=>he i (by omega),by omega⟩).symm u
 refine ZAnr [2] ?_;exact Qt (dF (fun q=>by have:=q.2;omega)).symm u
/- ChRefP:
  What is planned: the document.
-/
set_option maxRecDepth 20000
theorem OwnNa.hs [Lo] {w w':World} {g T:Nat} {s r:SlV} {Ls:List Nd} {xs:List Int} (h:OwnNa w g T s Ls) (hs:Hs w r xs) (k:Alt w w' g):Hs w' r xs:=by
 obtain ⟨_,_,ps,cur,_,_,_,_,h5,_⟩:=h;refine hs.kept k fun q c e z=>?_;subst z;unfold RowAt at h5;rw [h5] at e;injection e with e
 injection e with _ e
 exact nd_ne_u8 e
theorem clr_take {ds:List Int} {t:Nat} {a:List Nd} (h:t<ds.length):(clr (ds.take t) a).set (ds.getD t 0).toNat Nd.zero=clr (ds.take (t+1)) a:=by
 rw [take_succ_getD ds t h,clr_snoc]
theorem plan_tree {a:List Nd} (ha:trIs a) {i:Int} {ks:List (List Int)} (h:planE a i ks=0) (k:Nat):trIs (planF (plan0 a i) ((planZ a i ks).drop k)).1:=planF_is (plan0_is ha i) fun z hz=>by
 rw [plan0_len];exact planZ_nodes ha h z (List.mem_of_mem_drop hz)
theorem fork_at {a:List Nd} (ha:trIs a) {i:Int} {k:Nat} (hk:k<(forkL a i).length):isN (((forkL a i).map Prod.fst).getD k 0) (a.length:Int)/\sibI (sibI (((forkL a i).map Prod.snd).getD k 0) (a.length:Int)) (a.length:Int)=((forkL a i).map Prod.snd).getD k 0:=by
 have hm:(forkL a i)[k]∈forkL a i:=List.getElem_mem hk;obtain ⟨h1,h2,h3,h4,h5⟩:=fork_nodes ha hm;rw [List.getD_eq_getElem?_getD,List.getD_eq_getElem?_getD,List.getElem?_map,List.getElem?_map,List.getElem?_eq_getElem hk];exact ⟨h1,sib_way h4 (List.of_mem_zip h5).2⟩
theorem Tb.set {w w':World} {b:Nat} {t:TypeId} {cs:Array Value} (st:Set1 w w' b t cs) (h:Tb w) (h1:b≠1):Tb w':=by
 obtain ⟨tg,r⟩:=h;exact ⟨tg,st.keep r (Ne.symm h1)⟩
theorem dirI_in {x w:Int} (h:isN x w):∀ d∈dirI x w,0<=d/\d<w:=fin2 (p:=fun x w=>∀ d∈dirI x w,0<=d/\d<w) (by kernel_rfl) h
theorem getD_inO {l:List (List Int)} {k:Nat} (h:k<l.length):l.getD k []∈l:=by
 rw [List.getD_eq_getElem?_getD,List.getElem?_eq_getElem h];exact List.getElem_mem h
/- ChBack:
  What is told of a list from its end.
-/
def backL (ys:List Int):List (Int × Int):=(List.range ys.length).map fun t=>(((ys.length-1-t:Nat):Int),ys.getD (ys.length-1-t) 0)
theorem back_len (ys:List Int):(backL ys).length=ys.length:=by rw [backL,List.length_map,List.length_range]
theorem back_get {ys:List Int} {t:Nat} (h:t<ys.length):(backL ys)[t]?=some (((ys.length-1-t:Nat):Int),ys.getD (ys.length-1-t) 0):=by
 rw [backL,List.getElem?_map,List.getElem?_range h];rfl
theorem back_take {ys:List Int} {t:Nat} (h:t<ys.length):(backL ys).take (t+1)=(backL ys).take t++[(((ys.length-1-t:Nat):Int),ys.getD (ys.length-1-t) 0)]:=by
 rw [List.take_add_one,back_get h];rfl
theorem back_pre {ys:List Int} {pre:List (Int × Int)} {x:Int × Int} (h:pre++[x] <+: backL ys):pre.length<ys.length/\x=(((ys.length-1-pre.length:Nat):Int),ys.getD (ys.length-1-pre.length) 0):=by
 have hl:=h.length_le;rw [List.length_append,List.length_cons,List.length_nil,back_len] at hl;have hg:(backL ys)[pre.length]?=some x:=by
  obtain ⟨r,hr⟩:=h;rw [<-hr,List.append_assoc,List.getElem?_append_right Lr,Nat.sub_self];rfl
 rw [back_get (by omega)] at hg;exact ⟨by omega,(Option.some.inj hg).symm⟩
abbrev TK (B bx:Nat) (xs:List (Int × Int)) (w:World):Prop:=Tells prog 264 #[pv bx 0] (fun p:Int × Int=>#[nv p.1,nv p.2]) xs (fun k=>k<B\/k=bx) w
theorem back_any [Lo] {B:Nat} {ys:List Int} (s:SlV) (W:World) (h:SlN W B s ys):Calls prog 227 #[s.v] W fun e W'=>∃ v,e=.returned v/\∃ bx,v=.func (.func 264) #[] #[pv bx 0]/\RowAt W' bx 36 #[s.v]/\W.heap.size<=bx/\Bw W W':=by
 refine Ze func227 ntmps227 ?_;have u:=Br W;refine Zr<|lg_boxs rfl Wn rfl rfl rfl (by decide) fun b1 w1 n1=>?_
 have ⟨r1,k1,z1,lt1⟩:=n1.f;refine ZAn [1,2] ?_;refine Zr<|Za (y_mkf (xs:=[]) (ys:=[.tmp 1])) ?_
 refine ZAnr [2] ?_;exact Qa rfl rfl ⟨_,rfl,b1,rfl,r1,by omega,Un u n1.below⟩
theorem back_tells [Lo] (bx B:Nat) (s:SlV) (ys:List Int) (w0:World) (hB0:B<=w0.heap.size) (h00:SlN w0 B s ys) (hb0:RowAt w0 bx 36 #[s.v]):TK B bx (backL ys) w0:=by
 intro l J Jx W m0 hW hm0 hJa hJxa hY hJ;refine callsIn_wide.2 ?_;have hWB:=hW.below (n0:=B) (fun k hk=>.inl hk) hB0;have hb:=hW.row (.inr rfl) hb0;have h:=h00.belowN hWB;have lb:=hb.lt;have zW:=hW.size;have hd:Did m0 m0 W W:=Did.refl fun k q=>(hm0 k q).2;have hlow:∀ {m:Nat->Prop} {v:World},Did m0 m W v->∀ k,(k<B\/k=bx)->¬m k:=fun d k hk q=>(d.new k q).elim (fun q=>(hm0 k q).1 hk) fun q=>by
  rcases hk with hk | rfl<;>omega
 have q1:=h.len;have q2:=h.cap;show Calls _ _ ([.func (.yield l) #[] #[],pv bx 0]:List Value).toArray W _;refine calls_cx (n:=19) func264 rfl ntmps264 (by simp) (fun _ q=>by simp at q) ?_;show CX none [] _ _ _ [(0,.func (.yield l) #[] #[]),(1,pv bx 0)] _ _;refine cx_seq<|Qq<|Zv s.v hb ?_
 refine Za (y_lenM (el:=3) h.len) ?_;refine Za (yv (congrArg nv (show (ys.length:Int)-1=(ys.length:Int)-1-((0:Nat):Int) by omega)) (yi_sub rfl rfl rfl (by omega) (by omega))) ?_;refine ZA ?_;refine Qk<|Nxx [0,1,3] ?_
 refine cx_block ?_;have h0:=h;have hb0:=hb;refine cx_loopE (fun t a v=>∃ (m:Nat->Prop),Holds 19 [(0,.func (.yield l) #[] #[]),(1,pv bx 0),(3,nv ((ys.length:Int)-1-((t:Nat):Int)))] a/\Did m0 m W v/\J ((backL ys).take t) m v/\t<=ys.length) (ys.length+1) (fun a ha=>⟨m0,ha.keep kz,hd,hJ,(Nat.zero_le _)⟩) ?_;rintro t a v ht ⟨m,ha,hd,hJ,htl⟩;refine cx_at ha ?_;clear ha a;have low:=hd.kept.below (n0:=B) (fun k hk q=>(hm0 k q).1 (.inl hk)) (by omega);have h:=h0.belowN low;have hb:=hd.kept.row (fun q=>(hm0 _ q).1 (.inr rfl)) hb0;have zv:=hd.kept.size;have q1:=h.len;have q2:=h.cap;have lb:=hb.lt;refine cx_seq<|cx_seq<|Qq<|ZM ?_
 refine Zi yi_geq (fun c1=>?_) fun c1=>?_
 ·refine Qk<|Nxx [0,1,3,8] ?_
  refine cx_ct rfl<|cx_skip<|Nxx [0,1,3] ?_
  refine cx_seq<|cx_block<|cx_seq ?_
  have htn:t<ys.length:=by omega
  have hpre:(backL ys).take t++[((((ys.length-1-t):Nat):Int),ys.getD (ys.length-1-t) 0)] <+: backL ys:=back_take htn▸List.take_prefix _ _;have hti:((ys.length:Int)-1-((t:Nat):Int))=(((ys.length-1-t):Nat):Int):=by omega
  refine cx_regionx ?_;refine lxw Wn (y_move rfl rfl) rfl (by decide) ?_;refine lxw Wn (yv (congrArg nv hti) (y_move rfl rfl)) rfl (by decide) ?_;refine lxw Wn (Qo (v:=s.v) hb rfl (by kernel_rfl) rfl rfl) rfl (by decide) ?_;refine lxw Wn (yv (congrArg nv hti) (y_move rfl rfl)) rfl (by decide) ?_;refine lxw Wn (y_ixT (i:=((ys.length-1-t))) (iI:=(((ys.length-1-t):Nat):Int)) h (by omega) (by omega) rfl rfl rfl) rfl (by decide) ?_;refine lxw Wn (y_ldT (i:=((ys.length-1-t))) h (by omega) rfl rfl) rfl (by decide) ?_;refine lx_yields Wn (hY ((backL ys).take t) ((((ys.length-1-t):Nat):Int),ys.getD (ys.length-1-t) 0) v m hd hJ hpre) rfl rfl rfl rfl (by decide) ?_ ?_
  ·rintro w2 ⟨m2,j2,g2⟩;have hd:=(hd).trans j2;have zy2:=j2.kept.size;have hJ:=g2;refine lxw Wn (y_bnot rfl rfl) rfl (by decide) ?_;refine lx_nil ?_;refine Nxx [0,1,3,18] ?_;refine cx_cf rfl<|cx_skip<|Qs<|Nxx [0,1,3] ?_
   refine Qq<|ZM ?_
   refine Za (yv (congrArg nv (show ((ys.length:Int)-1-((t:Nat):Int))-1=(ys.length:Int)-1-((t+1:Nat):Int) by omega)) (yi_sub rfl rfl rfl (by omega) (by omega))) ?_;refine ZA ?_;refine Qk ?_;exact fun a ha=>(show t<(ys.length+1)/\_ from ⟨(by omega),a,rfl,m2,ha.keep kz,hd,(by rw [back_take htn];exact hJ),(by omega)⟩)
  rintro w2 ⟨m2,j2,g2⟩;have hd:=(hd).trans j2;have zy2:=j2.kept.size;have hJx:=g2;refine lxw Wn (y_bnot rfl rfl) rfl (by decide) ?_;refine lx_nil ?_;refine Nxx [0,1,3,18] ?_;refine cx_ct rfl<|cx_ret<|xg_block_ret<|xg_seq_ret<|xg_seq_ret<|xg_block_ret ?_
  obtain ⟨op,dd,kp⟩:=Marks.closed Lr (Marks.nil _ _ _) hd;exact xg_ret [] op (res_none rfl) ⟨⟨_,rfl⟩,m2,dd,.inr ⟨_,hpre,hJxa _ _ _ _ (by omega) hJx kp⟩⟩
 refine Qk<|Nxx [0,1,3,8] ?_
 refine cx_cf rfl<|cx_exit<|xg_seq_exit<|xg_seq_exit<|xg_block_exit ?_
 obtain rfl:t=ys.length:=by omega
 have hJ:J (backL ys) m v:=by have z:=hJ;rwa [List.take_of_length_le (by rw [back_len];exact Nat.le_refl _)] at z
 obtain ⟨op,dd,kp⟩:=Marks.closed Lr (Marks.nil _ _ _) hd;exact xg_end [] op (res_none rfl) ⟨⟨_,rfl⟩,m,dd,.inl (hJa _ _ _ _ (by omega) hJ kp)⟩
/- ChPlan:
  What is planned: the program.
-/
set_option maxRecDepth 20000
theorem hgs_doneN {P:Program} {n:Nat} {E:Env} {w:World} {ds:List Deferred} {S:World->Prop} {ops:Array Oper} {fuel:Nat} {listed:Array Bool} {Q:Exit->Act->World->Prop} (hr:Region.ready .any ops listed=[]) (h:∀ a,Holds n E a->Q .normal (mkd ds a) w):HGS P ops (fun e a w=>onlyN (Q .normal) e (mkd ds a) w) S n fuel listed E w:=hgs_done hr h
set_option maxHeartbeats 4000000 in
theorem plan_any [Lo] {W:World} {B:Nat} {s r:SlV} {Ls:List Nd} {Ks:List (List Int)} (h:RwNd W B s Ls) (i:Int) (hk:RwOc W B r Ks) (hB:B<=W.heap.size) (rg:Tt W):Calls prog 188 #[s.v,nv i,r.v] W fun e W'=>∃ v,e=.returned v/\∃ s' r':SlV,v=.tuple #[s'.v,r'.v,nv (planE (trAs Ls) i Ks)]/\RwNd W' W'.heap.size s' (planP (trAs Ls) i Ks)/\Sl W' W'.heap.size r' (planH (trAs Ls) i Ks)/\Bw W W':=by
 have h:=h.more hB;have hk:=hk.more hB;refine calls_cx (n:=82) func188 rfl ntmps188 (by simp) (fun _ q=>by simp at q) ?_;show CX none [] _ _ _ [(0,s.v),(1,nv i),(2,r.v)] _ _;have u:=Br W;have q1:=h.len;have q2:=h.cap;have q3:=hk.len;have q4:=hk.cap;have tl:=trAs_le Ls;have lvd:leavesA (trAs Ls)=((trAs Ls).length+1) / 2:=rfl;have rt:=rg.b.lt;refine cx_seq<|Qq<|lg_boxs rfl Wn rfl rfl rfl (by decide) fun b1 w1 n1=>?_
 have ⟨r1,k1,z1,lt1⟩:=n1.f;refine Xa 3 ?_;refine Qk<|Nxx [0,1,5,6,7,8] ?_
 refine cx_seq<|cx_seq<|Qq<|ZM ?_
 refine Zi yi_lss (fun c2=>?_) fun c2=>?_
 ·refine Xa 6 ?_;refine Qk<|Nxx [0,1,5,6,7,8,25] ?_
  refine cx_ct rfl<|cx_seq<|Qq<|ZA ?_
  refine Xa 2 ?_;refine Qk<|Nxx [0,1,5,6,7,8] ?_
  refine cx_ret<|xg_seq_ret ?_
  have hpe:planE (trAs Ls) i Ks=3:=(planE_range (fun q=>by omega));obtain ⟨hp1,hp2⟩:=planP_no (a:=trAs Ls) (i:=i) (ks:=Ks) (by rw [hpe];decide);have u:=Un u n1.below;exact xg_ret [] trivial (res_tmp3 rfl rfl rfl rfl) ⟨_,rfl,nilS,nilS,congrArg (fun q=>Value.tuple #[_,_,nv q]) hpe.symm,(by rw [hp1];exact RwNd.nil _ _),(by rw [hp2];exact Sl.nil _ _),u⟩
 refine Xa 3 ?_;have h:=h.below (Bm n1.below);refine Zdt 20 (leavesT_any (h.mW w1) Lr) ?_;rintro _ w3 ⟨rfl,hw3⟩;have zw3:=hw3.size;by_cases c4:((leavesA (trAs Ls):Nat):Int)<=i
 ·refine Zt 20 (yb (dT c4) yi_geq) ?_;refine Xa 1 ?_;refine Qk<|Nxx [0,1,5,6,7,8,25] ?_
  refine cx_ct rfl<|cx_seq<|Qq<|ZA ?_
  refine Xa 2 ?_;refine Qk<|Nxx [0,1,5,6,7,8] ?_
  refine cx_ret<|xg_seq_ret ?_
  have hpe:planE (trAs Ls) i Ks=3:=(planE_range (fun q=>by omega));obtain ⟨hp1,hp2⟩:=planP_no (a:=trAs Ls) (i:=i) (ks:=Ks) (by rw [hpe];decide);have u:=Un (Un u n1.below) hw3;exact xg_ret [] trivial (res_tmp3 rfl rfl rfl rfl) ⟨_,rfl,nilS,nilS,congrArg (fun q=>Value.tuple #[_,_,nv q]) hpe.symm,(by rw [hp1];exact RwNd.nil _ _),(by rw [hp2];exact Sl.nil _ _),u⟩
 have hi0:0<=i/\i<leavesA (trAs Ls):=⟨by omega,by omega⟩;obtain ⟨hti,hNL,hi64,_⟩:=forks_is (Ls:=Ls) (i:=i) hi0.1 hi0.2;have hta:=trAs_ok hti;have hll:=trIs_le hti;have hN:isN (2*i) ((trAs Ls).length:Int):=by rw [hta];exact hNL
 have hpos:0<Ls.length:=by have:=hNL.le;omega
 have fl6:=fork_len (trAs Ls) i;have qwl:((forkL (trAs Ls) i).map Prod.fst).length=(forkL (trAs Ls) i).length:=List.length_map ..;have qbl:((forkL (trAs Ls) i).map Prod.snd).length=(forkL (trAs Ls) i).length:=List.length_map ..;refine Zt 20 (yb (dF c4) yi_geq) ?_;refine Xa 1 ?_;refine Qk<|Nxx [0,1,5,6,7,8,25] ?_
 refine cx_cf rfl<|cx_skip<|Nxx [0,1,5,6,7,8] ?_
 refine cx_seq<|Qq<|ZM ?_
 refine ZM ?_;have h:=h.below (Bm hw3);have u:=Un (Un u n1.below) hw3;refine Zd (filter_any (h.mW w3) i Lr (Tt.up u rg).b) ?_;rintro _ w5 ⟨s5,rfl,m5,hw5⟩;have zw5:=hw5.size;refine Xa 2 ?_;have h:=h.below (Bm hw5);have u:=Un u hw5;refine Zd (beside_any (h.mW w5) i Lr (Tt.up u rg).b) ?_;rintro _ w6 ⟨s6,rfl,m6,hw6⟩;have zw6:=hw6.size;refine lg_allocs (u:=nilS.v) (by kernel_rfl) rfl Wn rfl rfl (by decide) fun b7 w7 n7=>?_;have ⟨r7,k7,z7,lt7⟩:=n7.f;refine ZA ?_;have o8:=r7;refine lg_sts r7 rfl rfl (by kernel_rfl) Wn rfl rfl rfl rfl fun w8 s8=>?_;have ⟨r7,z8⟩:=s8.f;refine Qk<|Nxx [0,1,5,6,7,8,10,9] ?_
 refine cx_seq<|cx_seq<|Qq ?_
 have r1:=s8.kp (n7.keep (Rb hw6 (Rb hw5 (Rb hw3 r1))));refine Zv r.v r1 ?_;have hk:=(((((hk.below (Bm n1.below)).below (Bm hw3)).below (Bm hw5)).below (Bm hw6)).below (Bm n7.below)).below s8.bl;refine Za (y_lenM (el:=26) hk.len) ?_;refine ZM ?_;have m5:=((m5.below (Bm hw6)).below (Bm n7.below)).set o8 rfl s8;refine Za (y_lenM (el:=3) m5.len) ?_;by_cases c9:(Ks.length:Int)=(((forkL (trAs Ls) i).map Prod.fst).length:Int)
 ·have hkl:Ks.length=(forkL (trAs Ls) i).length:=by omega
  refine Za (yb (nd_f c9) yi_neq) ?_;refine Qk<|Nxx [0,1,5,6,7,8,10,9,36] ?_
  refine cx_cf rfl<|cx_skip<|Nxx [0,1,5,6,7,8,10,9] ?_
  refine cx_seq<|cx_seq<|Qq<|Zv r.v r1 ?_
  refine Zd (wrong_any (hk.mW w8) Lr) ?_;rintro _ w10 ⟨rfl,hw10⟩;have zw10:=hw10.size;refine ZA ?_;refine Qk<|Nxx [0,1,5,6,7,8,10,9,11] ?_
  refine cx_seq<|Qq<|ZM ?_
  by_cases c11:(keysE Ks)=0
  ·have hE:planE (trAs Ls) i Ks=0:=by rw [planE_keys hi0 hkl];exact c11
   refine Za (yb (nd_f c11) yi_neq) ?_;refine Qk<|Nxx [0,1,5,6,7,8,10,9,11,40] ?_
   refine cx_cf rfl<|cx_skip<|Nxx [0,1,5,6,7,8,10,9] ?_
   refine cx_seq<|Qq<|ZM ?_
   have h:=(((h.below (Bm hw6)).below (Bm n7.below)).below s8.bl).below (Bm hw10);obtain ⟨bc,hbc⟩:∃ q,q=w10.heap.size:=⟨_,rfl⟩;refine Zc (clone_any (h.mW w10) hbc hpos (by omega)) rfl rfl ?_;rintro _ w12 ⟨s12,rfl,g12,hw12⟩;have zw12:=hw12.size;obtain ⟨ga,gb,gl,gn⟩:=OwnNm.of g12 (by omega) hpos;have hM0:¬ga<bc:=by omega
   refine lg_allocs (u:=nilS.v) (by kernel_rfl) rfl Wn rfl rfl (by decide) fun b13 w13 n13=>?_;have ⟨r13,k13,z13,lt13⟩:=n13.f;have o14:=r13;refine lg_sts r13 rfl rfl (by kernel_rfl) Wn rfl rfl rfl rfl fun w14 s14=>?_;have ⟨r13,z14⟩:=s14.f;refine Qk<|Nxx [0,1,5,6,7,8,10,9,12] ?_
   refine cx_seq<|cx_seq<|Qq<|ZM ?_
   refine Za (yi_mul rfl rfl rfl (by omega) (by omega)) ?_;refine ZM ?_;have h:=((h.below (Bm hw12)).below (Bm n13.below)).below s14.bl;refine Za (y_lenM (el:=81) h.len) ?_;have u:=(Un (Un (Un ((Un (Un u hw6) n7.below).trans s8.bl) hw10) hw12) n13.below).trans s14.bl;refine Zd (directF (2*i) (Ls.length:Int) _ (Tt.up u rg).b) ?_;rintro _ w15 ⟨s15,rfl,m15,f15,hw15⟩;have zw15:=hw15.size;refine Za (y_lenM (el:=3) m15.len) ?_;refine ZM ?_;refine Qk<|Nxx [5,6,7,8,10,9,12,48,49,50] ?_
   refine cx_block ?_;obtain ⟨C,hC⟩:∃ q,q=w15.heap.size:=⟨_,rfl⟩;have m6:=((((((m6.below (Bm n7.below)).set o8 rfl s8).below (Bm hw10)).below (Bm hw12)).below (Bm n13.below)).set o14 rfl s14).below (Bm hw15);have m5:=((((m5.below (Bm hw10)).below (Bm hw12)).below (Bm n13.below)).set o14 rfl s14).below (Bm hw15);have gn:=((gn.below n13.below).alt s14.alt (fun z=>absurd z (by omega)) (by omega)).below hw15;have hk:=((((hk.below (Bm hw10)).below (Bm hw12)).below (Bm n13.below)).below s14.bl).below (Bm hw15);have r1:=Rb hw15 (s14.kp (n13.keep (Rb hw12 (Rb hw10 r1))));have r7:=Rb hw15 (s14.kp (n13.keep (Rb hw12 (Rb hw10 r7))));have r13:=Rb hw15 r13;have u:=Un u hw15;refine cx_loopE (fun t a v=>Holds 82 [(5,pv b1 0),(9,s5.v),(10,pv b7 0),(12,pv b13 0),(48,s15.v),(49,nv ((dirI (2*i) (Ls.length:Int)).length:Int)),(50,nv ((t:Nat):Int))] a/\RwOc v W.heap.size r Ks/\RowAt v b1 29 #[r.v]/\RowAt v b7 36 #[s6.v]/\SlN v bc s6 ((forkL (trAs Ls) i).map Prod.snd)/\SlN v bc s5 ((forkL (trAs Ls) i).map Prod.fst)/\RowAt v b13 22 #[s12.v]/\Bw W v/\SlN v C s15 (dirI (2*i) (Ls.length:Int))/\C<=v.heap.size/\t<=(dirI (2*i) (Ls.length:Int)).length/\OwnNm (fun k=>k<bc) v ga s12 (clr ((dirI (2*i) (Ls.length:Int)).take t) (trAs Ls))) ((dirI (2*i) (Ls.length:Int)).length+1) (fun a ha=>⟨ha.keep kz,hk,r1,r7,(m6.more (by omega)),(m5.more (by omega)),r13,u,(m15.more (by omega)),(by omega),(Nat.zero_le _),(gn.cast (by rw [hta];rfl))⟩) ?_;rintro t a v ht ⟨ha,hk,r1,r7,hbe,hw,r13,u,hd,cC,tle,go⟩;refine cx_at ha ?_;clear ha a;have zv:=u.size;have l_r1:=r1.lt;have l_r7:=r7.lt;have l_r13:=r13.lt;have q3:=hk.len;have q4:=hk.cap;have qd:=hd.len;have qw:=hw.len;have cl:=clr_len ((dirI (2*i) (Ls.length:Int)).take t) (trAs Ls);have qo:=go.len;have gl:=go.lt;have dlt:=dirL (2*i) (Ls.length:Int);have htal:(trAs Ls).length=Ls.length:=by rw [hta]
   refine cx_seq<|Qq ?_
   refine Zi yi_lss (fun c16=>?_) fun c16=>?_
   ·refine Qk<|Nxx [5,9,10,12,48,49,50,51] ?_
    refine cx_seq<|cx_ct rfl<|cx_skip<|Nxx [5,9,10,12,48,49,50] ?_
    refine cx_seq<|cx_block<|cx_seq ?_
    have htn:t<(dirI (2*i) (Ls.length:Int)).length:=by omega
    have hdn:=dirI_in hNL _ (getD_in htn);refine Qq<|Za (y_ixT (i:=t) (iI:=((t:Nat):Int)) hd (by omega) (by omega) rfl rfl rfl) ?_
    refine Za (yv (congrArg nv (show (dirI (2*i) (Ls.length:Int)).getD t 0=(((dirI (2*i) (Ls.length:Int)).getD t 0).toNat:Int) by omega)) (y_ldT (i:=t) hd (by omega) rfl rfl)) ?_;refine ZA ?_;refine Qk<|Nxx [5,9,10,12,48,49,50,14] ?_
    refine Qq<|Zv s12.v r13 ?_
    refine ZM ?_;refine Za (y_build (cs:=NdV.zero.cs Nd.zero)) ?_;refine Za (Yx s12 81 8 (((dirI (2*i) (Ls.length:Int)).getD t 0).toNat) go.1 (by have q1:=go.len;first | omega | (simp only [List.length_append,List.length_cons,List.length_nil,List.length_take,List.length_drop,List.length_set,List.length_replicate,clr_len] at q1;omega)) rfl rfl rfl) ?_;refine lg_stM (i:=(((dirI (2*i) (Ls.length:Int)).getD t 0).toNat)) go hM0 ((IsNd.zero _ 0).mW v) (InNd.zero _) (by omega) Wn rfl rfl rfl rfl fun w17 new17 st17 g17=>?_;have z17:=st17.size;refine Qk<|Qs<|Nxx [5,9,10,12,48,49,50] ?_
    refine Qq<|Za Yj ?_
    refine ZM ?_;refine Qk ?_;have hd:=hd.offB (by omega) (OffS.fr f15 (by omega)) (Set1.alt st17);exact fun a ha=>(show t<((dirI (2*i) (Ls.length:Int)).length+1)/\_ from ⟨(by omega),a,rfl,ha.keep kz,hk.below st17.bl,st17.keep r1 (by omega),st17.keep r7 (by omega),hbe.below st17.bl,hw.below st17.bl,st17.keep r13 (by omega),u.trans st17.bl,hd,(by omega),(by omega),(g17.cast (clr_take htn))⟩)
   refine Qk<|Nxx [5,9,10,12,48,49,50,51] ?_
   refine cx_seq<|cx_cf rfl<|cx_exit<|xg_seq_exit<|xg_seq_exit<|xg_block_exit<|Nxx [5,9,10,12] ?_
   refine cx_seq<|Qq<|lg_allocs (u:=nilS.v) (by kernel_rfl) rfl Wn rfl rfl (by decide) fun b18 w18 n18=>?_
   have ⟨r18,k18,z18,lt18⟩:=n18.f;refine Qk<|Nxx [5,9,10,12,15] ?_
   refine cx_seq<|cx_seq<|Qq<|ZM ?_
   have hw:=hw.below (Bm n18.below);refine Zd (back_any s5 _ hw) ?_;rintro _ w19 ⟨bx19,rfl,x19,i19,hw19⟩;have zw19:=hw19.size;have lx19:=x19.lt;refine Qk<|Nxx [5,10,12,15,60] ?_
   refine cx_block ?_;have go:=(go.below n18.below).below hw19;obtain rfl:t=(dirI (2*i) (Ls.length:Int)).length:=by omega
   have go:=(go.cast (Ms:=(planF (plan0 (trAs Ls) i) ((planZ (trAs Ls) i Ks).drop ((forkL (trAs Ls) i).length-0))).1) (by rw [List.take_length,Nat.sub_zero,plan_end hkl];show _=clr _ _;rw [hta]));have hk:=(hk.below (Bm n18.below)).below (Bm hw19);have r1:=Rb hw19 (n18.keep r1);have r7:=Rb hw19 (n18.keep r7);have hbe:=(hbe.below (Bm n18.below)).below (Bm hw19);have hw:=hw.below (Bm hw19);have r13:=Rb hw19 (n18.keep r13);have u:=Un (Un u n18.below) hw19;have r18:=Rb hw19 r18;have gl:=go.lt;refine cx_told3 (d1:=16) (d2:=17) (e1:=fun p:Int × Int=>nv p.1) (e2:=fun p:Int × Int=>nv p.2) (m0:=(fun k=>k=ga\/k=b18)) (by kernel_rfl) rfl (back_tells bx19 bc _ _ _ (by omega) hw x19) (fun k q=>⟨fun z=>by rcases q with rfl | rfl<;>rcases z with z | z<;>omega,by rcases q with rfl | rfl<;>omega⟩) (fun k hk z=>by rcases z with z | rfl<;>omega) (by decide) (by decide)
    (fun (pre:List (Int × Int)) m X=>m ga/\m b18/\OwnNm (fun k=>k≠ga/\k≠b18/\(m k\/k<w19.heap.size)) X ga s12 (planF (plan0 (trAs Ls) i) ((planZ (trAs Ls) i Ks).drop ((forkL (trAs Ls) i).length-pre.length))).1/\∃ q:SlV,RowAt X b18 26 #[q.v]/\Hs X q (planF (plan0 (trAs Ls) i) ((planZ (trAs Ls) i Ks).drop ((forkL (trAs Ls) i).length-pre.length))).2/\InA (fun k=>k≠ga/\k≠b18/\(m k\/k<w19.heap.size)) q)
    (fun c pre m X=>False)
    (fun s m X Y hX ⟨h1,h2,h3,q,h4,h5,h6⟩ k=>⟨h1,h2,h3.kept k (fun z y=>y.2.2) (.inl h1),q,k.row (.inl h2) h4,h5.inn h6 (k.mono fun z _ y=>y.2.2),h6⟩)
    (fun c s m X Y hX h k=>h)
    ⟨.inl rfl,.inr rfl,go.mono fun k (z:k<bc)=>⟨by omega,by omega,.inr (by omega)⟩,nilS,r18,(by show Hs _ _ (planF (plan0 (trAs Ls) i) ((planZ (trAs Ls) i Ks).drop ((forkL (trAs Ls) i).length-0))).2;rw [Nat.sub_zero,plan_end hkl];exact Hs.nil _),InA.nil _⟩
    (fun l x W=>as_two rfl rfl rfl rfl (by decide) rfl rfl rfl rfl rfl (by decide) rfl l W)
    ?_ ?_ ?_
   ·rintro l20 pre20 k20 v20 m20 d20 hi20 hp20;obtain ⟨hpl,hx⟩:=back_pre hp20;rw [List.length_map] at hpl hx;subst hx;have hnm:∀ k,k≠ga->k≠b18->¬(k=ga\/k=b18):=fun k h2 h3 q=>q.elim h2 h3;have low:=d20.kept.below (n0:=bc) (fun k hk=>hnm k (by omega) (by omega)) (by omega);have u:=u.trans (Bm low);have r13:=d20.kept.row (hnm _ (by omega) (by omega)) r13;have zv20:=d20.kept.size;obtain ⟨hga,hgb,go,q20,r18,hs,hia⟩:=hi20;have hk:=hk.below (Bm low);have r1:=RowAt.below low (by omega) r1;have r7:=RowAt.below low (by omega) r7;have hbe:=hbe.belowN low;have hr:=Did.refl d20.lt;have q3:=hk.len;have q4:=hk.cap;have qb:=hbe.len;have qo:=go.len;have gl:=go.lt;have pl:=planF_len (plan0 (trAs Ls) i) ((planZ (trAs Ls) i Ks).drop ((forkL (trAs Ls) i).length-pre20.length));rw [plan0_len] at pl;obtain ⟨hxn,hsb⟩:=fork_at (trAs_is Ls) (i:=i) (k:=((forkL (trAs Ls) i).length-1-pre20.length)) (by omega);have lex:=hxn.le;have kok:=keysE_ok (planE_ok hE).2.2 (Ks.getD ((forkL (trAs Ls) i).length-1-pre20.length) []) (getD_inO (by omega));refine cx_block<|cx_seq ?_
    obtain ⟨eby21,eoy21,ery21,eAy21,eBy21,ehy21,ecy21⟩:=hk.at (((forkL (trAs Ls) i).length-1-pre20.length)) (by have:=hk.len;first | omega | (simp only [allH_len,allN_len,List.length_append,List.length_cons,List.length_nil] at this;omega));have r1o:=r1;have r13o:=r13;have r18o:=r18;refine cx_only ?_;refine cx_heldS (fun q=>Alt v20 q ga) (by kernel_rfl) (fun W22 eW22=>?_) fun W22 eW22=>?_
    ·exact Below.kept (below_drew _ _ eW22)
    have dW22:=below_drew _ _ eW22;have zW22:=size_drew _ _ eW22;clear eW22;have al0:Alt v20 W22 ga:=Below.kept dW22;refine Zg 0 al0 (fun q hq=>Qo (v:=s12.v) (hq.row (show b13≠ga by omega) r13o) rfl (by kernel_rfl) rfl rfl) ?_;refine Zg 1 al0 (fun q hq=>yv (congrArg nv (show (((forkL (trAs Ls) i).map Prod.fst).getD ((forkL (trAs Ls) i).length-1-pre20.length) 0)=((((forkL (trAs Ls) i).map Prod.fst).getD ((forkL (trAs Ls) i).length-1-pre20.length) 0).toNat:Int) by omega)) (y_move rfl rfl)) ?_;refine Zg 2 al0 (fun q hq=>Qo (v:=r.v) (hq.row (show b1≠ga by omega) r1o) rfl (by kernel_rfl) rfl rfl) ?_;refine Zg 3 al0 (fun q hq=>y_move rfl rfl) ?_;have hk:=hk.below (Bm dW22);refine Zg 4 al0 (fun q hq=>y_ixR (s:=r) (el:=26) (k:=1) (i:=((forkL (trAs Ls) i).length-1-pre20.length)) (iI:=(((forkL (trAs Ls) i).length-1-pre20.length:Nat):Int)) eAy21 (by kernel_rfl) (by kernel_rfl) (by omega) (by have:=hk.len;first | omega | (simp only [allH_len,allN_len,List.length_append,List.length_cons,List.length_nil] at this;omega)) rfl rfl rfl) ?_;refine Zg 5 al0 (fun q hq=>y_celld ((World.cell?_of_block (w:=v20) (a:=⟨eby21,_,none⟩) (hq.block eby21 (by omega) (show eby21≠ga by omega))).trans (ecy21)) (by kernel_rfl) rfl rfl) ?_;refine Zg 6 al0 (fun q hq=>Qo (v:=q20.v) (hq.row (show b18≠ga by omega) r18o) rfl (by kernel_rfl) rfl rfl) ?_;refine Zg 7 al0 (fun q hq=>y_build (cs:=(⟨ery21,q20,nilS⟩:PnV).cs (⟨(Ks.getD ((forkL (trAs Ls) i).length-1-pre20.length) []),(planF (plan0 (trAs Ls) i) ((planZ (trAs Ls) i Ks).drop ((forkL (trAs Ls) i).length-pre20.length))).2,[]⟩:Pn)) rfl rfl (by kernel_rfl)) ?_;refine Zg 8 al0 (fun q hq=>y_build (cs:=(⟨LfV.zero,(⟨ery21,q20,nilS⟩:PnV)⟩:NdV).cs (⟨2,Lf.zero,(⟨(Ks.getD ((forkL (trAs Ls) i).length-1-pre20.length) []),(planF (plan0 (trAs Ls) i) ((planZ (trAs Ls) i Ks).drop ((forkL (trAs Ls) i).length-pre20.length))).2,[]⟩:Pn)⟩:Nd)) rfl rfl (by kernel_rfl)) ?_;have go:=go.below dW22;refine Zg 9 al0 (fun q hq=>y_ixR (s:=s12) (el:=81) (k:=8) (i:=((((forkL (trAs Ls) i).map Prod.fst).getD ((forkL (trAs Ls) i).length-1-pre20.length) 0).toNat)) (iI:=(((((forkL (trAs Ls) i).map Prod.fst).getD ((forkL (trAs Ls) i).length-1-pre20.length) 0).toNat:Nat):Int)) go.1 (by kernel_rfl) (by kernel_rfl) (by omega) (by have q1:=go.len;first | omega | (simp only [List.length_append,List.length_cons,List.length_nil,List.length_take,List.length_drop,List.length_set,List.length_replicate,clr_len] at q1;omega)) rfl rfl rfl) ?_;refine hgs_one 10 (by rfl) (by kernel_rfl) Wn ?_;have ehy21:=ehy21.below (Bm dW22);have hs:=hs.below dW22;refine lg_stM (i:=((((forkL (trAs Ls) i).map Prod.fst).getD ((forkL (trAs Ls) i).length-1-pre20.length) 0).toNat)) go (fun z=>z.1 rfl) (show IsNd W22 W22.heap.size (⟨LfV.zero,(⟨ery21,q20,nilS⟩:PnV)⟩:NdV) (⟨2,Lf.zero,(⟨(Ks.getD ((forkL (trAs Ls) i).length-1-pre20.length) []),(planF (plan0 (trAs Ls) i) ((planZ (trAs Ls) i Ks).drop ((forkL (trAs Ls) i).length-pre20.length))).2,[]⟩:Pn)⟩:Nd) from ⟨((IsLf.zero _ 0).mW W22),(show IsPn W22 W22.heap.size (⟨ery21,q20,nilS⟩:PnV) (⟨(Ks.getD ((forkL (trAs Ls) i).length-1-pre20.length) []),(planF (plan0 (trAs Ls) i) ((planZ (trAs Ls) i Ks).drop ((forkL (trAs Ls) i).length-pre20.length))).2,[]⟩:Pn) from ⟨(ehy21.mW W22),(hs.1.mW W22),((SlN.nil _ 0).mW W22)⟩)⟩) (⟨InS.nil _,InS.nil _,InS.nil _,InS.of ehy21 (fun k z=>⟨by omega,by omega,.inr (by omega)⟩),hia.in,InS.nil _⟩) (by omega) Wn rfl rfl rfl rfl fun w23 new23 st23 g23=>?_;have z23:=st23.size;have al0:=al0.trans (Set1.alt st23);refine hgs_next al0 ?_;refine hgs_doneN (by kernel_rfl) ?_;refine Nxx [10,12,15,16,17] ?_;have hps:=plan_step (t:=plan0 (trAs Ls) i) hkl (k:=((forkL (trAs Ls) i).length-1-pre20.length)) (by omega);rw [show ((forkL (trAs Ls) i).length-1-pre20.length)+1=(forkL (trAs Ls) i).length-pre20.length by omega] at hps;have hnew:((planF (plan0 (trAs Ls) i) ((planZ (trAs Ls) i Ks).drop ((forkL (trAs Ls) i).length-pre20.length))).1.set ((((forkL (trAs Ls) i).map Prod.fst).getD ((forkL (trAs Ls) i).length-1-pre20.length) 0).toNat) (⟨2,Lf.zero,(⟨(Ks.getD ((forkL (trAs Ls) i).length-1-pre20.length) []),(planF (plan0 (trAs Ls) i) ((planZ (trAs Ls) i Ks).drop ((forkL (trAs Ls) i).length-pre20.length))).2,[]⟩:Pn)⟩:Nd))=(planF (plan0 (trAs Ls) i) ((planZ (trAs Ls) i Ks).drop ((forkL (trAs Ls) i).length-1-pre20.length))).1:=by rw [hps];rfl
    have htN:trIs ((planF (plan0 (trAs Ls) i) ((planZ (trAs Ls) i Ks).drop ((forkL (trAs Ls) i).length-pre20.length))).1.set ((((forkL (trAs Ls) i).map Prod.fst).getD ((forkL (trAs Ls) i).length-1-pre20.length) 0).toNat) (⟨2,Lf.zero,(⟨(Ks.getD ((forkL (trAs Ls) i).length-1-pre20.length) []),(planF (plan0 (trAs Ls) i) ((planZ (trAs Ls) i Ks).drop ((forkL (trAs Ls) i).length-pre20.length))).2,[]⟩:Pn)⟩:Nd)):=by rw [hnew];exact plan_tree (trAs_is Ls) hE _
    have hln:((planF (plan0 (trAs Ls) i) ((planZ (trAs Ls) i Ks).drop ((forkL (trAs Ls) i).length-pre20.length))).1.set ((((forkL (trAs Ls) i).map Prod.fst).getD ((forkL (trAs Ls) i).length-1-pre20.length) 0).toNat) (⟨2,Lf.zero,(⟨(Ks.getD ((forkL (trAs Ls) i).length-1-pre20.length) []),(planF (plan0 (trAs Ls) i) ((planZ (trAs Ls) i Ks).drop ((forkL (trAs Ls) i).length-pre20.length))).2,[]⟩:Pn)⟩:Nd)).length=(trAs Ls).length:=by rw [List.length_set];omega
    have hle:(forkL (trAs Ls) i).length-(pre20++[(((((forkL (trAs Ls) i).length-1-pre20.length):Nat):Int),(((forkL (trAs Ls) i).map Prod.fst).getD ((forkL (trAs Ls) i).length-1-pre20.length) 0))]).length=((forkL (trAs Ls) i).length-1-pre20.length):=by rw [List.length_append,List.length_cons,List.length_nil];omega
    have r13:=st23.keep (Rb dW22 r13) (by omega);have r13o:=r13;have r7:=st23.keep (Rb dW22 r7) (by omega);have r7o:=r7;have hbe:=(hbe.below (Bm dW22)).below st23.bl;have hbeo:=hbe;refine cx_only ?_;refine cx_heldS (fun q=>Alt w23 q b18) (by kernel_rfl) (fun W24 eW24=>?_) fun W24 eW24=>?_
    ·exact Below.kept (below_drew _ _ eW24)
    have dW24:=below_drew _ _ eW24;have zW24:=size_drew _ _ eW24;clear eW24;have al0:Alt w23 W24 b18:=Below.kept dW24;refine Zg 0 al0 (fun q hq=>Qo (v:=s12.v) (hq.row (show b13≠b18 by omega) r13o) rfl (by kernel_rfl) rfl rfl) ?_;refine Zg 1 al0 (fun q hq=>y_move rfl rfl) ?_;refine Zg 2 al0 (fun q hq=>Qo (v:=s6.v) (hq.row (show b7≠b18 by omega) r7o) rfl (by kernel_rfl) rfl rfl) ?_;refine Zg 3 al0 (fun q hq=>y_move rfl rfl) ?_;refine Zg 4 al0 (fun q hq=>y_ixT (i:=((forkL (trAs Ls) i).length-1-pre20.length)) (iI:=(((forkL (trAs Ls) i).length-1-pre20.length:Nat):Int)) (hbeo.belowN (Alt.below hq (by omega) (by omega))) (by omega) (by omega) rfl rfl rfl) ?_;refine Zg 5 al0 (fun q hq=>y_ldT (i:=((forkL (trAs Ls) i).length-1-pre20.length)) (hbeo.belowN (Alt.below hq (by omega) (by omega))) (by omega) rfl rfl) ?_;have g23:=g23.below dW24;have u:=Un ((Un u dW22).trans st23.bl) dW24;refine hgs_one 6 (by rfl) (by kernel_rfl) Wn ?_;refine Zc (gives_any ((g23.na (fun z=>z.1 rfl)).row.mW W24) htN (by rw [hln];exact hxn) (((forkL (trAs Ls) i).map Prod.snd).getD ((forkL (trAs Ls) i).length-1-pre20.length) 0) Lr (Tt.up u rg)) rfl rfl ?_;rintro _ w25 ⟨r25,rfl,m25,f25,hw25⟩;have zw25:=hw25.size;have gl25:=gives_len ((planF (plan0 (trAs Ls) i) ((planZ (trAs Ls) i Ks).drop ((forkL (trAs Ls) i).length-pre20.length))).1.set ((((forkL (trAs Ls) i).map Prod.fst).getD ((forkL (trAs Ls) i).length-1-pre20.length) 0).toNat) (⟨2,Lf.zero,(⟨(Ks.getD ((forkL (trAs Ls) i).length-1-pre20.length) []),(planF (plan0 (trAs Ls) i) ((planZ (trAs Ls) i Ks).drop ((forkL (trAs Ls) i).length-pre20.length))).2,[]⟩:Pn)⟩:Nd)) (((forkL (trAs Ls) i).map Prod.fst).getD ((forkL (trAs Ls) i).length-1-pre20.length) 0) (((forkL (trAs Ls) i).map Prod.snd).getD ((forkL (trAs Ls) i).length-1-pre20.length) 0);have al0:=Alt.grow al0 hw25;refine hgs_next al0 ?_;refine hgs_one 7 (by rfl) (by kernel_rfl) Wn ?_;have r18:=Rb hw25 (Rb dW24 (st23.keep (Rb dW22 r18) (by omega)));have o26:=r18;refine lg_sts r18 rfl rfl (by kernel_rfl) Wn rfl rfl rfl rfl fun w26 s26=>?_;have ⟨r18,z26⟩:=s26.f;refine hgs_next (al0.trans s26.alt) ?_;refine hgs_doneN (by kernel_rfl) ?_;refine Qs ?_;have m25:=m25.alt8 s26 o26 (by decide);have hr:=hr.call dW22;have hr:=((hr.trans (Did.setb st23 hga hr.lt)).call dW24).call hw25;have hr:=hr.trans (Did.setb s26 hgb hr.lt);have g23:=(g23.below hw25).alt s26.alt (fun z=>z.2.1 rfl) (by omega);exact fun a ha=>⟨fun k=>m20 k\/(v20.heap.size<=k/\k<w26.heap.size),hr.widen (fun k q=>q),.inl hga,.inl hgb,(g23.mono (fun k z=>⟨z.1,z.2.1,z.2.2.imp .inl id⟩)).cast (by rw [hle];exact hnew),_,r18,(by rw [hle,hps,planS_two];exact m25),fun p e=>by
     have z1:=f25 p e;have z2:=m25.lt p e;exact ⟨by omega,by omega,.inl (.inr ⟨by omega,by omega⟩)⟩⟩
   ·rintro D20 v20d m20 hz20 d20 nD20 hi20 hD20;have hnm:∀ k,k≠ga->k≠b18->¬(k=ga\/k=b18):=fun k h2 h3 q=>q.elim h2 h3;have low:=d20.kept.below (n0:=bc) (fun k hk=>hnm k (by omega) (by omega)) (by omega);have u:=u.trans (Bm low);have r13:=d20.kept.row (hnm _ (by omega) (by omega)) r13;have zv20:=d20.kept.size;obtain ⟨hga,hgb,go,q20,r18,hs,hia⟩:=hi20;have qo:=go.len;have gl:=go.lt;have hfl:(forkL (trAs Ls) i).length-(backL ((forkL (trAs Ls) i).map Prod.fst)).length=0:=by rw [back_len,List.length_map];omega
    rw [hfl,List.drop_zero] at go hs;have hKD20:=hD20;refine Qs<|Nxx [12,15] ?_
    refine cx_seq<|cx_still (by kernel_rfl) (by kernel_rfl) fun W27 eW27=>?_
    have dW27:=below_drew _ _ eW27;have zW27:=size_drew _ _ eW27;clear eW27;have r13:=Rb dW27 r13;refine Zsa (Qo (v:=s12.v) r13 rfl (by kernel_rfl) rfl rfl) ?_;have r18:=Rb dW27 r18;refine Zsa (Qo (v:=q20.v) r18 rfl (by kernel_rfl) rfl rfl) ?_;refine Zsa y_assign ?_;refine Zsa y_assign ?_;refine Zsa y_assign ?_;refine sg_nil ?_;refine Nxx [6,7,8] ?_;refine cx_ret ?_;have go:=go.below dW27;have hs:=hs.below dW27;obtain ⟨hp1,hp2⟩:=planP_ok hE;have hcl:Kept (fun k=>k≠ga/\k≠b18/\(m20 k\/k<w19.heap.size)) W27 (W27.putObj D20 (.deferred none)):=Kept.putObj _ _ (fun z=>z.2.2.elim nD20 fun z=>by omega);have hcg:Kept (fun k=>k=ga\/(fun k=>k≠ga/\k≠b18/\(m20 k\/k<w19.heap.size)) k) W27 (W27.putObj D20 (.deferred none)):=Kept.putObj _ _ (fun z=>z.elim (fun z=>by omega) fun z=>z.2.2.elim nD20 fun z=>by omega);have hKD20:=(dW27.block _ (Array.getElem?_eq_some_iff.1 hKD20).1).trans hKD20;have u:=Un u dW27;exact xg_ret [D20] ⟨hKD20,trivial⟩ (res_tmp3 rfl rfl rfl rfl) ⟨_,rfl,_,_,congrArg (fun q=>Value.tuple #[_,_,nv q]) hE.symm,(by rw [hp1];exact ((go.kept hcg (fun _ z=>.inr z) (.inl rfl)).na (fun z=>z.1 rfl)).row),(by rw [hp2];exact (hs.inn hia hcl).1),(below_nc u (B:=D20) (by omega) Lr (put_grown _ D20 (.deferred none)) (fun r e=>by cases e;exact Nat.le_refl _))⟩
   rintro D20 c20 pre20 v20s m20 hz20 hp20 d20 nD20 hi20 hD20;exact hi20.elim
  refine Za (yb (nd_t c11) yi_neq) ?_;refine Qk<|Nxx [0,1,5,6,7,8,10,9,11,40] ?_
  refine cx_ct rfl<|cx_seq<|Qq<|ZM ?_
  refine Xa 3 ?_;refine Qk<|Nxx [0,1,5,10,9,6,7,8] ?_
  refine cx_ret<|xg_seq_ret ?_
  have hpe:planE (trAs Ls) i Ks=(keysE Ks):=(planE_keys hi0 hkl);obtain ⟨hp1,hp2⟩:=planP_no (a:=trAs Ls) (i:=i) (ks:=Ks) (fun q=>c11 (by rw [<-planE_keys hi0 hkl];exact q));have u:=Un ((Un (Un u hw6) n7.below).trans s8.bl) hw10;exact xg_ret [] trivial (res_tmp3 rfl rfl rfl rfl) ⟨_,rfl,nilS,nilS,congrArg (fun q=>Value.tuple #[_,_,nv q]) hpe.symm,(by rw [hp1];exact RwNd.nil _ _),(by rw [hp2];exact Sl.nil _ _),u⟩
 refine Za (yb (nd_t c9) yi_neq) ?_;refine Qk<|Nxx [0,1,5,6,7,8,10,9,36] ?_
 refine cx_ct rfl<|cx_seq<|Qq<|ZA ?_
 refine Xa 2 ?_;refine Qk<|Nxx [0,1,5,10,9,6,7,8] ?_
 refine cx_ret<|xg_seq_ret ?_
 have hpe:planE (trAs Ls) i Ks=11:=(planE_path hi0 (fun q=>c9 (by rw [List.length_map];omega)));obtain ⟨hp1,hp2⟩:=planP_no (a:=trAs Ls) (i:=i) (ks:=Ks) (by rw [hpe];decide);have u:=(Un (Un u hw6) n7.below).trans s8.bl;exact xg_ret [] trivial (res_tmp3 rfl rfl rfl rfl) ⟨_,rfl,nilS,nilS,congrArg (fun q=>Value.tuple #[_,_,nv q]) hpe.symm,(by rw [hp1];exact RwNd.nil _ _),(by rw [hp2];exact Sl.nil _ _),u⟩
end Go.Proofs.YtjjdcnkbibkmkaaGreatDoor
