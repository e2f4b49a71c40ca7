/-
  What may be done to a tree: Add, Remove, Change, Commit.
-/
import Derived.Test.YtfdmhdnlmndhdaaGreatDoorEdProg
namespace Go.Proofs.YtfdmhdnlmndhdaaGreatDoor
open Go.ChangeShapes Go.WideShapes Go.ChangeAt Go.RowKit
set_option linter.unusedVariables false

set_option maxRecDepth 20000
theorem asks_nil {W:World} {x:Value}:Asks W x [] []:=trivial
theorem asks_cons {W:World} {x:Value} {f:FV} {fs:List FV} {e:Int} {es:List Int} (h:okF f.f) (k:∀ w,Below W.heap.size W w→Calls Tryz.prog f.f ([]++[x]++f.cap).toArray w fun r w'=>∃ v,r=.returned v∧v=nv e∧Below w.heap.size w w') (t:Asks W x fs es):Asks W x (f::fs) (e::es):=⟨⟨h,k⟩,t⟩
theorem first_one {a:Int}:firstE [a]=a:=by
 unfold firstE
 split
 ·rename_i h
  exact h.symm
 rfl
theorem first_two {a b:Int}:firstE [a,b]=if a=0 then b else a:=by
 rw [firstE]
 split
 ·exact first_one
 rfl
theorem first_zero {a b:Int} (h:firstE [a,b]=0):a=0∧b=0:=by
 rw [first_two] at h
 split at h
 ·rename_i q
  exact ⟨q,h⟩
 rename_i q
 exact absurd h q
theorem add_at {a:List Nd} {l:Lf}:(if firstE [srcE l 1,roomE a]=0 then (0:Int) else firstE [srcE l 1,roomE a])=addE a l∧(if firstE [srcE l 1,roomE a]=0 then laidL (joinW (freeA (roomL a)) (dirI (2*freeA (roomL a)) (roomL a).length) (roomL a)) (freeA (roomL a)) l else [])=addL a l:=by
 have e:addE a l=firstE [srcE l 1,roomE a]:=by rw [first_two,addE]
 rw [addL,e]
 refine ⟨?_,rfl⟩
 split
 ·rename_i h
  exact h.symm
 rfl
theorem rem_at {a:List Nd} {i:Int}:(if firstE [hadE a i]=0 then (0:Int) else firstE [hadE a i])=hadE a i∧(if firstE [hadE a i]=0 then trimL (clearL a i) else [])=remL a i:=by
 rw [first_one,remL]
 refine ⟨?_,rfl⟩
 split
 ·rename_i h
  exact h.symm
 rfl
theorem cha_at {a:List Nd} {i:Int} {l:Lf}:(if firstE [hadE a i,srcE l 2]=0 then (0:Int) else firstE [hadE a i,srcE l 2])=chaE a i l∧(if firstE [hadE a i,srcE l 2]=0 then laidL (clearL a i) i l else [])=chaL a i l:=by
 have e:chaE a i l=firstE [hadE a i,srcE l 2]:=by rw [first_two,chaE]
 rw [chaL,e]
 refine ⟨?_,rfl⟩
 split
 ·rename_i h
  exact h.symm
 rfl
theorem com_at {a:List Nd} {i:Int} {l:Lf} {ks:List (List Int)}:(if firstE [hadE a i,srcE l 3]=0 then comX a i l ks else firstE [hadE a i,srcE l 3])=comE a i l ks∧(if firstE [hadE a i,srcE l 3]=0 then comY a i l ks else [])=comL a i l ks:=by
 by_cases h:firstE [hadE a i,srcE l 3]=0
 ·obtain ⟨h1,h2⟩:=first_zero h
  obtain ⟨x1,x2⟩:=comE_X (ks:=ks) h1 h2
  rw [if_pos h,if_pos h,x1,x2]
  exact ⟨rfl,rfl⟩
 rw [if_neg h,if_neg h]
 by_cases q:hadE a i=0
 ·have hs:¬srcE l 3=0:=fun z=>h (by rw [first_two,if_pos q,z])
  have e:=comE_src (ks:=ks) q hs
  rw [first_two,if_pos q,e]
  exact ⟨rfl,(comi_no (by rw [e];exact hs)).symm⟩
 have e:=comE_had (l:=l) (ks:=ks) q
 rw [first_two,if_neg q,e]
 exact ⟨rfl,(comi_no (by rw [e];exact q)).symm⟩
theorem room_any {W:World} {B:Nat} {s:SlV} {Ls:List Nd} (h:RwNd W B s Ls) (hB:B≤W.heap.size):Calls Tryz.prog 34 #[s.v] W fun e W'=>∃ v,e=.returned v∧∃ s':SlV,v=.tuple #[s'.v,nv (freeA (roomL (trAs Ls))),nv (roomE (trAs Ls))]∧RwNd W' W'.heap.size s' (roomL (trAs Ls))∧Below W.heap.size W W':=by
 refine Qf (n:=23) Tryz.func34 rfl Tryz.ntmps34 (by simp) ?_
 show CG _ _ _ [(0,s.v)] _ _
 have u:=Below.refl W.heap.size W
 have h:=h.more hB
 refine ZrA ?_
 refine ZA ?_
 refine ZAn [0,2,3,4] ?_
 refine Qd ?_
 refine ZrM ?_
 refine Zc (free_any (h.more (B':=W.heap.size) (by omega)) (Nat.le_refl _)) rfl rfl ?_
 rintro _ w1 ⟨rfl,hw1⟩
 have zw1:=hw1.size
 refine ZAn [0,2,3,4,5] ?_
 refine ZrM ?_
 by_cases c2:(freeA (trAs Ls))=(-1)
 ·refine Zan (yb (nd_f c2) yi_neq) [0,2,3,4,5,11] ?_
  refine Zcf [0,2,3,4] ?_
  refine ZrM ?_
  have h:=h.below (hw1.mono (by omega))
  refine Zc (grow_any (h.more (B':=w1.heap.size) (by omega)) (Nat.le_refl _)) rfl rfl ?_
  rintro _ w3 ⟨s3,rfl,m3,hw3⟩
  have zw3:=hw3.size
  refine ZM ?_
  refine Za y_extract ?_
  refine Za y_extract ?_
  refine ZA ?_
  refine ZAn [2,3,4,6,7] ?_
  refine ZrM ?_
  refine ZM ?_
  refine Zc (free_any (m3.more (B':=w3.heap.size) (by omega)) (Nat.le_refl _)) rfl rfl ?_
  rintro _ w4 ⟨rfl,hw4⟩
  have zw4:=hw4.size
  refine ZM ?_
  refine ZA ?_
  refine ZA ?_
  refine ZAnr [2,3,4] ?_
  have hf:=c2
  obtain ⟨r1,r2⟩:=room_no hf
  have r3:=grow_as Ls
  have r4:trAs (growL Ls)=growL Ls:=trAs_ok (trIs_growL Ls)
  have m3:=m3.below (hw4.mono (by omega))
  have u:=Un (Un (Un u hw1) hw3) hw4
  exact eg_ret_tmp3 rfl rfl rfl rfl ⟨_,rfl,s3,by rw [r1,r2,r3.1,r3.2,r4];rfl,(m3.more (by omega)).cast (by rw [r2,r3.1]),u⟩
 refine Zan (yb (nd_t c2) yi_neq) [0,2,3,4,5,11] ?_
 refine cg_ct rfl ?_
 refine ZrM ?_
 refine ZM ?_
 refine ZA ?_
 refine ZA ?_
 refine ZAnr [0,2,3,4] ?_
 refine Qc ?_
 have hf:=c2
 have hta:=trAs_ok (free_as hf)
 obtain ⟨r1,r2⟩:=room_yes hf
 have h:=h.below (hw1.mono (by omega))
 have u:=Un u hw1
 exact eg_ret_tmp3 rfl rfl rfl rfl ⟨_,rfl,s,by rw [r1,r2],(h.more (by omega)).cast (by rw [r2,hta]),u⟩
set_option maxHeartbeats 1000000 in
theorem add_any {W:World} {B:Nat} {s:SlV} {Ls:List Nd} (h:RwNd W B s Ls) {l:LfV} {L:Lf} (hl:IsLf W B l L) (hB:B≤W.heap.size) (rg:Tt W):Calls Tryz.prog 13 #[s.v,.agg (l.cs L)] W fun e W'=>∃ v,e=.returned v∧∃ s':SlV,v=.tuple #[s'.v,nv (addI (trAs Ls) L),nv (addE (trAs Ls) L)]∧RwNd W' W'.heap.size s' (addL (trAs Ls) L)∧Below W.heap.size W W':=by
 refine Qf (n:=37) Tryz.func13 rfl Tryz.ntmps13 (by simp) ?_
 show CG _ _ _ [(0,s.v),(1,.agg (l.cs L))] _ _
 have u:=Below.refl W.heap.size W
 have h:=h.more hB
 have hl:=hl.more hB
 refine Zr ?_
 refine lg_boxw Wn rfl rfl (by kernel_rfl) rfl (by decide) fun b1 w1 n1=>?_
 have r1:=n1.row
 have k1:=n1.blk
 have z1:=n1.size
 have lt1:b1<w1.heap.size:=by omega
 refine ZA ?_
 refine ZA ?_
 refine ZAn [0,3,4,5,6] ?_
 refine ZrM ?_
 have h:=h.below (n1.below.mono (by omega))
 refine Zc (room_any (h.more (B':=w1.heap.size) (by omega)) (Nat.le_refl _)) rfl rfl ?_
 rintro _ w2 ⟨s2,rfl,m2,hw2⟩
 have zw2:=hw2.size
 refine ZM ?_
 refine Za y_extract ?_
 refine Za y_extract ?_
 refine Za y_extract ?_
 refine lg_allocs (u:=nv 0) (by kernel_rfl) rfl Wn rfl rfl (by decide) fun b3 w3 n3=>?_
 have r3:=n3.row
 have k3:=n3.blk
 have z3:=n3.size
 have lt3:b3<w3.heap.size:=by omega
 refine ZA ?_
 refine ZA ?_
 have o4:=r3
 refine lg_sts r3 rfl rfl (by kernel_rfl) Wn rfl rfl rfl rfl fun w4 s4=>?_
 have r3:=s4.row
 have z4:=s4.size
 refine Zn [3,4,5,6,9,7,8] ?_
 refine Zr ?_
 refine Za (y_mkf (xs:=[]) (ys:=[.tmp 9])) ?_
 refine ZAn [3,4,5,6,7,8,10] ?_
 refine Qd ?_
 refine cg_held (by kernel_rfl) fun W5 eW5=>?_
 have dW5:=below_drew _ _ eW5
 have zW5:=size_drew _ _ eW5
 clear eW5
 refine Zh 1 (fun q hq=>y_move rfl rfl) ?_
 refine Zh 4 (fun q hq=>y_move rfl rfl) ?_
 refine Zh 5 (fun q hq=>y_move rfl rfl) ?_
 have r1:=RowAt.below hw2 r1.lt r1
 have r1:=n3.keep r1
 have r1:=s4.keep r1 (by omega)
 have r1:=RowAt.below dW5 r1.lt r1
 refine Zh 6 (fun q hq=>y_loadA (RowAt.below hq r1.lt r1) (by kernel_rfl) (by kernel_rfl) rfl rfl) ?_
 refine Zh 7 (fun q hq=>y_build (cs:=(⟨s2,l⟩:SqV).cs (⟨(roomL (trAs Ls)),(freeA (roomL (trAs Ls))),L⟩:Sq)) rfl rfl (by kernel_rfl)) ?_
 refine Zo 0 ?_
 refine Zc (from_any 1 _) rfl rfl ?_
 rintro _ w6 ⟨b6,rfl,r6,lb6,hw6⟩
 have zw6:=hw6.size
 have lt6:=r6.lt
 refine hg_next hw6 ?_
 refine hg_up hw6 ?_
 refine Zo 2 ?_
 refine lg_bslice (el:=64) (z:=.nilFunc) (cs:=#[((⟨72,[pv b6 0]⟩:FV).v),((⟨35,[pv b3 0]⟩:FV).v)]) (by kernel_rfl) (by kernel_rfl) (by decide) (by decide) rfl rfl (by kernel_rfl) rfl rfl (by decide) fun b7 w7 n7=>?_
 have r7:=n7.row
 have k7:=n7.blk
 have z7:=n7.size
 have lt7:b7<w7.heap.size:=by omega
 refine hg_next n7.below ?_
 refine hg_up n7.below ?_
 refine Zh 3 (fun q hq=>y_build (cs:=#[(⟨some ⟨b7,0,none⟩,2,2⟩:SlV).v,((⟨37,[]⟩:FV).v)]) rfl rfl (by kernel_rfl)) ?_
 have r6:=n7.keep r6
 have r3:=RowAt.below dW5 r3.lt r3
 have r3:=RowAt.below hw6 r3.lt r3
 have r3:=n7.keep r3
 have u:=Un (Un (Un u n1.below) hw2) n3.below
 have u:=u.trans (s4.below _ (by omega))
 have u:=Un (Un (Un u dW5) hw6) n7.below
 have m2:=(m2.below (n3.below.mono (by omega))).below (s4.below _ (by omega))
 have m2:=((m2.below (dW5.mono (by omega))).below (hw6.mono (by omega))).below (n7.below.mono (by omega))
 have hl:=(hl.below (n1.below.mono (by omega))).below (hw2.mono (by omega))
 have hl:=(hl.below (n3.below.mono (by omega))).below (s4.below _ (by omega))
 have hl:=((hl.below (dW5.mono (by omega))).below (hw6.mono (by omega))).below (n7.below.mono (by omega))
 refine Zo 8 ?_
 have hsp:IsSq w7 w7.heap.size (⟨s2,l⟩:SqV) (⟨(roomL (trAs Ls)),(freeA (roomL (trAs Ls))),L⟩:Sq):=(show IsSq w7 w7.heap.size (⟨s2,l⟩:SqV) (⟨(roomL (trAs Ls)),(freeA (roomL (trAs Ls))),L⟩:Sq) from ⟨(m2.more (B':=w7.heap.size) (by omega)),(hl.more (B':=w7.heap.size) (by omega))⟩)
 refine Zc ((by have z:=at_any (fs:=[⟨72,[pv b6 0]⟩,⟨35,[pv b3 0]⟩]) (es:=[srcE L 1,roomE (trAs Ls)]) (gv:=⟨37,[]⟩) (E:=0) (Ls:=laidL (joinW (freeA (roomL (trAs Ls))) (dirI (2*freeA (roomL (trAs Ls))) (roomL (trAs Ls)).length) (roomL (trAs Ls))) (freeA (roomL (trAs Ls))) L) hsp (Nat.le_refl _) r7 (Nat.le_of_ble_eq_true rfl) (asks_cons (by unfold okF;kernel_rfl) (fun w b=>from1_any (hsp.below b) b.size (RowAt.below b r6.lt r6)) (asks_cons (by unfold okF;kernel_rfl) (fun w b=>add1_any (hsp.below b) b.size (RowAt.below b r3.lt r3)) asks_nil)) (by unfold okF;kernel_rfl) (fun hz w b=>(by obtain ⟨z1,z2⟩:=first_zero hz;obtain ⟨r0,_,_,_,r4,_⟩:=room_ok (trAs_is Ls) z2;exact joined_any (hsp.below b) b.size r0 r4 (srcE_ok z1).1 (Tt.up b (Tt.up u rg))));rwa [add_at.1,add_at.2] at z)) rfl rfl ?_
 rintro _ w8 ⟨s8,rfl,m8,hw8⟩
 have zw8:=hw8.size
 refine hg_next hw8 ?_
 refine hg_up hw8 ?_
 refine Zh 9 (fun q hq=>y_move rfl rfl) ?_
 refine hg_takev 10 (by rfl) Wn rfl (by decide) (by kernel_rfl) (by kernel_rfl) (by kernel_rfl) (fun _ _ _ h=>h) (Below.refl _ _) (v_extract rfl rfl rfl) ?_
 refine hg_takev 11 (by rfl) Wn rfl (by decide) (by kernel_rfl) (by kernel_rfl) (by kernel_rfl) (fun _ _ _ h=>h) (Below.refl _ _) (v_extract rfl rfl rfl) ?_
 refine Zh 12 (fun q hq=>y_assign rfl rfl) ?_
 refine Zh 13 (fun q hq=>y_assign rfl rfl) ?_
 refine hg_done (by kernel_rfl) ?_
 refine Nx [4,5,6,8,11,12] ?_
 refine Qd ?_
 refine ZrM ?_
 by_cases c9:(addE (trAs Ls) L)=0
 ·refine Zan (yb (nd_f c9) yi_neq) [4,5,6,8,11,12,33] ?_
  refine Zcf [4,5,6,8,11] ?_
  refine ZrM ?_
  refine ZM ?_
  refine ZA ?_
  refine ZA ?_
  refine ZAnr [4,5,6] ?_
  have u:=Un u hw8
  have hz:=c9
  obtain ⟨x1,x2⟩:=add_ok (a:=(trAs Ls)) (l:=L) hz
  exact eg_ret_tmp3 rfl rfl rfl rfl ⟨_,rfl,s8,by rw [x1,hz];rfl,m8,u⟩
 refine Zan (yb (nd_t c9) yi_neq) [4,5,6,8,11,12,33] ?_
 refine cg_ct rfl ?_
 refine ZrM ?_
 refine ZA ?_
 refine ZA ?_
 refine ZAnr [8,11,4,5,6] ?_
 refine Qc ?_
 have u:=Un u hw8
 obtain ⟨x1,x2⟩:=add_no (a:=(trAs Ls)) (l:=L) c9
 exact eg_ret_tmp3 rfl rfl rfl rfl ⟨_,rfl,nilS,by rw [x1];rfl,(RwNd.nil _ _).cast x2.symm,u⟩
theorem rem_any {W:World} {B:Nat} {s:SlV} {Ls:List Nd} (h:RwNd W B s Ls) (i:Int) (hB:B≤W.heap.size) (rg:Tt W):Calls Tryz.prog 15 #[s.v,nv i] W fun e W'=>∃ v,e=.returned v∧∃ s':SlV,v=.tuple #[s'.v,nv (hadE (trAs Ls) i)]∧RwNd W' W'.heap.size s' (remL (trAs Ls) i)∧Below W.heap.size W W':=by
 refine Qf (n:=15) Tryz.func15 rfl Tryz.ntmps15 (by simp) ?_
 show CG _ _ _ [(0,s.v),(1,nv i)] _ _
 have u:=Below.refl W.heap.size W
 have h:=h.more hB
 refine ZrA ?_
 refine ZAn [0,1,4,5] ?_
 refine Zr ?_
 refine lg_bslice (el:=64) (z:=.nilFunc) (cs:=#[((⟨46,[]⟩:FV).v)]) (by kernel_rfl) (by kernel_rfl) (by decide) (by decide) rfl rfl (by kernel_rfl) rfl rfl (by decide) fun b1 w1 n1=>?_
 have r1:=n1.row
 have k1:=n1.blk
 have z1:=n1.size
 have lt1:b1<w1.heap.size:=by omega
 refine Za (y_build (cs:=#[(⟨some ⟨b1,0,none⟩,1,1⟩:SlV).v,((⟨47,[]⟩:FV).v)])) ?_
 refine ZM ?_
 refine ZM ?_
 refine Za (y_build (cs:=LfV.zero.cs Lf.zero)) ?_
 refine Za (y_build (cs:=(⟨s,LfV.zero⟩:SqV).cs (⟨Ls,i,Lf.zero⟩:Sq))) ?_
 have u:=Un u n1.below
 have h:=h.below (n1.below.mono (by omega))
 have hsp:IsSq w1 w1.heap.size (⟨s,LfV.zero⟩:SqV) (⟨Ls,i,Lf.zero⟩:Sq):=(show IsSq w1 w1.heap.size (⟨s,LfV.zero⟩:SqV) (⟨Ls,i,Lf.zero⟩:Sq) from ⟨(h.more (B':=w1.heap.size) (by omega)),((IsLf.zero _ 0).more (B':=w1.heap.size) (by omega))⟩)
 refine Zc ((by have z:=at_any (fs:=[⟨46,[]⟩]) (es:=[hadE (trAs Ls) i]) (gv:=⟨47,[]⟩) (E:=0) (Ls:=trimL (clearL (trAs Ls) i)) hsp (Nat.le_refl _) r1 (Nat.le_of_ble_eq_true rfl) (asks_cons (by unfold okF;kernel_rfl) (fun w b=>hadP_any (hsp.below b) b.size) asks_nil) (by unfold okF;kernel_rfl) (fun hz w b=>(by have z1:=first_one.symm.trans hz;obtain ⟨z3,_⟩:=hadE_ok z1;have hti:=leaves_tr z3.1 z3.2;have hta:=trAs_ok hti;rw [hta] at z3 ⊢;exact removed_any (hsp.below b) b.size hti z3 (Tt.up b (Tt.up u rg))));rwa [rem_at.1,rem_at.2] at z)) rfl rfl ?_
 rintro _ w2 ⟨s2,rfl,m2,hw2⟩
 have zw2:=hw2.size
 refine Za y_extract ?_
 refine Za y_extract ?_
 refine ZA ?_
 refine ZAnr [4,5] ?_
 have u:=Un u hw2
 exact eg_ret_tmp2 rfl rfl rfl ⟨_,rfl,_,rfl,m2,u⟩
theorem cha_any {W:World} {B:Nat} {s:SlV} {Ls:List Nd} (h:RwNd W B s Ls) (i:Int) {l:LfV} {L:Lf} (hl:IsLf W B l L) (hB:B≤W.heap.size) (rg:Tt W):Calls Tryz.prog 18 #[s.v,nv i,.agg (l.cs L)] W fun e W'=>∃ v,e=.returned v∧∃ s':SlV,v=.tuple #[s'.v,nv (chaE (trAs Ls) i L)]∧RwNd W' W'.heap.size s' (chaL (trAs Ls) i L)∧Below W.heap.size W W':=by
 refine Qf (n:=18) Tryz.func18 rfl Tryz.ntmps18 (by simp) ?_
 show CG _ _ _ [(0,s.v),(1,nv i),(2,.agg (l.cs L))] _ _
 have u:=Below.refl W.heap.size W
 have h:=h.more hB
 have hl:=hl.more hB
 refine Zr ?_
 refine lg_boxw Wn rfl rfl (by kernel_rfl) rfl (by decide) fun b1 w1 n1=>?_
 have r1:=n1.row
 have k1:=n1.blk
 have z1:=n1.size
 have lt1:b1<w1.heap.size:=by omega
 refine ZA ?_
 refine ZAn [0,1,5,6,7] ?_
 refine Qd ?_
 refine cg_held (by kernel_rfl) fun W2 eW2=>?_
 have dW2:=below_drew _ _ eW2
 have zW2:=size_drew _ _ eW2
 clear eW2
 refine Zh 3 (fun q hq=>y_move rfl rfl) ?_
 refine Zh 4 (fun q hq=>y_move rfl rfl) ?_
 have r1:=RowAt.below dW2 r1.lt r1
 refine Zh 5 (fun q hq=>y_loadA (RowAt.below hq r1.lt r1) (by kernel_rfl) (by kernel_rfl) rfl rfl) ?_
 refine Zh 6 (fun q hq=>y_build (cs:=(⟨s,l⟩:SqV).cs (⟨Ls,i,L⟩:Sq)) rfl rfl (by kernel_rfl)) ?_
 refine Zo 0 ?_
 refine Zc (from_any 2 _) rfl rfl ?_
 rintro _ w3 ⟨b3,rfl,r3,lb3,hw3⟩
 have zw3:=hw3.size
 have lt3:=r3.lt
 refine hg_next hw3 ?_
 refine hg_up hw3 ?_
 refine Zo 1 ?_
 refine lg_bslice (el:=64) (z:=.nilFunc) (cs:=#[((⟨46,[]⟩:FV).v),((⟨72,[pv b3 0]⟩:FV).v)]) (by kernel_rfl) (by kernel_rfl) (by decide) (by decide) rfl rfl (by kernel_rfl) rfl rfl (by decide) fun b4 w4 n4=>?_
 have r4:=n4.row
 have k4:=n4.blk
 have z4:=n4.size
 have lt4:b4<w4.heap.size:=by omega
 refine hg_next n4.below ?_
 refine hg_up n4.below ?_
 refine Zh 2 (fun q hq=>y_build (cs:=#[(⟨some ⟨b4,0,none⟩,2,2⟩:SlV).v,((⟨52,[]⟩:FV).v)]) rfl rfl (by kernel_rfl)) ?_
 have r3:=n4.keep r3
 have u:=Un (Un u n1.below) dW2
 have u:=Un (Un u hw3) n4.below
 have h:=(h.below (n1.below.mono (by omega))).below (dW2.mono (by omega))
 have h:=(h.below (hw3.mono (by omega))).below (n4.below.mono (by omega))
 have hl:=(hl.below (n1.below.mono (by omega))).below (dW2.mono (by omega))
 have hl:=(hl.below (hw3.mono (by omega))).below (n4.below.mono (by omega))
 refine Zo 7 ?_
 have hsp:IsSq w4 w4.heap.size (⟨s,l⟩:SqV) (⟨Ls,i,L⟩:Sq):=(show IsSq w4 w4.heap.size (⟨s,l⟩:SqV) (⟨Ls,i,L⟩:Sq) from ⟨(h.more (B':=w4.heap.size) (by omega)),(hl.more (B':=w4.heap.size) (by omega))⟩)
 refine Zc ((by have z:=at_any (fs:=[⟨46,[]⟩,⟨72,[pv b3 0]⟩]) (es:=[hadE (trAs Ls) i,srcE L 2]) (gv:=⟨52,[]⟩) (E:=0) (Ls:=laidL (clearL (trAs Ls) i) i L) hsp (Nat.le_refl _) r4 (Nat.le_of_ble_eq_true rfl) (asks_cons (by unfold okF;kernel_rfl) (fun w b=>hadP_any (hsp.below b) b.size) (asks_cons (by unfold okF;kernel_rfl) (fun w b=>from1_any (hsp.below b) b.size (RowAt.below b r3.lt r3)) asks_nil)) (by unfold okF;kernel_rfl) (fun hz w b=>(by obtain ⟨z1,z2⟩:=first_zero hz;obtain ⟨z3,_⟩:=hadE_ok z1;have hti:=leaves_tr z3.1 z3.2;have hta:=trAs_ok hti;rw [hta] at z3 ⊢;exact changed_any (hsp.below b) b.size hti z3 (srcE_ok z2).1 (Tt.up b (Tt.up u rg))));rwa [cha_at.1,cha_at.2] at z)) rfl rfl ?_
 rintro _ w5 ⟨s5,rfl,m5,hw5⟩
 have zw5:=hw5.size
 refine hg_next hw5 ?_
 refine hg_up hw5 ?_
 refine hg_takev 8 (by rfl) Wn rfl (by decide) (by kernel_rfl) (by kernel_rfl) (by kernel_rfl) (fun _ _ _ h=>h) (Below.refl _ _) (v_extract rfl rfl rfl) ?_
 refine hg_takev 9 (by rfl) Wn rfl (by decide) (by kernel_rfl) (by kernel_rfl) (by kernel_rfl) (fun _ _ _ h=>h) (Below.refl _ _) (v_extract rfl rfl rfl) ?_
 refine Zh 10 (fun q hq=>y_assign rfl rfl) ?_
 refine Zh 11 (fun q hq=>y_assign rfl rfl) ?_
 refine hg_done (by kernel_rfl) ?_
 refine Nx [6,7] ?_
 refine cg_ret ?_
 have u:=Un u hw5
 exact eg_ret_tmp2 rfl rfl rfl ⟨_,rfl,_,rfl,m5,u⟩
theorem com_any {W:World} {B:Nat} {s:SlV} {Ls:List Nd} (h:RwNd W B s Ls) (i:Int) {l:LfV} {L:Lf} (hl:IsLf W B l L) {r:SlV} {Ks:List (List Int)} (hk:RwOc W B r Ks) (hB:B≤W.heap.size) (rg:Tt W):Calls Tryz.prog 20 #[s.v,nv i,.agg (l.cs L),r.v] W fun e W'=>∃ v,e=.returned v∧∃ s':SlV,v=.tuple #[s'.v,nv (comE (trAs Ls) i L Ks)]∧RwNd W' W'.heap.size s' (comL (trAs Ls) i L Ks)∧Below W.heap.size W W':=by
 refine Qf (n:=22) Tryz.func20 rfl Tryz.ntmps20 (by simp) ?_
 show CG _ _ _ [(0,s.v),(1,nv i),(2,.agg (l.cs L)),(3,r.v)] _ _
 have u:=Below.refl W.heap.size W
 have h:=h.more hB
 have hl:=hl.more hB
 have hk:=hk.more hB
 refine Zr ?_
 refine lg_boxw Wn rfl rfl (by kernel_rfl) rfl (by decide) fun b1 w1 n1=>?_
 have r1:=n1.row
 have k1:=n1.blk
 have z1:=n1.size
 have lt1:b1<w1.heap.size:=by omega
 refine ZA ?_
 refine ZAn [0,1,3,6,8,9] ?_
 refine Qd ?_
 refine cg_held (by kernel_rfl) fun W2 eW2=>?_
 have dW2:=below_drew _ _ eW2
 have zW2:=size_drew _ _ eW2
 clear eW2
 refine Zh 2 (fun q hq=>y_move rfl rfl) ?_
 refine Zh 5 (fun q hq=>y_move rfl rfl) ?_
 refine Zh 6 (fun q hq=>y_move rfl rfl) ?_
 have r1:=RowAt.below dW2 r1.lt r1
 refine Zh 7 (fun q hq=>y_loadA (RowAt.below hq r1.lt r1) (by kernel_rfl) (by kernel_rfl) rfl rfl) ?_
 refine Zh 8 (fun q hq=>y_build (cs:=(⟨s,l⟩:SqV).cs (⟨Ls,i,L⟩:Sq)) rfl rfl (by kernel_rfl)) ?_
 refine Zo 0 ?_
 refine Zc (from_any 3 _) rfl rfl ?_
 rintro _ w3 ⟨b3,rfl,r3,lb3,hw3⟩
 have zw3:=hw3.size
 have lt3:=r3.lt
 refine hg_next hw3 ?_
 refine hg_up hw3 ?_
 refine hg_two 1 3 (by rfl) (by rfl) (by kernel_rfl) Wn Wn ?_ ?_
 ·refine lg_bslice (el:=64) (z:=.nilFunc) (cs:=#[((⟨46,[]⟩:FV).v),((⟨72,[pv b3 0]⟩:FV).v)]) (by kernel_rfl) (by kernel_rfl) (by decide) (by decide) rfl rfl (by kernel_rfl) rfl rfl (by decide) fun b4 w4 n4=>?_
  have r4:=n4.row
  have k4:=n4.blk
  have z4:=n4.size
  have lt4:b4<w4.heap.size:=by omega
  refine hg_next n4.below ?_
  refine hg_up n4.below ?_
  have hk:=(hk.below (n1.below.mono (by omega))).below (dW2.mono (by omega))
  have hk:=(hk.below (hw3.mono (by omega))).below (n4.below.mono (by omega))
  refine Zo 3 ?_
  refine Zc (committed_any (hk.more (B':=w4.heap.size) (by omega)) (Nat.le_refl _)) rfl rfl ?_
  rintro _ w5 ⟨b5,rfl,r5,lb5,hw5⟩
  have zw5:=hw5.size
  have lt5:=r5.lt
  refine hg_next hw5 ?_
  refine hg_up hw5 ?_
  refine Zh 4 (fun q hq=>y_build (cs:=#[(⟨some ⟨b4,0,none⟩,2,2⟩:SlV).v,((⟨86,[pv b5 0]⟩:FV).v)]) rfl rfl (by kernel_rfl)) ?_
  have r3:=n4.keep r3
  have r3:=RowAt.below hw5 r3.lt r3
  have hk:=hk.below (hw5.mono (by omega))
  have u:=Un (Un u n1.below) dW2
  have u:=Un (Un (Un u hw3) n4.below) hw5
  have h:=(h.below (n1.below.mono (by omega))).below (dW2.mono (by omega))
  have h:=((h.below (hw3.mono (by omega))).below (n4.below.mono (by omega))).below (hw5.mono (by omega))
  have hl:=(hl.below (n1.below.mono (by omega))).below (dW2.mono (by omega))
  have hl:=((hl.below (hw3.mono (by omega))).below (n4.below.mono (by omega))).below (hw5.mono (by omega))
  have r4:=RowAt.below hw5 r4.lt r4
  refine Zo 9 ?_
  have hsp:IsSq w5 w5.heap.size (⟨s,l⟩:SqV) (⟨Ls,i,L⟩:Sq):=(show IsSq w5 w5.heap.size (⟨s,l⟩:SqV) (⟨Ls,i,L⟩:Sq) from ⟨(h.more (B':=w5.heap.size) (by omega)),(hl.more (B':=w5.heap.size) (by omega))⟩)
  refine Zc ((by have z:=at_any (fs:=[⟨46,[]⟩,⟨72,[pv b3 0]⟩]) (es:=[hadE (trAs Ls) i,srcE L 3]) (gv:=⟨86,[pv b5 0]⟩) (E:=comX (trAs Ls) i L Ks) (Ls:=comY (trAs Ls) i L Ks) hsp (Nat.le_refl _) r4 (Nat.le_of_ble_eq_true rfl) (asks_cons (by unfold okF;kernel_rfl) (fun w b=>hadP_any (hsp.below b) b.size) (asks_cons (by unfold okF;kernel_rfl) (fun w b=>from1_any (hsp.below b) b.size (RowAt.below b r3.lt r3)) asks_nil)) (by unfold okF;kernel_rfl) (fun hz w b=>(by obtain ⟨z1,z2⟩:=first_zero hz;obtain ⟨z3,_⟩:=hadE_ok z1;have hti:=leaves_tr z3.1 z3.2;have hta:=trAs_ok hti;rw [hta] at z3 ⊢;exact committed1_any (hsp.below b) b.size hti z3 (srcE_ok z2).1 (((hk.more (B':=w5.heap.size) (by omega))).below b) (RowAt.below b r5.lt r5) (Tt.up b (Tt.up u rg))));rwa [com_at.1,com_at.2] at z)) rfl rfl ?_
  rintro _ w6 ⟨s6,rfl,m6,hw6⟩
  have zw6:=hw6.size
  refine hg_next hw6 ?_
  refine hg_up hw6 ?_
  refine hg_takev 10 (by rfl) Wn rfl (by decide) (by kernel_rfl) (by kernel_rfl) (by kernel_rfl) (fun _ _ _ h=>h) (Below.refl _ _) (v_extract rfl rfl rfl) ?_
  refine hg_takev 11 (by rfl) Wn rfl (by decide) (by kernel_rfl) (by kernel_rfl) (by kernel_rfl) (fun _ _ _ h=>h) (Below.refl _ _) (v_extract rfl rfl rfl) ?_
  refine Zh 12 (fun q hq=>y_assign rfl rfl) ?_
  refine Zh 13 (fun q hq=>y_assign rfl rfl) ?_
  refine hg_done (by kernel_rfl) ?_
  refine Nx [8,9] ?_
  refine cg_ret ?_
  have u:=Un u hw6
  exact eg_ret_tmp2 rfl rfl rfl ⟨_,rfl,_,rfl,m6,u⟩
 have hk:=((hk.below (n1.below.mono (by omega))).below (dW2.mono (by omega))).below (hw3.mono (by omega))
 refine Zc (committed_any (hk.more (B':=w3.heap.size) (by omega)) (Nat.le_refl _)) rfl rfl ?_
 rintro _ w7 ⟨b7,rfl,r7,lb7,hw7⟩
 have zw7:=hw7.size
 have lt7:=r7.lt
 refine hg_next hw7 ?_
 refine hg_up hw7 ?_
 refine Zo 1 ?_
 refine lg_bslice (el:=64) (z:=.nilFunc) (cs:=#[((⟨46,[]⟩:FV).v),((⟨72,[pv b3 0]⟩:FV).v)]) (by kernel_rfl) (by kernel_rfl) (by decide) (by decide) rfl rfl (by kernel_rfl) rfl rfl (by decide) fun b8 w8 n8=>?_
 have r8:=n8.row
 have k8:=n8.blk
 have z8:=n8.size
 have lt8:b8<w8.heap.size:=by omega
 refine hg_next n8.below ?_
 refine hg_up n8.below ?_
 refine Zh 4 (fun q hq=>y_build (cs:=#[(⟨some ⟨b8,0,none⟩,2,2⟩:SlV).v,((⟨86,[pv b7 0]⟩:FV).v)]) rfl rfl (by kernel_rfl)) ?_
 have r3:=RowAt.below hw7 r3.lt r3
 have r3:=n8.keep r3
 have hk:=(hk.below (hw7.mono (by omega))).below (n8.below.mono (by omega))
 have r7:=n8.keep r7
 have u:=Un (Un u n1.below) dW2
 have u:=Un (Un (Un u hw3) hw7) n8.below
 have h:=(h.below (n1.below.mono (by omega))).below (dW2.mono (by omega))
 have h:=((h.below (hw3.mono (by omega))).below (hw7.mono (by omega))).below (n8.below.mono (by omega))
 have hl:=(hl.below (n1.below.mono (by omega))).below (dW2.mono (by omega))
 have hl:=((hl.below (hw3.mono (by omega))).below (hw7.mono (by omega))).below (n8.below.mono (by omega))
 refine Zo 9 ?_
 have hsp:IsSq w8 w8.heap.size (⟨s,l⟩:SqV) (⟨Ls,i,L⟩:Sq):=(show IsSq w8 w8.heap.size (⟨s,l⟩:SqV) (⟨Ls,i,L⟩:Sq) from ⟨(h.more (B':=w8.heap.size) (by omega)),(hl.more (B':=w8.heap.size) (by omega))⟩)
 refine Zc ((by have z:=at_any (fs:=[⟨46,[]⟩,⟨72,[pv b3 0]⟩]) (es:=[hadE (trAs Ls) i,srcE L 3]) (gv:=⟨86,[pv b7 0]⟩) (E:=comX (trAs Ls) i L Ks) (Ls:=comY (trAs Ls) i L Ks) hsp (Nat.le_refl _) r8 (Nat.le_of_ble_eq_true rfl) (asks_cons (by unfold okF;kernel_rfl) (fun w b=>hadP_any (hsp.below b) b.size) (asks_cons (by unfold okF;kernel_rfl) (fun w b=>from1_any (hsp.below b) b.size (RowAt.below b r3.lt r3)) asks_nil)) (by unfold okF;kernel_rfl) (fun hz w b=>(by obtain ⟨z1,z2⟩:=first_zero hz;obtain ⟨z3,_⟩:=hadE_ok z1;have hti:=leaves_tr z3.1 z3.2;have hta:=trAs_ok hti;rw [hta] at z3 ⊢;exact committed1_any (hsp.below b) b.size hti z3 (srcE_ok z2).1 (((hk.more (B':=w8.heap.size) (by omega))).below b) (RowAt.below b r7.lt r7) (Tt.up b (Tt.up u rg))));rwa [com_at.1,com_at.2] at z)) rfl rfl ?_
 rintro _ w9 ⟨s9,rfl,m9,hw9⟩
 have zw9:=hw9.size
 refine hg_next hw9 ?_
 refine hg_up hw9 ?_
 refine hg_takev 10 (by rfl) Wn rfl (by decide) (by kernel_rfl) (by kernel_rfl) (by kernel_rfl) (fun _ _ _ h=>h) (Below.refl _ _) (v_extract rfl rfl rfl) ?_
 refine hg_takev 11 (by rfl) Wn rfl (by decide) (by kernel_rfl) (by kernel_rfl) (by kernel_rfl) (fun _ _ _ h=>h) (Below.refl _ _) (v_extract rfl rfl rfl) ?_
 refine Zh 12 (fun q hq=>y_assign rfl rfl) ?_
 refine Zh 13 (fun q hq=>y_assign rfl rfl) ?_
 refine hg_done (by kernel_rfl) ?_
 refine Nx [8,9] ?_
 refine cg_ret ?_
 have u:=Un u hw9
 exact eg_ret_tmp2 rfl rfl rfl ⟨_,rfl,_,rfl,m9,u⟩
end Go.Proofs.YtfdmhdnlmndhdaaGreatDoor
