/-
  A tree of leaves alone, and a way that is made in it.
-/
import Derived.Test.YtfbnallapgokeaaGreatDoorChPlan
namespace Go.Proofs.YtfbnallapgokeaaGreatDoor
open Go.ChangeShapes Go.WideShapes Go.ChangeAt Go.RowKit
set_option linter.unusedVariables false

set_option maxRecDepth 20000
/-- A leaf with a key; one that says a parent hash. -/
abbrev leafX (k:Int):Nd:=⟨1,⟨[k],[],1,[]⟩,Pn.zero⟩
abbrev saidX (k:Int) (H:List Int):Nd:=⟨1,⟨[k],[],3,H⟩,Pn.zero⟩
theorem said_ok {k:Int} {H:List Int} (h:H.length≤200):ndCheck (saidX k H)=0:=by
 refine nd_ok1 rfl rfl ?_
 show lfCheck ⟨[k],[],3,H⟩=0
 have h2:¬((200:Int)<(1:Int)∨(200:Int)<(0:Int)∨(200:Int)<(H.length:Int)):=fun z=>by omega
 exact (if_neg (show ¬(1:Int)=0 by decide)).trans ((if_neg h2).trans ((if_neg (show ¬¬((1:Int)≤3∧(3:Int)≤3) by decide)).trans (if_neg (fun z=>z.2 rfl))))
theorem RwOc.lit1 {w:World} {B b:Nat} {t:TypeId} {r:SlV} {xs:List Int} (hr:RowAt w b t #[r.v]) (h:Sl w B r xs) (hB:b<B):RwOc w B ⟨some ⟨b,0,none⟩,1,1⟩ [xs] :=
 ⟨Nat.le_refl _,of_decide_eq_true (by kernel_rfl),rfl,fun _=>⟨b,0,rfl,hB,fun i ys hy=>by
  obtain rfl:i=0:=by
   have:=(List.getElem?_eq_some_iff.1 hy).1
   simpa using this
  obtain rfl:xs=ys:=by simpa using hy
  exact ⟨r,h,by rw [cell_of_row w b _ _ t _ hr];rfl⟩⟩⟩
theorem leaf1_any (W:World):Calls Tryz.prog 36 #[nv 1] W fun e W'=>∃ v,e=.returned v∧∃ l:NdV,v=.agg (l.cs (leafX 1))∧IsNd W' W'.heap.size l (leafX 1)∧Below W.heap.size W W':=by
 refine calls_cg (n:=9) Tryz.func36 rfl Tryz.ntmps36 (by simp) ?_
 show CG _ _ _ [(0,nv 1)] _ _
 have u:=Below.refl W.heap.size W
 refine Zr ?_
 refine lg_allocw (cs:=NdV.zero.cs Nd.zero) (want_none (by rfl)) rfl (by kernel_rfl) rfl (by decide) fun b1 w1 n1=>?_
 have r1:=n1.row
 have k1:=n1.blk
 have z1:=n1.size
 have lt1:b1<w1.heap.size:=by omega
 refine Zn [0,2] ?_
 refine ZrM ?_
 refine Za (yv (show nv ((maskK 1 127:Nat):Int)=nv 1 from by kernel_rfl) (y_maskW 127 (by decide) rfl rfl rfl)) ?_
 refine Za (yv (show ov (toB 1)=.int .u8 1 from by kernel_rfl) (y_to8 (by kernel_rfl) rfl rfl)) ?_
 refine lg_bslice (z:=.int .u8 0) (cs:=#[.int .u8 1]) huo24 (by kernel_rfl) (by decide) (by decide) rfl rfl (by kernel_rfl) rfl rfl (by decide) fun b2 w2 n2=>?_
 have r2:=n2.row
 have k2:=n2.blk
 have z2:=n2.size
 have m2:Sl w2 (b2+1) ⟨some ⟨b2,0,none⟩,1,1⟩ [1]:=⟨Nat.le_refl _,of_decide_eq_true (by kernel_rfl),oct_lit r2 rfl (by decide)⟩
 refine Za (y_build (cs:=(⟨(⟨some ⟨b2,0,none⟩,1,1⟩:SlV),nilS,nilS⟩:LfV).cs (⟨([1]:List Int),[],1,[]⟩:Lf)) rfl rfl (by kernel_rfl)) ?_
 refine Za (y_build (cs:=(⟨(⟨(⟨some ⟨b2,0,none⟩,1,1⟩:SlV),nilS,nilS⟩:LfV),PnV.zero⟩:NdV).cs (⟨1,(⟨([1]:List Int),[],1,[]⟩:Lf),Pn.zero⟩:Nd)) rfl rfl (by kernel_rfl)) ?_
 have r1:=n2.keep r1
 have o3:=r1
 refine lg_stw (want_none (by rfl)) r1 rfl rfl rfl (by kernel_rfl) (by kernel_rfl) rfl rfl fun w3 s3=>?_
 have r1:=s3.row
 have z3:=s3.size
 refine Znr [2] ?_
 have m2:=m2.set o3 rfl s3
 have u:=Un (Un u n1.below) n2.below
 have u:=u.trans (s3.below _ (by omega))
 exact eg_ret_agg rfl rfl r1 (by kernel_rfl) (by kernel_rfl) ⟨_,rfl,(⟨(⟨(⟨some ⟨b2,0,none⟩,1,1⟩:SlV),nilS,nilS⟩:LfV),PnV.zero⟩:NdV),rfl,(show IsNd w3 w3.heap.size (⟨(⟨(⟨some ⟨b2,0,none⟩,1,1⟩:SlV),nilS,nilS⟩:LfV),PnV.zero⟩:NdV) (⟨1,(⟨([1]:List Int),[],1,[]⟩:Lf),Pn.zero⟩:Nd) from ⟨(show IsLf w3 w3.heap.size (⟨(⟨some ⟨b2,0,none⟩,1,1⟩:SlV),nilS,nilS⟩:LfV) (⟨([1]:List Int),[],1,[]⟩:Lf) from ⟨(m2.more (B':=w3.heap.size) (by omega)),((Sl.nil _ 0).more (B':=w3.heap.size) (by omega)),((Sl.nil _ 0).more (B':=w3.heap.size) (by omega))⟩),((IsPn.zero _ 0).more (B':=w3.heap.size) (by omega))⟩),u⟩
theorem leaf2_any (W:World):Calls Tryz.prog 36 #[nv 2] W fun e W'=>∃ v,e=.returned v∧∃ l:NdV,v=.agg (l.cs (leafX 2))∧IsNd W' W'.heap.size l (leafX 2)∧Below W.heap.size W W':=by
 refine calls_cg (n:=9) Tryz.func36 rfl Tryz.ntmps36 (by simp) ?_
 show CG _ _ _ [(0,nv 2)] _ _
 have u:=Below.refl W.heap.size W
 refine Zr ?_
 refine lg_allocw (cs:=NdV.zero.cs Nd.zero) (want_none (by rfl)) rfl (by kernel_rfl) rfl (by decide) fun b1 w1 n1=>?_
 have r1:=n1.row
 have k1:=n1.blk
 have z1:=n1.size
 have lt1:b1<w1.heap.size:=by omega
 refine Zn [0,2] ?_
 refine ZrM ?_
 refine Za (yv (show nv ((maskK 2 127:Nat):Int)=nv 2 from by kernel_rfl) (y_maskW 127 (by decide) rfl rfl rfl)) ?_
 refine Za (yv (show ov (toB 2)=.int .u8 2 from by kernel_rfl) (y_to8 (by kernel_rfl) rfl rfl)) ?_
 refine lg_bslice (z:=.int .u8 0) (cs:=#[.int .u8 2]) huo24 (by kernel_rfl) (by decide) (by decide) rfl rfl (by kernel_rfl) rfl rfl (by decide) fun b2 w2 n2=>?_
 have r2:=n2.row
 have k2:=n2.blk
 have z2:=n2.size
 have m2:Sl w2 (b2+1) ⟨some ⟨b2,0,none⟩,1,1⟩ [2]:=⟨Nat.le_refl _,of_decide_eq_true (by kernel_rfl),oct_lit r2 rfl (by decide)⟩
 refine Za (y_build (cs:=(⟨(⟨some ⟨b2,0,none⟩,1,1⟩:SlV),nilS,nilS⟩:LfV).cs (⟨([2]:List Int),[],1,[]⟩:Lf)) rfl rfl (by kernel_rfl)) ?_
 refine Za (y_build (cs:=(⟨(⟨(⟨some ⟨b2,0,none⟩,1,1⟩:SlV),nilS,nilS⟩:LfV),PnV.zero⟩:NdV).cs (⟨1,(⟨([2]:List Int),[],1,[]⟩:Lf),Pn.zero⟩:Nd)) rfl rfl (by kernel_rfl)) ?_
 have r1:=n2.keep r1
 have o3:=r1
 refine lg_stw (want_none (by rfl)) r1 rfl rfl rfl (by kernel_rfl) (by kernel_rfl) rfl rfl fun w3 s3=>?_
 have r1:=s3.row
 have z3:=s3.size
 refine Znr [2] ?_
 have m2:=m2.set o3 rfl s3
 have u:=Un (Un u n1.below) n2.below
 have u:=u.trans (s3.below _ (by omega))
 exact eg_ret_agg rfl rfl r1 (by kernel_rfl) (by kernel_rfl) ⟨_,rfl,(⟨(⟨(⟨some ⟨b2,0,none⟩,1,1⟩:SlV),nilS,nilS⟩:LfV),PnV.zero⟩:NdV),rfl,(show IsNd w3 w3.heap.size (⟨(⟨(⟨some ⟨b2,0,none⟩,1,1⟩:SlV),nilS,nilS⟩:LfV),PnV.zero⟩:NdV) (⟨1,(⟨([2]:List Int),[],1,[]⟩:Lf),Pn.zero⟩:Nd) from ⟨(show IsLf w3 w3.heap.size (⟨(⟨some ⟨b2,0,none⟩,1,1⟩:SlV),nilS,nilS⟩:LfV) (⟨([2]:List Int),[],1,[]⟩:Lf) from ⟨(m2.more (B':=w3.heap.size) (by omega)),((Sl.nil _ 0).more (B':=w3.heap.size) (by omega)),((Sl.nil _ 0).more (B':=w3.heap.size) (by omega))⟩),((IsPn.zero _ 0).more (B':=w3.heap.size) (by omega))⟩),u⟩
theorem said3_any (W:World) {B:Nat} {s:SlV} {H:List Int} (h:Sl W B s H) (hB:B≤W.heap.size):Calls Tryz.prog 24 #[nv 3,s.v] W fun e W'=>∃ v,e=.returned v∧∃ l:NdV,v=.agg (l.cs (saidX 3 H))∧IsNd W' W'.heap.size l (saidX 3 H)∧Below W.heap.size W W':=by
 refine calls_cg (n:=12) Tryz.func24 rfl Tryz.ntmps24 (by simp) ?_
 show CG _ _ _ [(0,nv 3),(1,s.v)] _ _
 have u:=Below.refl W.heap.size W
 refine Zr ?_
 refine lg_allocw (cs:=NdV.zero.cs Nd.zero) (want_none (by rfl)) rfl (by kernel_rfl) rfl (by decide) fun b1 w1 n1=>?_
 have r1:=n1.row
 have k1:=n1.blk
 have z1:=n1.size
 have lt1:b1<w1.heap.size:=by omega
 refine Zn [0,1,4] ?_
 refine ZrM ?_
 refine Za (yv (show nv ((maskK 3 127:Nat):Int)=nv 3 from by kernel_rfl) (y_maskW 127 (by decide) rfl rfl rfl)) ?_
 refine Za (yv (show ov (toB 3)=.int .u8 3 from by kernel_rfl) (y_to8 (by kernel_rfl) rfl rfl)) ?_
 refine lg_bslice (z:=.int .u8 0) (cs:=#[.int .u8 3]) huo24 (by kernel_rfl) (by decide) (by decide) rfl rfl (by kernel_rfl) rfl rfl (by decide) fun b2 w2 n2=>?_
 have r2:=n2.row
 have k2:=n2.blk
 have z2:=n2.size
 have m2:Sl w2 (b2+1) ⟨some ⟨b2,0,none⟩,1,1⟩ [3]:=⟨Nat.le_refl _,of_decide_eq_true (by kernel_rfl),oct_lit r2 rfl (by decide)⟩
 refine ZM ?_
 refine Za (y_build (cs:=(⟨(⟨some ⟨b2,0,none⟩,1,1⟩:SlV),nilS,s⟩:LfV).cs (⟨([3]:List Int),[],3,H⟩:Lf)) rfl rfl (by kernel_rfl)) ?_
 refine Za (y_build (cs:=(⟨(⟨(⟨some ⟨b2,0,none⟩,1,1⟩:SlV),nilS,s⟩:LfV),PnV.zero⟩:NdV).cs (⟨1,(⟨([3]:List Int),[],3,H⟩:Lf),Pn.zero⟩:Nd)) rfl rfl (by kernel_rfl)) ?_
 have r1:=n2.keep r1
 have o3:=r1
 refine lg_stw (want_none (by rfl)) r1 rfl rfl rfl (by kernel_rfl) (by kernel_rfl) rfl rfl fun w3 s3=>?_
 have r1:=s3.row
 have z3:=s3.size
 refine Znr [4] ?_
 have m2:=m2.set o3 rfl s3
 have h:=((h.below (n1.below.mono (by omega))).below (n2.below.mono (by omega))).below (s3.below _ (by omega))
 have u:=Un (Un u n1.below) n2.below
 have u:=u.trans (s3.below _ (by omega))
 exact eg_ret_agg rfl rfl r1 (by kernel_rfl) (by kernel_rfl) ⟨_,rfl,(⟨(⟨(⟨some ⟨b2,0,none⟩,1,1⟩:SlV),nilS,s⟩:LfV),PnV.zero⟩:NdV),rfl,(show IsNd w3 w3.heap.size (⟨(⟨(⟨some ⟨b2,0,none⟩,1,1⟩:SlV),nilS,s⟩:LfV),PnV.zero⟩:NdV) (⟨1,(⟨([3]:List Int),[],3,H⟩:Lf),Pn.zero⟩:Nd) from ⟨(show IsLf w3 w3.heap.size (⟨(⟨some ⟨b2,0,none⟩,1,1⟩:SlV),nilS,s⟩:LfV) (⟨([3]:List Int),[],3,H⟩:Lf) from ⟨(m2.more (B':=w3.heap.size) (by omega)),((Sl.nil _ 0).more (B':=w3.heap.size) (by omega)),(h.more (B':=w3.heap.size) (by omega))⟩),((IsPn.zero _ 0).more (B':=w3.heap.size) (by omega))⟩),u⟩
theorem said5_any (W:World) {B:Nat} {s:SlV} {H:List Int} (h:Sl W B s H) (hB:B≤W.heap.size):Calls Tryz.prog 24 #[nv 5,s.v] W fun e W'=>∃ v,e=.returned v∧∃ l:NdV,v=.agg (l.cs (saidX 5 H))∧IsNd W' W'.heap.size l (saidX 5 H)∧Below W.heap.size W W':=by
 refine calls_cg (n:=12) Tryz.func24 rfl Tryz.ntmps24 (by simp) ?_
 show CG _ _ _ [(0,nv 5),(1,s.v)] _ _
 have u:=Below.refl W.heap.size W
 refine Zr ?_
 refine lg_allocw (cs:=NdV.zero.cs Nd.zero) (want_none (by rfl)) rfl (by kernel_rfl) rfl (by decide) fun b1 w1 n1=>?_
 have r1:=n1.row
 have k1:=n1.blk
 have z1:=n1.size
 have lt1:b1<w1.heap.size:=by omega
 refine Zn [0,1,4] ?_
 refine ZrM ?_
 refine Za (yv (show nv ((maskK 5 127:Nat):Int)=nv 5 from by kernel_rfl) (y_maskW 127 (by decide) rfl rfl rfl)) ?_
 refine Za (yv (show ov (toB 5)=.int .u8 5 from by kernel_rfl) (y_to8 (by kernel_rfl) rfl rfl)) ?_
 refine lg_bslice (z:=.int .u8 0) (cs:=#[.int .u8 5]) huo24 (by kernel_rfl) (by decide) (by decide) rfl rfl (by kernel_rfl) rfl rfl (by decide) fun b2 w2 n2=>?_
 have r2:=n2.row
 have k2:=n2.blk
 have z2:=n2.size
 have m2:Sl w2 (b2+1) ⟨some ⟨b2,0,none⟩,1,1⟩ [5]:=⟨Nat.le_refl _,of_decide_eq_true (by kernel_rfl),oct_lit r2 rfl (by decide)⟩
 refine ZM ?_
 refine Za (y_build (cs:=(⟨(⟨some ⟨b2,0,none⟩,1,1⟩:SlV),nilS,s⟩:LfV).cs (⟨([5]:List Int),[],3,H⟩:Lf)) rfl rfl (by kernel_rfl)) ?_
 refine Za (y_build (cs:=(⟨(⟨(⟨some ⟨b2,0,none⟩,1,1⟩:SlV),nilS,s⟩:LfV),PnV.zero⟩:NdV).cs (⟨1,(⟨([5]:List Int),[],3,H⟩:Lf),Pn.zero⟩:Nd)) rfl rfl (by kernel_rfl)) ?_
 have r1:=n2.keep r1
 have o3:=r1
 refine lg_stw (want_none (by rfl)) r1 rfl rfl rfl (by kernel_rfl) (by kernel_rfl) rfl rfl fun w3 s3=>?_
 have r1:=s3.row
 have z3:=s3.size
 refine Znr [4] ?_
 have m2:=m2.set o3 rfl s3
 have h:=((h.below (n1.below.mono (by omega))).below (n2.below.mono (by omega))).below (s3.below _ (by omega))
 have u:=Un (Un u n1.below) n2.below
 have u:=u.trans (s3.below _ (by omega))
 exact eg_ret_agg rfl rfl r1 (by kernel_rfl) (by kernel_rfl) ⟨_,rfl,(⟨(⟨(⟨some ⟨b2,0,none⟩,1,1⟩:SlV),nilS,s⟩:LfV),PnV.zero⟩:NdV),rfl,(show IsNd w3 w3.heap.size (⟨(⟨(⟨some ⟨b2,0,none⟩,1,1⟩:SlV),nilS,s⟩:LfV),PnV.zero⟩:NdV) (⟨1,(⟨([5]:List Int),[],3,H⟩:Lf),Pn.zero⟩:Nd) from ⟨(show IsLf w3 w3.heap.size (⟨(⟨some ⟨b2,0,none⟩,1,1⟩:SlV),nilS,s⟩:LfV) (⟨([5]:List Int),[],3,H⟩:Lf) from ⟨(m2.more (B':=w3.heap.size) (by omega)),((Sl.nil _ 0).more (B':=w3.heap.size) (by omega)),(h.more (B':=w3.heap.size) (by omega))⟩),((IsPn.zero _ 0).more (B':=w3.heap.size) (by omega))⟩),u⟩
abbrev t13:List Nd:=[leafX 1,Nd.zero,leafX 2]
abbrev p13:List Nd:=[leafX 1,keyN [9] [],leafX 2]
abbrev h13:List Int:=givesL p13 1 2
abbrev s13:List Nd:=[saidX 3 h13,keyN [9] [],leafX 2]
theorem aw_is:trIs t13:=by decide
theorem aw_as:trAs t13=t13:=trAs_ok aw_is
theorem aw_node:isN 1 3:=by decide
theorem aw_e:planE t13 0 [[9]]=0:=by kernel_rfl
theorem aw_p:planP t13 0 [[9]]=p13:=by kernel_rfl
theorem aw_h:planH t13 0 [[9]]=h13:=by kernel_rfl
theorem aw_pis:trIs p13:=aw_p▸planP_is aw_is 0 [[9]]
theorem aw_hl:h13.length=32:=gives_len _ _ _
theorem aw_ok:okAt (0:Int).toNat (saidX 3 h13):=⟨said_ok (by rw [aw_hl];decide),.inr (show (1:Int)≠2 by decide),.inl (by decide)⟩
theorem aw_sis:trIs s13:=trIs_set (a:=p13) (i:=0) aw_pis aw_ok
theorem aw_set:setE p13 0 (saidX 3 h13)=0∧setL p13 0 (saidX 3 h13)=s13:=by
 have e:setE p13 0 (saidX 3 h13)=0:=setE_ok (by rw [trAs_ok aw_pis];decide) aw_ok.1 aw_ok.2
 exact ⟨e,by rw [setL_ok e,trAs_ok aw_pis];rfl⟩
theorem aw_ver:verL t13:=by
 intro i hi
 have hi:i<3:=hi
 refine ⟨isN_of aw_is (by omega) (show ((i:Nat):Int)<3 by omega),fun k=>?_⟩
 rcases (by omega:i=0∨i=1∨i=2) with rfl | rfl | rfl<;>exact absurd k (by decide)
theorem link_len {t:List Nd} {x c d:Int} (h:linkL t x c d):(saysN (atN t d.toNat)).length=32:=by rw [h.2.2.2.2.2,gives_len]
theorem aw_nv:¬validL p13 1:=fun h=>by
 have l0:resL p13 (leftI 1 (p13.length:Int))=[0]:=by kernel_rfl
 have l1:resL p13 (rightI 1 (p13.length:Int))=[2]:=by kernel_rfl
 rcases h.2 rfl with ⟨d,hd,hl⟩ | ⟨d,hd,hl⟩
 ·rw [l0] at hd
  obtain rfl:d=0:=by simpa using hd
  exact absurd (link_len hl) (by decide)
 ·rw [l1] at hd
  obtain rfl:d=2:=by simpa using hd
  exact absurd (link_len hl) (by decide)
theorem aw_sv:verL s13:=plan_all aw_is aw_e (n:=saidX 3 h13) (by rw [aw_p];rfl) (said_ok (by rw [aw_hl];decide)) rfl rfl (by rw [aw_h]) aw_ver
theorem aw_gives:givesL s13 1 2=h13:=gives_below (t:=s13) (s:=p13) rfl rfl fun y u=>by
 obtain rfl:y=2:=und_leaf (w:=3) (by decide) (by decide) u
 rfl
theorem aw_link:linkL s13 1 0 0:=by
 have l0:resL s13 0=[0]:=by
  rw [res_one (t:=s13) (x:=0) (show isN 0 3 by decide) (show ¬(1:Int)=0 by decide)]
  rfl
 refine ⟨by decide,rfl,.inl (by kernel_rfl),by rw [l0];decide,by rw [l0];rfl,?_⟩
 show h13=givesL s13 1 (sibI 0 3)
 rw [show sibI 0 3=2 from by kernel_rfl,aw_gives]
theorem aw_nl:¬linkL s13 1 2 2:=fun h=>absurd (show (0:Nat)=32 from link_len h) (by decide)
set_option maxHeartbeats 4000000 in
theorem awakeC_any (W:World) (rg:Tt W):Calls Tryz.prog 10 #[] W fun e W'=>∃ v,e=.returned v∧v=.bool true∧Below W.heap.size W W':=by
 refine calls_cg (n:=59) Tryz.func10 rfl Tryz.ntmps10 (by simp) ?_
 show CG _ _ _ [] _ _
 have u:=Below.refl W.heap.size W
 refine ZrA ?_
 refine Zn [0] ?_
 refine Zr ?_
 refine Zc (leaf1_any _) rfl rfl ?_
 rintro _ w1 ⟨l1,rfl,m1,hw1⟩
 have zw1:=hw1.size
 refine Za (y_build (cs:=NdV.zero.cs Nd.zero) rfl rfl (by kernel_rfl)) ?_
 refine Zc (leaf2_any _) rfl rfl ?_
 rintro _ w2 ⟨l2,rfl,m2,hw2⟩
 have zw2:=hw2.size
 have m1:=m1.below (hw2.mono (by omega))
 obtain ⟨bs4,hbs4⟩:∃ q,q=w2.heap.size:=⟨_,rfl⟩
 refine lg_bsR [(l1,(leafX 1)),(NdV.zero,Nd.zero),(l2,(leafX 2))] (List.forall_mem_cons.2 ⟨(m1.more (B':=w2.heap.size) (by omega)),(List.forall_mem_cons.2 ⟨((IsNd.zero _ 0).more (B':=w2.heap.size) (by omega)),(List.forall_mem_cons.2 ⟨(m2.more (B':=w2.heap.size) (by omega)),(fun p q=>by cases q)⟩)⟩)⟩) (Nat.le_refl _) (want_none (by rfl)) rfl rfl (by decide) (by decide) rfl (by kernel_rfl) rfl (by decide) fun s3 w3 f3 g3 l3=>?_
 have g3:=g3.cast (Ms:=([(leafX 1),Nd.zero,(leafX 2)]:List Nd)) rfl
 rw [←hbs4] at g3
 have z3:=l3.size
 refine ZAn [0,1] ?_
 refine ZrM ?_
 refine lg_bslice (z:=.int .u8 0) (cs:=#[.int .u8 9]) huo24 (by kernel_rfl) (by decide) (by decide) rfl rfl (by kernel_rfl) rfl rfl (by decide) fun b5 w5 n5=>?_
 have r5:=n5.row
 have k5:=n5.blk
 have z5:=n5.size
 have m5:Sl w5 (b5+1) ⟨some ⟨b5,0,none⟩,1,1⟩ [9]:=⟨Nat.le_refl _,of_decide_eq_true (by kernel_rfl),oct_lit r5 rfl (by decide)⟩
 refine lg_bslice (el:=27) (z:=.slice none 0 0) (cs:=#[(⟨some ⟨b5,0,none⟩,1,1⟩:SlV).v]) (by kernel_rfl) (by kernel_rfl) (by decide) (by decide) rfl rfl (by kernel_rfl) rfl rfl (by decide) fun b6 w6 n6=>?_
 have r6:=n6.row
 have k6:=n6.blk
 have z6:=n6.size
 have lt6:b6<w6.heap.size:=by omega
 have m5:=m5.below (n6.below.mono (by omega))
 have g3:=(g3.keep n5.below (by omega)).keep n6.below (by omega)
 have u:=Un (Un u hw1) hw2
 have u:=Un (Un (Un u l3) n5.below) n6.below
 refine Zc (plan_any ((g3.rowS (by omega)).more (B':=w6.heap.size) (by omega)) 0 ((RwOc.lit1 r6 (m5.more (B':=w6.heap.size) (by omega)) (by omega)).more (B':=w6.heap.size) (by omega)) (Nat.le_refl _) (Tt.up u rg)) rfl rfl ?_
 rintro _ w7 ⟨s7,r7,rfl,m7,n7,hw7⟩
 have zw7:=hw7.size
 have pl7:=planH_le (trAs ([(leafX 1),Nd.zero,(leafX 2)]:List Nd)) 0 [([9]:List Int)]
 refine ZM ?_
 refine Za (y_extract rfl rfl rfl) ?_
 refine Za (y_extract rfl rfl rfl) ?_
 refine Za (y_extract rfl rfl rfl) ?_
 refine ZA ?_
 refine ZA ?_
 refine ZAn [0,1,2,3,4] ?_
 refine ZrM ?_
 refine ZM ?_
 refine Zc (said3_any _ (n7.more (B':=w7.heap.size) (by omega)) (Nat.le_refl _)) rfl rfl ?_
 rintro _ w8 ⟨l8,rfl,m8,hw8⟩
 have zw8:=hw8.size
 have m7:=m7.below (hw8.mono (by omega))
 refine Zc (set_any (m7.more (B':=w8.heap.size) (by omega)) 0 (m8.more (B':=w8.heap.size) (by omega)) (Nat.le_refl _)) rfl rfl ?_
 rintro _ w9 ⟨s9,rfl,m9,hw9⟩
 have zw9:=hw9.size
 refine ZM ?_
 refine Za (y_extract rfl rfl rfl) ?_
 refine Za (y_extract rfl rfl rfl) ?_
 refine ZA ?_
 refine ZAn [0,1,2,3,4,5,6] ?_
 refine ZrM ?_
 have g3:=((g3.keep hw7 (by omega)).keep hw8 (by omega)).keep hw9 (by omega)
 have u:=Un (Un (Un u hw7) hw8) hw9
 refine Zc (verify_any ((g3.rowS (by omega)).more (B':=w9.heap.size) (by omega)) (Nat.le_refl _) (Tt.up u rg)) rfl rfl ?_
 rintro u10 w10 ⟨e10,hw10⟩
 have zw10:=hw10.size
 obtain rfl:u10=.bool true:=e10.trans (congrArg Value.bool (decide_eq_true (show verL (trAs ([(leafX 1),Nd.zero,(leafX 2)]:List Nd)) from (by rw [aw_as];exact aw_ver))))
 refine ZM ?_
 refine Zt 28 (y_move rfl rfl) ?_
 refine Zt 28 (yb (decide_eq_true (show (planE (trAs ([(leafX 1),Nd.zero,(leafX 2)]:List Nd)) 0 [([9]:List Int)])=0 from (by rw [aw_as];exact aw_e))) (yi_eql rfl rfl rfl)) ?_
 refine Za (y_pick true rfl rfl rfl) ?_
 refine ZM ?_
 refine Zt 32 (y_move rfl rfl) ?_
 have n7:=((n7.below (hw8.mono (by omega))).below (hw9.mono (by omega))).below (hw10.mono (by omega))
 refine Zt 32 (y_lenS (el:=5) n7 (by kernel_rfl) rfl rfl) ?_
 refine Zt 32 (yb (decide_eq_true (show ((planH (trAs ([(leafX 1),Nd.zero,(leafX 2)]:List Nd)) 0 [([9]:List Int)]).length:Int)=32 from (by rw [aw_as,aw_h,aw_hl];rfl))) (yi_eql rfl rfl rfl)) ?_
 refine Za (y_pick true rfl rfl rfl) ?_
 refine ZM ?_
 refine Zt 37 (y_move rfl rfl) ?_
 have m7:=(m7.below (hw9.mono (by omega))).below (hw10.mono (by omega))
 have u:=Un u hw10
 refine Zct 37 (valid_any (m7.more (B':=w10.heap.size) (by omega)) 1 (Nat.le_refl _) (Tt.up u rg)) rfl rfl ?_
 rintro u11 w11 ⟨e11,hw11⟩
 have zw11:=hw11.size
 obtain rfl:u11=.bool false:=e11.trans (congrArg Value.bool (decide_eq_false (show ¬(validL (trAs (planP (trAs ([(leafX 1),Nd.zero,(leafX 2)]:List Nd)) 0 [([9]:List Int)])) 1) from by rw [aw_as,aw_p,trAs_ok aw_pis];exact aw_nv)))
 refine Zt 37 (y_bnot rfl rfl) ?_
 refine Za (y_pick true rfl rfl rfl) ?_
 refine ZM ?_
 refine Zt 42 (y_move rfl rfl) ?_
 refine Zt 42 (yb (decide_eq_true (show (setE (planP (trAs ([(leafX 1),Nd.zero,(leafX 2)]:List Nd)) 0 [([9]:List Int)]) 0 (saidX 3 (planH (trAs ([(leafX 1),Nd.zero,(leafX 2)]:List Nd)) 0 [([9]:List Int)])))=0 from (by rw [aw_as,aw_p,aw_h];exact aw_set.1))) (yi_eql rfl rfl rfl)) ?_
 refine Za (y_pick true rfl rfl rfl) ?_
 refine ZM ?_
 refine Zt 46 (y_move rfl rfl) ?_
 have m9:=(m9.below (hw10.mono (by omega))).below (hw11.mono (by omega))
 have u:=Un u hw11
 refine Zct 46 (verify_any (m9.more (B':=w11.heap.size) (by omega)) (Nat.le_refl _) (Tt.up u rg)) rfl rfl ?_
 rintro u12 w12 ⟨e12,hw12⟩
 have zw12:=hw12.size
 obtain rfl:u12=.bool true:=e12.trans (congrArg Value.bool (decide_eq_true (show verL (trAs (setL (planP (trAs ([(leafX 1),Nd.zero,(leafX 2)]:List Nd)) 0 [([9]:List Int)]) 0 (saidX 3 (planH (trAs ([(leafX 1),Nd.zero,(leafX 2)]:List Nd)) 0 [([9]:List Int)])))) from (by rw [aw_as,aw_p,aw_h,aw_set.2,trAs_ok aw_sis];exact aw_sv))))
 refine Za (y_pick true rfl rfl rfl) ?_
 refine ZM ?_
 refine Zt 50 (y_move rfl rfl) ?_
 have m9:=m9.below (hw12.mono (by omega))
 have u:=Un u hw12
 refine Zct 50 (link_any (m9.more (B':=w12.heap.size) (by omega)) 1 0 0 (Nat.le_refl _) (Tt.up u rg)) rfl rfl ?_
 rintro u13 w13 ⟨e13,hw13⟩
 have zw13:=hw13.size
 obtain rfl:u13=.bool true:=e13.trans (congrArg Value.bool (decide_eq_true (show linkL (trAs (setL (planP (trAs ([(leafX 1),Nd.zero,(leafX 2)]:List Nd)) 0 [([9]:List Int)]) 0 (saidX 3 (planH (trAs ([(leafX 1),Nd.zero,(leafX 2)]:List Nd)) 0 [([9]:List Int)])))) 1 0 0 from (by rw [aw_as,aw_p,aw_h,aw_set.2,trAs_ok aw_sis];exact aw_link))))
 refine Za (y_pick true rfl rfl rfl) ?_
 refine ZM ?_
 refine Zt 54 (y_move rfl rfl) ?_
 have m9:=m9.below (hw13.mono (by omega))
 have u:=Un u hw13
 refine Zct 54 (link_any (m9.more (B':=w13.heap.size) (by omega)) 1 2 2 (Nat.le_refl _) (Tt.up u rg)) rfl rfl ?_
 rintro u14 w14 ⟨e14,hw14⟩
 have zw14:=hw14.size
 obtain rfl:u14=.bool false:=e14.trans (congrArg Value.bool (decide_eq_false (show ¬(linkL (trAs (setL (planP (trAs ([(leafX 1),Nd.zero,(leafX 2)]:List Nd)) 0 [([9]:List Int)]) 0 (saidX 3 (planH (trAs ([(leafX 1),Nd.zero,(leafX 2)]:List Nd)) 0 [([9]:List Int)])))) 1 2 2) from by rw [aw_as,aw_p,aw_h,aw_set.2,trAs_ok aw_sis];exact aw_nl)))
 refine Zt 54 (y_bnot rfl rfl) ?_
 refine Za (y_pick true rfl rfl rfl) ?_
 refine ZAnr [0] ?_
 have u:=Un u hw14
 exact eg_ret_tmp rfl rfl ⟨_,rfl,rfl,u⟩
end Go.Proofs.YtfbnallapgokeaaGreatDoor
