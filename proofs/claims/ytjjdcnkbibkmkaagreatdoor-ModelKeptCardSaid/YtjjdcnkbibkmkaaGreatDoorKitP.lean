/-
  KitP: LfProg, LfGet, LfPut, PnNum, PnProg, NdProg, NdPut.
-/
import Derived.Test.YtjjdcnkbibkmkaaGreatDoorKitN
namespace Go.Proofs.YtjjdcnkbibkmkaaGreatDoor
open Go.Proofs.Tryz
open Go.ChangeShapes Go.WideShapes Go.ChangeAt Go.RowKit
set_option linter.unusedVariables false
variable {B b:Nat} {L:Nd} {W:World} {e k:Int} {s:SlV} {t:TypeId} {xs:List Int}

/- LfProg:
  leaf.Check and leaf.Same.
-/
theorem large_any {w:World} (h:Sl w B s xs):Calls prog 172 #[s.v] w fun e w'=>e=.returned (.bool (decide (200<(xs.length:Int))))/\w'=w:=by
 refine Ze func172 ntmps172 ?_;refine ZrAn [0,2] ?_;refine ZrM ?_;refine Za (y_lenS (el:=5) h) ?_;refine Za yi_gtr ?_;refine ZAnr [2] ?_;exact Qa rfl rfl ⟨rfl,rfl⟩
theorem known_any (n:Int) (w:World):Calls prog 173 #[nv n] w fun e w'=>e=.returned (.bool (decide (1<=n/\n<=3)))/\w'=w:=by
 refine Ze func173 ntmps173 ?_;refine ZrAn [0,2] ?_;refine ZrM ?_;refine Zi yi_geq (fun c1=>?_) fun c1=>?_
 ·refine Xa 2 ?_;refine Zp 5 yi_leq (fun c2=>?_) fun c2=>?_
  ·refine Xu 2 [2] ?_;exact Qa rfl rfl ⟨congrArg (fun b=>Ending.returned (.bool b)) (show true=decide (1<=n/\n<=3) from (dT (by omega)).symm),rfl⟩
  refine Xu 2 [2] ?_;exact Qa rfl rfl ⟨congrArg (fun b=>Ending.returned (.bool b)) (show false=decide (1<=n/\n<=3) from (dF (by omega)).symm),rfl⟩
 refine Xu 5 [2] ?_;exact Qa rfl rfl ⟨congrArg (fun b=>Ending.returned (.bool b)) (show false=decide (1<=n/\n<=3) from (dF (by omega)).symm),rfl⟩
theorem check_any {l:LfV} {L:Lf} (hl:IsLf W B l L) (hB:B<=W.heap.size):Calls prog 116 #[.agg (l.cs L)] W fun e W'=>∃ v,e=.returned v/\v=nv (lfCheck L)/\Bw W W':=by
 refine Ze func116 ntmps116 ?_;have u:=Br W;refine Zr<|Zb fun b1 w1 n1=>?_
 have ⟨r1,k1,z1,lt1⟩:=n1.f;refine ZAn [1,2] ?_;refine Qd<|Qj<|Zr<|Zy 0 ?_
 refine Zv l.enc.v r1 ?_;have hl:=hl.below (Bm n1.below);refine Za (y_lenS (el:=5) hl.enc) ?_;refine Zi yi_eql (fun c2=>?_) fun c2=>?_
 ·refine ZAnt [1,2,3] ?_;refine ZrAr [2] ?_;refine Qg<|Qc ?_
  exact Qn (show 5=lfCheck L by unfold lfCheck;(repeat' split)<;>omega) (Un u n1.below)
 refine ZAn [1,2,3] ?_;refine cg_cf rfl<|Zr<|Zy 0 ?_
 refine Zv l.enc.v r1 ?_;refine Zi (Qp (large_any hl.enc)) (fun c3=>?_) fun c3=>?_
 ·refine Xt 11 [1,2,8] ?_;refine ZrAr [2] ?_;refine Qg<|Qc ?_
  exact Qn (show 4=lfCheck L by unfold lfCheck;(repeat' split)<;>omega) (Un u n1.below)
 refine ZM ?_;refine Zx 12 1 ?_;refine Zvt 12 l.cred.v r1 ?_;refine Zp 12 (Qp (large_any hl.cred)) (fun c4=>?_) fun c4=>?_
 ·refine Xt 7 [1,2,8] ?_;refine ZrAr [2] ?_;refine Qg<|Qc ?_
  exact Qn (show 4=lfCheck L by unfold lfCheck;(repeat' split)<;>omega) (Un u n1.below)
 refine Xa 2 ?_;refine Zx 17 3 ?_;refine Zvt 17 l.par.v r1 ?_;refine Zp 17 (Qp (large_any hl.par)) (fun c5=>?_) fun c5=>?_
 ·refine Xt 2 [1,2,8] ?_;refine ZrAr [2] ?_;refine Qg<|Qc ?_
  exact Qn (show 4=lfCheck L by unfold lfCheck;(repeat' split)<;>omega) (Un u n1.below)
 refine Xn 2 [1,2,8] ?_;refine cg_cf rfl<|Zr<|Zy 2 ?_
 refine Zv (nv L.src) r1 ?_;refine Zi (Qp (known_any L.src _)) (fun c6=>?_) fun c6=>?_
 ·refine Xn 2 [1,2,22] ?_;refine cg_cf rfl<|Zr<|Zy 3 ?_
  refine Zv l.par.v r1 ?_;refine Za (y_lenS (el:=5) hl.par) ?_;refine Zi yi_gtr (fun c7=>?_) fun c7=>?_
  ·refine ZM ?_;refine Zx 32 2 ?_;refine Zvt 32 (nv L.src) r1 ?_;refine Zq 32 yi_neq (fun c8=>?_) fun c8=>?_
   ·refine Xn 2 [2,27] ?_;refine cg_cf rfl<|cg_skip<|Qi<|Nx [2] ?_
    refine ZrAr [2] ?_;exact Qn (show 0=lfCheck L by unfold lfCheck;(repeat' split)<;>omega) (Un u n1.below)
   refine Xt 2 [2,27] ?_;refine ZrAr [2] ?_;refine Qg<|Qc ?_
   exact Qn (show 2=lfCheck L by unfold lfCheck;(repeat' split)<;>omega) (Un u n1.below)
  refine Xn 6 [2,27] ?_;refine cg_cf rfl<|cg_skip<|Qi<|Nx [2] ?_
  refine ZrAr [2] ?_;exact Qn (show 0=lfCheck L by unfold lfCheck;(repeat' split)<;>omega) (Un u n1.below)
 refine Xt 2 [1,2,22] ?_;refine ZrAr [2] ?_;refine Qg<|Qc ?_
 exact Qn (show 7=lfCheck L by unfold lfCheck;(repeat' split)<;>omega) (Un u n1.below)
theorem same_any {l m:LfV} {L M:Lf} (hl:IsLf W B l L) (hm:IsLf W B m M) (hB:B<=W.heap.size):Calls prog 114 #[.agg (l.cs L),.agg (m.cs M)] W fun e W'=>∃ v,e=.returned v/\v=.bool (decide (LfSame L M))/\Bw W W':=by
 refine Ze func114 ntmps114 ?_;have u:=Br W;refine Zr<|Zb fun b1 w1 n1=>?_
 have ⟨r1,k1,z1,lt1⟩:=n1.f;refine Zb fun b2 w2 n2=>?_;have ⟨r2,k2,z2,lt2⟩:=n2.f;refine ZAn [2,3,4] ?_;refine Zr<|Zy 0 ?_
 have r1:=n2.keep r1;refine Zv l.enc.v r1 ?_;refine Zy 0 ?_;refine Zv m.enc.v r2 ?_;have hl:=(hl.below (Bm n1.below)).below (Bm n2.below);have hm:=(hm.below (Bm n1.below)).below (Bm n2.below);refine Zi (Qp (bytesEq_S hl.enc hm.enc)) (fun c3=>?_) fun c3=>?_
 ·refine ZM ?_;refine Zx 10 1 ?_;refine Zvt 10 l.cred.v r1 ?_;refine Zx 10 1 ?_;refine Zvt 10 m.cred.v r2 ?_;refine Zp 10 (Qp (bytesEq_S hl.cred hm.cred)) (fun c4=>?_) fun c4=>?_
  ·refine Xa 2 ?_;refine Zx 17 2 ?_;refine Zvt 17 (nv L.src) r1 ?_;refine Zx 17 2 ?_;refine Zvt 17 (nv M.src) r2 ?_;refine Zp 17 yi_eql (fun c5=>?_) fun c5=>?_
   ·refine Xa 2 ?_;refine Zx 24 3 ?_;refine Zvt 24 l.par.v r1 ?_;refine Zx 24 3 ?_;refine Zvt 24 m.par.v r2 ?_;refine Zp 24 (Qp (bytesEq_S hl.par hm.par)) (fun c6=>?_) fun c6=>?_
    ·refine Xu 2 [4] ?_;have u:=Un (Un u n1.below) n2.below;exact Qt (show true=decide (LfSame L M) from (dT (by simp [LfSame, *])).symm) u
    refine Xu 2 [4] ?_;have u:=Un (Un u n1.below) n2.below;exact Qt (show false=decide (LfSame L M) from (dF (by simp [LfSame, *])).symm) u
   refine Xu 9 [4] ?_;have u:=Un (Un u n1.below) n2.below;exact Qt (show false=decide (LfSame L M) from (dF (by simp [LfSame, *])).symm) u
  refine Xu 16 [4] ?_;have u:=Un (Un u n1.below) n2.below;exact Qt (show false=decide (LfSame L M) from (dF (by simp [LfSame, *])).symm) u
 refine Xu 22 [4] ?_;have u:=Un (Un u n1.below) n2.below;exact Qt (show false=decide (LfSame L M) from (dF (by simp [LfSame, *])).symm) u
/- LfGet:
  leaf.Get, and its closures.
-/
theorem clB_any {be br:Nat} {te tr:TypeId} (re:RowAt W be te #[nv e]) (rr:RowAt W br tr #[s.v]) (hs:Sl W B s xs) (h1:B<=be) (h2:B<=br) (hB:B<=W.heap.size) (hne:be≠br):Calls prog 334 #[pv be 0,pv br 0] W fun e' W'=>∃ v,e'=.returned v/\∃ p r:SlV,v=p.v/\Sl W' B p (stepB xs e).1/\Sl W' B r (stepB xs e).2.1/\RowAt W' be te #[nv (stepB xs e).2.2]/\RowAt W' br tr #[r.v]/\But2 W W' be br:=by
 refine Ze func334 ntmps334 ?_;have u:=Br W;have lbe:=re.lt;have lbr:=rr.lt;have bu:=But2.refl (w:=W) be br;refine ZrAn [0,1,2] ?_;refine ZrAn [0,1,2,3] ?_;refine Qd<|Zr<|Zv (nv e) re ?_
 refine Zi yi_eql (fun c1=>?_) fun c1=>?_
 ·refine Znt [0,1,2,3,5] ?_;refine Qe<|Zv s.v rr ?_
  refine Zc (getBytes_S hs (by omega)) rfl rfl ?_;rintro _ w2 ⟨p2,r2,rfl,m2,l2,hw2⟩;have zw2:=hw2.size;refine Xa 5 ?_;have rr:=Rb hw2 rr;have o3:=rr;refine lg_sts rr rfl rfl (by kernel_rfl) Wn rfl rfl rfl rfl fun w3 s3=>?_;have ⟨rr,z3⟩:=s3.f;have re:=s3.kp (Rb hw2 re);have o4:=re;refine lg_sts re rfl rfl (by kernel_rfl) Wn rfl rfl rfl rfl fun w4 s4=>?_;have ⟨re,z4⟩:=s4.f;refine Zn [2,3] ?_;refine XRu 2 [2] ?_;have hst:stepB xs e=((bytesP xs),(bytesR xs),(bytesE xs)):=by simp [stepB,c1]
  refine Qa rfl rfl ?_;rw [hst];exact ⟨_,rfl,p2,r2,rfl,(m2.set o3 rfl s3).set o4 rfl s4,(l2.set o3 rfl s3).set o4 rfl s4,re,s4.kp rr,((bu.grow hw2).set s3 (by omega)).set s4 (by omega)⟩
 refine Zn [0,1,2,3,5] ?_;refine Zcf [2,3] ?_;refine XRu 2 [2] ?_;have hst:stepB xs e=([],xs,e):=by simp [stepB,c1]
 refine Qa rfl rfl ?_;rw [hst];exact ⟨_,rfl,nilS,s,rfl,(Sl.nil _ _),hs,re,rr,bu⟩
theorem clN_any {be br:Nat} {te tr:TypeId} (re:RowAt W be te #[nv e]) (rr:RowAt W br tr #[s.v]) (hs:Sl W B s xs) (h1:B<=be) (h2:B<=br) (hB:B<=W.heap.size) (hne:be≠br):Calls prog 335 #[pv be 0,pv br 0] W fun e' W'=>∃ v,e'=.returned v/\∃ r:SlV,v=nv (stepN xs e).1/\Sl W' B r (stepN xs e).2.1/\RowAt W' be te #[nv (stepN xs e).2.2]/\RowAt W' br tr #[r.v]/\But2 W W' be br:=by
 refine Ze func335 ntmps335 ?_;have u:=Br W;have lbe:=re.lt;have lbr:=rr.lt;have bu:=But2.refl (w:=W) be br;refine ZrAn [0,1,2] ?_;refine ZrAn [0,1,2,3] ?_;refine Qd<|Zr<|Zv (nv e) re ?_
 refine Zi yi_eql (fun c1=>?_) fun c1=>?_
 ·refine Znt [0,1,2,3,5] ?_;refine Qe<|Zv s.v rr ?_
  refine Zc (getNum_S 1 hs (by omega)) rfl rfl ?_;rintro _ w2 ⟨r2,rfl,l2,hw2⟩;have zw2:=hw2.size;refine Xa 5 ?_;have rr:=Rb hw2 rr;have o3:=rr;refine lg_sts rr rfl rfl (by kernel_rfl) Wn rfl rfl rfl rfl fun w3 s3=>?_;have ⟨rr,z3⟩:=s3.f;have re:=s3.kp (Rb hw2 re);have o4:=re;refine lg_sts re rfl rfl (by kernel_rfl) Wn rfl rfl rfl rfl fun w4 s4=>?_;have ⟨re,z4⟩:=s4.f;refine Zn [0,2,3] ?_;refine Qd<|Zr<|Zv (nv (numE xs 1)) re ?_
  refine Zi yi_eql (fun c5=>?_) fun c5=>?_
  ·refine Xa 2 ?_;refine Zp 14 (Qp (known_any (numM xs 1) _)) (fun c6=>?_) fun c6=>?_
   ·refine Xn 2 [0,2,3,18] ?_;refine Zcf [2,3] ?_;refine XRu 2 [2] ?_;have hst:stepN xs e=((numM xs 1),(numR xs 1),(numE xs 1)):=by simp [stepN,c1,c5,c6]
    refine Qa rfl rfl ?_;rw [hst];exact ⟨_,rfl,r2,rfl,(l2.set o3 rfl s3).set o4 rfl s4,re,s4.kp rr,((bu.grow hw2).set s3 (by omega)).set s4 (by omega)⟩
   refine Xt 2 [0,2,3,18] ?_;refine Qe ?_;have o7:=re;refine lg_sts re rfl rfl (by kernel_rfl) Wn rfl rfl rfl rfl fun w7 s7=>?_;have ⟨re,z7⟩:=s7.f;refine Zn [2,3] ?_;refine XRu 2 [2] ?_;have hst:stepN xs e=((numM xs 1),(numR xs 1),7):=by simp [stepN,c1,c5,c6]
   refine Qa rfl rfl ?_;rw [hst];exact ⟨_,rfl,r2,rfl,((l2.set o3 rfl s3).set o4 rfl s4).set o7 rfl s7,re,s7.kp (s4.kp rr),(((bu.grow hw2).set s3 (by omega)).set s4 (by omega)).set s7 (by omega)⟩
  refine Xn 5 [0,2,3,18] ?_;refine Zcf [2,3] ?_;refine XRu 2 [2] ?_;have hst:stepN xs e=((numM xs 1),(numR xs 1),(numE xs 1)):=by simp [stepN,c1,c5]
  refine Qa rfl rfl ?_;rw [hst];exact ⟨_,rfl,r2,rfl,(l2.set o3 rfl s3).set o4 rfl s4,re,s4.kp rr,((bu.grow hw2).set s3 (by omega)).set s4 (by omega)⟩
 refine Zn [0,1,2,3,5] ?_;refine Zcf [0,2,3] ?_;refine Qd<|Zr<|Zv (nv e) re ?_
 refine Za (yb (dF c1) yi_eql) ?_;refine Xn 5 [0,2,3,18] ?_;refine Zcf [2,3] ?_;refine XRu 2 [2] ?_;have hst:stepN xs e=(0,xs,e):=by simp [stepN,c1]
 refine Qa rfl rfl ?_;rw [hst];exact ⟨_,rfl,s,rfl,hs,re,rr,bu⟩
set_option maxHeartbeats 2000000 in
theorem getL_any (h:Sl W B s xs) (hB:B<=W.heap.size):Calls prog 313 #[s.v] W fun e W'=>∃ v,e=.returned v/\∃ (l:LfV) (r:SlV),v=.tuple #[.agg (l.cs (lfGet xs).2.1),r.v,nv (lfGet xs).1]/\IsLf W' B l (lfGet xs).2.1/\Sl W' B r (lfGet xs).2.2/\Bw W W':=by
 refine Ze func313 ntmps313 ?_;have u:=Br W;refine Zr<|lg_allocw (cs:=LfV.zero.cs Lf.zero) Wn rfl (by kernel_rfl) rfl (by decide) fun b1 w1 n1=>?_
 have ⟨r1,k1,z1,lt1⟩:=n1.f;refine Xn 2 [0,2,3,4] ?_;refine ZrM ?_;refine lg_allocs (u:=nilS.v) (by kernel_rfl) rfl Wn rfl rfl (by decide) fun b2 w2 n2=>?_;have ⟨r2,k2,z2,lt2⟩:=n2.f;refine lg_allocs (u:=nv 0) (by kernel_rfl) rfl Wn rfl rfl (by decide) fun b3 w3 n3=>?_;have ⟨r3,k3,z3,lt3⟩:=n3.f;have r2:=n3.keep r2;have o4:=r2;refine lg_sts r2 rfl rfl (by kernel_rfl) Wn rfl rfl rfl rfl fun w4 s4=>?_;have ⟨r2,z4⟩:=s4.f;have r3:=s4.kp r3;have o5:=r3;refine lg_sts r3 rfl rfl (by kernel_rfl) Wn rfl rfl rfl rfl fun w5 s5=>?_;have ⟨r3,z5⟩:=s5.f;refine Zn [2,3,4,5,6] ?_;refine Zr<|Za (y_mkf (xs:=[]) (ys:=[.tmp 6,.tmp 5])) ?_
 refine ZAn [2,3,4,5,6,7] ?_;refine Zr<|Za (y_mkf (xs:=[]) (ys:=[.tmp 6,.tmp 5])) ?_
 refine ZAn [2,3,4,5,6,7,8] ?_;refine Zr<|lg_allocw (cs:=LfV.zero.cs Lf.zero) Wn rfl (by kernel_rfl) rfl (by decide) fun b6 w6 n6=>?_
 have ⟨r6,k6,z6,lt6⟩:=n6.f;refine Zn [2,3,4,5,6,7,8,9] ?_;refine ZrM ?_;have r3:=n6.keep r3;have r2:=n6.keep (s5.kp r2);have h:=(((((h.below (Bm n1.below)).below (Bm n2.below)).below (Bm n3.below)).set o4 rfl s4).set o5 rfl s5).below (Bm n6.below);refine lg_callv (fs:=[]) (vs:=[]) (us:=[pv b3 0,pv b2 0]) Wn (clB_any r3 r2 h (by omega) (by omega) (by omega) (by omega)) (by kernel_rfl) rfl rfl rfl rfl (by decide) ?_;rintro _ w7 ⟨p7,r7,rfl,m7,l7,x7,y7,hw7⟩;have zw7:=hw7.size;rw [show stepB xs 0=gA xs from rfl] at m7 l7 x7;have r3:=x7;have r2:=y7;refine Zy 0 ?_;have r6:=hw7.kp r6;have o8:=r6;refine lg_st1 (new:=#[p7.v,LfV.zero.cred.v,nv Lf.zero.src,LfV.zero.par.v]) Wn r6 rfl rfl rfl (by kernel_rfl) rfl (show 0<4 by decide) rfl rfl fun w8 s8=>?_;have ⟨r6,z8⟩:=s8.f;refine Zn [2,3,4,5,6,7,8,9] ?_;refine ZrM ?_;have r3:=s8.kp r3;have r2:=s8.kp r2;have l7:=l7.set o8 rfl s8;refine lg_callv (fs:=[]) (vs:=[]) (us:=[pv b3 0,pv b2 0]) Wn (clB_any r3 r2 l7 (by omega) (by omega) (by omega) (by omega)) (by kernel_rfl) rfl rfl rfl rfl (by decide) ?_;rintro _ w9 ⟨p9,r9,rfl,m9,l9,x9,y9,hw9⟩;have zw9:=hw9.size;rw [show stepB ((gA xs).2.1) ((gA xs).2.2)=gB xs from rfl] at m9 l9 x9;have r3:=x9;have r2:=y9;refine Zy 1 ?_;have r6:=hw9.kp r6;have o10:=r6;refine lg_st1 (new:=#[p7.v,p9.v,nv Lf.zero.src,LfV.zero.par.v]) Wn r6 rfl rfl rfl (by kernel_rfl) rfl (show 1<4 by decide) rfl rfl fun w10 s10=>?_;have ⟨r6,z10⟩:=s10.f;refine Zn [2,3,4,5,6,7,8,9] ?_;refine ZrM ?_;have r3:=s10.kp r3;have r2:=s10.kp r2;have l9:=l9.set o10 rfl s10;refine lg_callv (fs:=[]) (vs:=[]) (us:=[pv b3 0,pv b2 0]) Wn (clN_any r3 r2 l9 (by omega) (by omega) (by omega) (by omega)) (by kernel_rfl) rfl rfl rfl rfl (by decide) ?_;rintro _ w11 ⟨r11,rfl,l11,x11,y11,hw11⟩;have zw11:=hw11.size;rw [show stepN ((gB xs).2.1) ((gB xs).2.2)=gC xs from rfl] at l11 x11;have r3:=x11;have r2:=y11;refine Zy 2 ?_;have r6:=hw11.kp r6;have o12:=r6;refine lg_st1 (new:=#[p7.v,p9.v,nv ((gC xs).1),LfV.zero.par.v]) Wn r6 rfl rfl rfl (by kernel_rfl) rfl (show 2<4 by decide) rfl rfl fun w12 s12=>?_;have ⟨r6,z12⟩:=s12.f;refine Zn [2,3,4,5,6,7,9] ?_;refine Qd<|Zr<|Zy 2 ?_
 refine Zv (nv ((gC xs).1)) r6 ?_;refine Zi yi_eql (fun c13=>?_) fun c13=>?_
 ·refine Znt [2,3,4,5,6,7,9,24] ?_;refine Qe<|ZM ?_
  have r3:=s12.kp r3;have r2:=s12.kp r2;have l11:=l11.set o12 rfl s12;refine lg_callv (fs:=[]) (vs:=[]) (us:=[pv b3 0,pv b2 0]) Wn (clB_any r3 r2 l11 (by omega) (by omega) (by omega) (by omega)) (by kernel_rfl) rfl rfl rfl rfl (by decide) ?_;rintro _ w14 ⟨p14,r14,rfl,m14,l14,x14,y14,hw14⟩;have zw14:=hw14.size;rw [show stepB ((gC xs).2.1) ((gC xs).2.2)=gD xs from rfl] at m14 l14 x14;have r3:=x14;have r2:=y14;refine Zy 3 ?_;have r6:=hw14.kp r6;have o15:=r6;refine lg_st1 (new:=#[p7.v,p9.v,nv ((gC xs).1),p14.v]) Wn r6 rfl rfl rfl (by kernel_rfl) rfl (show 3<4 by decide) rfl rfl fun w15 s15=>?_;have ⟨r6,z15⟩:=s15.f;refine Zn [2,3,4,5,6,9] ?_;refine Qd<|Zr ?_
  have r3:=s15.kp r3;refine Zv (nv ((gD xs).2.2)) r3 ?_;refine Zi yi_eql (fun c16=>?_) fun c16=>?_
  ·refine Znt [2,3,4,5,6,9,29] ?_;refine Qe<|Za (y_loadA r6) ?_
   have m7:=((((((m7.set o8 rfl s8).below hw9.bl).set o10 rfl s10).below hw11.bl).set o12 rfl s12).below hw14.bl).set o15 rfl s15;have m9:=((((m9.set o10 rfl s10).below hw11.bl).set o12 rfl s12).below hw14.bl).set o15 rfl s15;have m14:=m14.set o15 rfl s15;refine Zc (check_any (show IsLf w15 w15.heap.size (⟨p7,p9,p14⟩:LfV) (⟨(gA xs).1,(gB xs).1,(gC xs).1,(gD xs).1⟩:Lf) from ⟨m7.more (by omega),m9.more (by omega),m14.more (by omega)⟩) Lr) rfl rfl ?_;rintro _ w17 ⟨rfl,hw17⟩;have zw17:=hw17.size;have r3:=Rb hw17 r3;have o18:=r3;refine lg_sts r3 rfl rfl (by kernel_rfl) Wn rfl rfl rfl rfl fun w18 s18=>?_;have ⟨r3,z18⟩:=s18.f;refine Zn [2,3,4,5,6,9] ?_;refine Qd<|Zr<|Zv (nv (lfCheck (⟨(gA xs).1,(gB xs).1,(gC xs).1,(gD xs).1⟩:Lf))) r3 ?_
   refine Zj yi_neq (fun c19=>?_) fun c19=>?_
   ·refine Zn [2,3,4,5,6,9,33] ?_;refine Zcf [2,3,4,5,9] ?_;refine Qd<|cg_heldS (fun q=>RowAt q b2 26 #[r14.v]/\RowAt q b6 28 #[p7.v,p9.v,nv ((gC xs).1),p14.v]) (by kernel_rfl) (fun W20 eW20=>?_) fun W20 eW20=>?_
    ·have dW20:=below_drew _ _ eW20;exact ⟨Rb dW20 (s18.kp (Rb hw17 (s15.kp r2))),Rb dW20 (s18.kp (Rb hw17 r6))⟩
    have dW20:=below_drew _ _ eW20;have zW20:=size_drew _ _ eW20;clear eW20;have r2:=Rb dW20 (s18.kp (Rb hw17 (s15.kp r2)));have r6:=Rb dW20 (s18.kp (Rb hw17 r6));refine Zg 0 ⟨r2,r6⟩ (fun q hq=>y_loadA hq.2 (by kernel_rfl) (by kernel_rfl) rfl rfl) ?_;refine Zg 1 ⟨r2,r6⟩ (fun q hq=>Qo (v:=r14.v) hq.1 rfl (by kernel_rfl) rfl rfl) ?_;refine hgs_one 2 (by rfl) (by kernel_rfl) Wn ?_;have r1:=Rb dW20 (s18.kp (Rb hw17 (s15.kp (hw14.kp (s12.kp (hw11.kp (s10.kp (hw9.kp (s8.kp (hw7.kp (n6.keep (s5.kp (s4.kp (n3.keep (n2.keep r1)))))))))))))));have o21:=r1;refine Zw r1 fun w21 s21=>?_;have ⟨r1,z21⟩:=s21.f;have r2:=s21.kp r2;have r6:=s21.kp r6;refine hgs_next ⟨r2,r6⟩ ?_;refine Zg 3 ⟨r2,r6⟩ (fun q hq=>y_assign rfl rfl) ?_;refine Zg 4 ⟨r2,r6⟩ (fun q hq=>y_assign rfl rfl) ?_;refine hgs_done (by kernel_rfl) ?_;refine Nx [2,3,4] ?_;refine cg_ret ?_;have hst:lfGet xs=(0,(⟨(gA xs).1,(gB xs).1,(gC xs).1,(gD xs).1⟩:Lf),(gD xs).2.1):=(lfGet_steps xs).trans ((if_pos c13).trans ((if_pos c16).trans (if_pos c19)));refine Qz r1 ?_;rw [hst];exact ⟨_,rfl,(⟨p7,p9,p14⟩:LfV),r14,rfl,⟨(((m7.below (Bm hw17)).set o18 rfl s18).below (Bm dW20)).set o21 rfl s21,(((m9.below (Bm hw17)).set o18 rfl s18).below (Bm dW20)).set o21 rfl s21,(((m14.below (Bm hw17)).set o18 rfl s18).below (Bm dW20)).set o21 rfl s21⟩,((((l14.set o15 rfl s15).below (Bm hw17)).set o18 rfl s18).below (Bm dW20)).set o21 rfl s21,(Un ((Un (((((((((Un (((Un (Un (Un u n1.below) n2.below) n3.below).trans s4.bl).trans s5.bl) n6.below).trans hw7.bl).trans s8.bl).trans hw9.bl).trans s10.bl).trans hw11.bl).trans s12.bl).trans hw14.bl).trans s15.bl) hw17).trans s18.bl) dW20).trans s21.bl⟩
   refine Znt [2,3,4,5,6,9,33] ?_;refine Qd<|cg_heldS (fun q=>RowAt q b3 35 #[nv (lfCheck (⟨(gA xs).1,(gB xs).1,(gC xs).1,(gD xs).1⟩:Lf))]) (by kernel_rfl) (fun W22 eW22=>?_) fun W22 eW22=>?_
   ·have dW22:=below_drew _ _ eW22;exact (Rb dW22 r3)
   have dW22:=below_drew _ _ eW22;have zW22:=size_drew _ _ eW22;clear eW22;have r3:=Rb dW22 r3;refine Zg 0 r3 (fun q hq=>y_build (cs:=LfV.zero.cs Lf.zero) rfl rfl (by kernel_rfl)) ?_;refine Zg 1 r3 (fun q hq=>Qo (v:=nv (lfCheck (⟨(gA xs).1,(gB xs).1,(gC xs).1,(gD xs).1⟩:Lf))) hq rfl (by kernel_rfl) rfl rfl) ?_;refine hgs_one 2 (by rfl) (by kernel_rfl) Wn ?_;have r1:=Rb dW22 (s18.kp (Rb hw17 (s15.kp (hw14.kp (s12.kp (hw11.kp (s10.kp (hw9.kp (s8.kp (hw7.kp (n6.keep (s5.kp (s4.kp (n3.keep (n2.keep r1)))))))))))))));have o23:=r1;refine Zw r1 fun w23 s23=>?_;have ⟨r1,z23⟩:=s23.f;have r3:=s23.kp r3;refine hgs_next r3 ?_;refine Zg 3 r3 (fun q hq=>y_assign rfl rfl) ?_;refine Zg 4 r3 (fun q hq=>y_assign rfl rfl) ?_;refine hgs_done (by kernel_rfl) ?_;refine Nx [2,5,9,3,4] ?_;refine cg_ret<|Qc ?_
   have hst:lfGet xs=((lfCheck (⟨(gA xs).1,(gB xs).1,(gC xs).1,(gD xs).1⟩:Lf)),Lf.zero,[]):=(lfGet_steps xs).trans ((if_pos c13).trans ((if_pos c16).trans (if_neg c19)));refine Qz r1 ?_;rw [hst];exact ⟨_,rfl,LfV.zero,nilS,rfl,(IsLf.zero _ _),(Sl.nil _ _),(Un ((Un (((((((((Un (((Un (Un (Un u n1.below) n2.below) n3.below).trans s4.bl).trans s5.bl) n6.below).trans hw7.bl).trans s8.bl).trans hw9.bl).trans s10.bl).trans hw11.bl).trans s12.bl).trans hw14.bl).trans s15.bl) hw17).trans s18.bl) dW22).trans s23.bl⟩
  refine Zn [2,3,4,5,6,9,29] ?_;refine Zcf [2,3,4,5,6,9] ?_;refine Qd<|Zr<|Zv (nv ((gD xs).2.2)) r3 ?_
  refine Zant (yb (nd_t c16) yi_neq) [2,3,4,5,6,9,33] ?_;refine Qd<|cg_heldS (fun q=>RowAt q b3 35 #[nv ((gD xs).2.2)]) (by kernel_rfl) (fun W24 eW24=>?_) fun W24 eW24=>?_
  ·have dW24:=below_drew _ _ eW24;exact (Rb dW24 r3)
  have dW24:=below_drew _ _ eW24;have zW24:=size_drew _ _ eW24;clear eW24;have r3:=Rb dW24 r3;refine Zg 0 r3 (fun q hq=>y_build (cs:=LfV.zero.cs Lf.zero) rfl rfl (by kernel_rfl)) ?_;refine Zg 1 r3 (fun q hq=>Qo (v:=nv ((gD xs).2.2)) hq rfl (by kernel_rfl) rfl rfl) ?_;refine hgs_one 2 (by rfl) (by kernel_rfl) Wn ?_;have r1:=Rb dW24 (s15.kp (hw14.kp (s12.kp (hw11.kp (s10.kp (hw9.kp (s8.kp (hw7.kp (n6.keep (s5.kp (s4.kp (n3.keep (n2.keep r1)))))))))))));have o25:=r1;refine Zw r1 fun w25 s25=>?_;have ⟨r1,z25⟩:=s25.f;have r3:=s25.kp r3;refine hgs_next r3 ?_;refine Zg 3 r3 (fun q hq=>y_assign rfl rfl) ?_;refine Zg 4 r3 (fun q hq=>y_assign rfl rfl) ?_;refine hgs_done (by kernel_rfl) ?_;refine Nx [2,5,9,3,4] ?_;refine cg_ret<|Qc ?_
  have hst:lfGet xs=((gD xs).2.2,Lf.zero,[]):=(lfGet_steps xs).trans ((if_pos c13).trans (if_neg c16));refine Qz r1 ?_;rw [hst];exact ⟨_,rfl,LfV.zero,nilS,rfl,(IsLf.zero _ _),(Sl.nil _ _),(Un (((((((((Un (((Un (Un (Un u n1.below) n2.below) n3.below).trans s4.bl).trans s5.bl) n6.below).trans hw7.bl).trans s8.bl).trans hw9.bl).trans s10.bl).trans hw11.bl).trans s12.bl).trans hw14.bl).trans s15.bl) dW24).trans s25.bl⟩
 refine Zn [2,3,4,5,6,7,9,24] ?_;refine Zcf [2,3,4,5,6,9] ?_;refine Qd<|Zr ?_
 have r3:=s12.kp r3;refine Zv (nv ((gC xs).2.2)) r3 ?_;refine Zi yi_eql (fun c26=>?_) fun c26=>?_
 ·refine Znt [2,3,4,5,6,9,29] ?_;refine Qe<|Za (y_loadA r6) ?_
  have m7:=((((m7.set o8 rfl s8).below hw9.bl).set o10 rfl s10).below hw11.bl).set o12 rfl s12;have m9:=((m9.set o10 rfl s10).below hw11.bl).set o12 rfl s12;refine Zc (check_any (show IsLf w12 w12.heap.size (⟨p7,p9,LfV.zero.par⟩:LfV) (⟨(gA xs).1,(gB xs).1,(gC xs).1,Lf.zero.par⟩:Lf) from ⟨m7.more (by omega),m9.more (by omega),((IsLf.zero _ 0).par).more (by omega)⟩) Lr) rfl rfl ?_;rintro _ w27 ⟨rfl,hw27⟩;have zw27:=hw27.size;have r3:=Rb hw27 r3;have o28:=r3;refine lg_sts r3 rfl rfl (by kernel_rfl) Wn rfl rfl rfl rfl fun w28 s28=>?_;have ⟨r3,z28⟩:=s28.f;refine Zn [2,3,4,5,6,9] ?_;refine Qd<|Zr<|Zv (nv (lfCheck (⟨(gA xs).1,(gB xs).1,(gC xs).1,Lf.zero.par⟩:Lf))) r3 ?_
  refine Zj yi_neq (fun c29=>?_) fun c29=>?_
  ·refine Zn [2,3,4,5,6,9,33] ?_;refine Zcf [2,3,4,5,9] ?_;refine Qd<|cg_heldS (fun q=>RowAt q b2 26 #[r11.v]/\RowAt q b6 28 #[p7.v,p9.v,nv ((gC xs).1),LfV.zero.par.v]) (by kernel_rfl) (fun W30 eW30=>?_) fun W30 eW30=>?_
   ·have dW30:=below_drew _ _ eW30;exact ⟨Rb dW30 (s28.kp (Rb hw27 (s12.kp r2))),Rb dW30 (s28.kp (Rb hw27 r6))⟩
   have dW30:=below_drew _ _ eW30;have zW30:=size_drew _ _ eW30;clear eW30;have r2:=Rb dW30 (s28.kp (Rb hw27 (s12.kp r2)));have r6:=Rb dW30 (s28.kp (Rb hw27 r6));refine Zg 0 ⟨r2,r6⟩ (fun q hq=>y_loadA hq.2 (by kernel_rfl) (by kernel_rfl) rfl rfl) ?_;refine Zg 1 ⟨r2,r6⟩ (fun q hq=>Qo (v:=r11.v) hq.1 rfl (by kernel_rfl) rfl rfl) ?_;refine hgs_one 2 (by rfl) (by kernel_rfl) Wn ?_;have r1:=Rb dW30 (s28.kp (Rb hw27 (s12.kp (hw11.kp (s10.kp (hw9.kp (s8.kp (hw7.kp (n6.keep (s5.kp (s4.kp (n3.keep (n2.keep r1)))))))))))));have o31:=r1;refine Zw r1 fun w31 s31=>?_;have ⟨r1,z31⟩:=s31.f;have r2:=s31.kp r2;have r6:=s31.kp r6;refine hgs_next ⟨r2,r6⟩ ?_;refine Zg 3 ⟨r2,r6⟩ (fun q hq=>y_assign rfl rfl) ?_;refine Zg 4 ⟨r2,r6⟩ (fun q hq=>y_assign rfl rfl) ?_;refine hgs_done (by kernel_rfl) ?_;refine Nx [2,3,4] ?_;refine cg_ret ?_;have hst:lfGet xs=(0,(⟨(gA xs).1,(gB xs).1,(gC xs).1,Lf.zero.par⟩:Lf),(gC xs).2.1):=(lfGet_steps xs).trans ((if_neg c13).trans ((if_pos c26).trans (if_pos c29)));refine Qz r1 ?_;rw [hst];exact ⟨_,rfl,(⟨p7,p9,LfV.zero.par⟩:LfV),r11,rfl,⟨(((m7.below (Bm hw27)).set o28 rfl s28).below (Bm dW30)).set o31 rfl s31,(((m9.below (Bm hw27)).set o28 rfl s28).below (Bm dW30)).set o31 rfl s31,(IsLf.zero _ _).par⟩,((((l11.set o12 rfl s12).below (Bm hw27)).set o28 rfl s28).below (Bm dW30)).set o31 rfl s31,(Un ((Un (((((((Un (((Un (Un (Un u n1.below) n2.below) n3.below).trans s4.bl).trans s5.bl) n6.below).trans hw7.bl).trans s8.bl).trans hw9.bl).trans s10.bl).trans hw11.bl).trans s12.bl) hw27).trans s28.bl) dW30).trans s31.bl⟩
  refine Znt [2,3,4,5,6,9,33] ?_;refine Qd<|cg_heldS (fun q=>RowAt q b3 35 #[nv (lfCheck (⟨(gA xs).1,(gB xs).1,(gC xs).1,Lf.zero.par⟩:Lf))]) (by kernel_rfl) (fun W32 eW32=>?_) fun W32 eW32=>?_
  ·have dW32:=below_drew _ _ eW32;exact (Rb dW32 r3)
  have dW32:=below_drew _ _ eW32;have zW32:=size_drew _ _ eW32;clear eW32;have r3:=Rb dW32 r3;refine Zg 0 r3 (fun q hq=>y_build (cs:=LfV.zero.cs Lf.zero) rfl rfl (by kernel_rfl)) ?_;refine Zg 1 r3 (fun q hq=>Qo (v:=nv (lfCheck (⟨(gA xs).1,(gB xs).1,(gC xs).1,Lf.zero.par⟩:Lf))) hq rfl (by kernel_rfl) rfl rfl) ?_;refine hgs_one 2 (by rfl) (by kernel_rfl) Wn ?_;have r1:=Rb dW32 (s28.kp (Rb hw27 (s12.kp (hw11.kp (s10.kp (hw9.kp (s8.kp (hw7.kp (n6.keep (s5.kp (s4.kp (n3.keep (n2.keep r1)))))))))))));have o33:=r1;refine Zw r1 fun w33 s33=>?_;have ⟨r1,z33⟩:=s33.f;have r3:=s33.kp r3;refine hgs_next r3 ?_;refine Zg 3 r3 (fun q hq=>y_assign rfl rfl) ?_;refine Zg 4 r3 (fun q hq=>y_assign rfl rfl) ?_;refine hgs_done (by kernel_rfl) ?_;refine Nx [2,5,9,3,4] ?_;refine cg_ret<|Qc ?_
  have hst:lfGet xs=((lfCheck (⟨(gA xs).1,(gB xs).1,(gC xs).1,Lf.zero.par⟩:Lf)),Lf.zero,[]):=(lfGet_steps xs).trans ((if_neg c13).trans ((if_pos c26).trans (if_neg c29)));refine Qz r1 ?_;rw [hst];exact ⟨_,rfl,LfV.zero,nilS,rfl,(IsLf.zero _ _),(Sl.nil _ _),(Un ((Un (((((((Un (((Un (Un (Un u n1.below) n2.below) n3.below).trans s4.bl).trans s5.bl) n6.below).trans hw7.bl).trans s8.bl).trans hw9.bl).trans s10.bl).trans hw11.bl).trans s12.bl) hw27).trans s28.bl) dW32).trans s33.bl⟩
 refine Zn [2,3,4,5,6,9,29] ?_;refine Zcf [2,3,4,5,6,9] ?_;refine Qd<|Zr<|Zv (nv ((gC xs).2.2)) r3 ?_
 refine Zant (yb (nd_t c26) yi_neq) [2,3,4,5,6,9,33] ?_;refine Qd<|cg_heldS (fun q=>RowAt q b3 35 #[nv ((gC xs).2.2)]) (by kernel_rfl) (fun W34 eW34=>?_) fun W34 eW34=>?_
 ·have dW34:=below_drew _ _ eW34;exact (Rb dW34 r3)
 have dW34:=below_drew _ _ eW34;have zW34:=size_drew _ _ eW34;clear eW34;have r3:=Rb dW34 r3;refine Zg 0 r3 (fun q hq=>y_build (cs:=LfV.zero.cs Lf.zero) rfl rfl (by kernel_rfl)) ?_;refine Zg 1 r3 (fun q hq=>Qo (v:=nv ((gC xs).2.2)) hq rfl (by kernel_rfl) rfl rfl) ?_;refine hgs_one 2 (by rfl) (by kernel_rfl) Wn ?_;have r1:=Rb dW34 (s12.kp (hw11.kp (s10.kp (hw9.kp (s8.kp (hw7.kp (n6.keep (s5.kp (s4.kp (n3.keep (n2.keep r1)))))))))));have o35:=r1;refine Zw r1 fun w35 s35=>?_;have ⟨r1,z35⟩:=s35.f;have r3:=s35.kp r3;refine hgs_next r3 ?_;refine Zg 3 r3 (fun q hq=>y_assign rfl rfl) ?_;refine Zg 4 r3 (fun q hq=>y_assign rfl rfl) ?_;refine hgs_done (by kernel_rfl) ?_;refine Nx [2,5,9,3,4] ?_;refine cg_ret<|Qc ?_
 have hst:lfGet xs=((gC xs).2.2,Lf.zero,[]):=(lfGet_steps xs).trans ((if_neg c13).trans (if_neg c26));refine Qz r1 ?_;rw [hst];exact ⟨_,rfl,LfV.zero,nilS,rfl,(IsLf.zero _ _),(Sl.nil _ _),(Un (((((((Un (((Un (Un (Un u n1.below) n2.below) n3.below).trans s4.bl).trans s5.bl) n6.below).trans hw7.bl).trans s8.bl).trans hw9.bl).trans s10.bl).trans hw11.bl).trans s12.bl) dW34).trans s35.bl⟩
/- LfPut:
  leaf.Put.
-/
theorem putL_any {l:LfV} {L:Lf} (h:Sl W B s xs) (hl:IsLf W B l L) (hB:B<=W.heap.size) (hx:xs.length<=1000000):Calls prog 312 #[s.v,.agg (l.cs L)] W fun e W'=>∃ v,e=.returned v/\PutS W (xs++lfPut L) v W':=by
 refine Ze func312 ntmps312 ?_;have u:=Br W;refine Zr<|Zb fun b1 w1 n1=>?_
 have ⟨r1,k1,z1,lt1⟩:=n1.f;refine ZAn [0,3,4] ?_;refine Qd<|Zr<|Za (y_loadA r1) ?_
 have hl:=hl.below (Bm n1.below);refine Zd (check_any (hl.mW w1) Lr) ?_;rintro _ w2 ⟨rfl,hw2⟩;have zw2:=hw2.size;by_cases c3:(lfCheck L)=0
 ·have ok:=lfCheck_ok c3;refine Zan (yb (nd_f c3) yi_neq) [0,3,4,8] ?_;refine Zcf [0,3,4] ?_;refine Zr<|Zy 0 ?_
  have r1:=Rb hw2 r1;refine Zv l.enc.v r1 ?_;have hl:=hl.below (Bm hw2);refine Zc (putBytes_S (Sl.nil _ _) hl.enc (by omega) (by omega) (by simp only [List.length_nil];omega)) rfl rfl ?_;rintro _ w4 ⟨r4,rfl,m4,hw4⟩;have zw4:=hw4.size;have lb4:=bytesOct_le L.enc;refine ZAn [0,3,4,5] ?_;refine ZrM ?_;refine Zy 1 ?_;have r1:=Rb hw4 r1;refine Zv l.cred.v r1 ?_;have hl:=hl.below (Bm hw4);refine Zc (putBytes_S m4 hl.cred (by omega) (by omega) (by simp only [List.length_append,List.length_nil];omega)) rfl rfl ?_;rintro _ w5 ⟨r5,rfl,m5,hw5⟩;have zw5:=hw5.size;have lb5:=bytesOct_le L.cred;refine ZAn [0,3,4,5] ?_;refine ZrM ?_;refine Zy 2 ?_;have r1:=Rb hw5 r1;refine Zv (nv L.src) r1 ?_;refine Zc (putNum_S L.src 1 m5 (by omega) (by simp only [List.length_append,List.length_nil];omega)) rfl rfl ?_;rintro _ w6 ⟨r6,rfl,m6,hw6⟩;have zw6:=hw6.size;have wk6:=widthK_le 1;refine ZAn [0,3,4,5] ?_;refine Qd<|Zr<|Zy 2 ?_
  have r1:=Rb hw6 r1;refine Zv (nv L.src) r1 ?_;refine Zi yi_eql (fun c7=>?_) fun c7=>?_
  ·refine Znt [0,3,4,5,23] ?_;refine Qe<|ZM ?_
   refine Zy 3 ?_;refine Zv l.par.v r1 ?_;have hl:=(hl.below (Bm hw5)).below (Bm hw6);refine Zc (putBytes_S m6 hl.par (by omega) (by omega) (by simp only [List.length_append,List.length_nil,numOct_length];omega)) rfl rfl ?_;rintro _ w8 ⟨r8,rfl,m8,hw8⟩;have zw8:=hw8.size;have lb8:=bytesOct_le L.par;refine ZAn [0,4,5] ?_;refine XR 2 ?_;refine lg_bslice (el:=26) (z:=.slice none 0 0) (cs:=#[s.v,r8.v]) (by kernel_rfl) (by kernel_rfl) (by decide) (by decide) rfl rfl (by kernel_rfl) rfl rfl (by decide) fun b9 w9 n9=>?_;have ⟨r9,k9,z9,lt9⟩:=n9.f;have h:=((((((h.below (Bm n1.below)).below (Bm hw2)).below (Bm hw4)).below (Bm hw5)).below (Bm hw6)).below (Bm hw8)).below (Bm n9.below);have m8:=m8.below (Bm n9.below);refine Zc (concat2_S r9 h m8 (by omega) (by omega) (by simp only [List.length_append,List.length_nil,numOct_length];omega)) rfl rfl ?_;rintro _ w10 ⟨r10,rfl,m10,hw10⟩;have zw10:=hw10.size;refine ZAnr [4] ?_;have u:=Un (Un (Un (Un (Un (Un (Un (Un u n1.below) hw2) hw4) hw5) hw6) hw8) n9.below) hw10;exact Qa rfl rfl ⟨_,rfl,r10,rfl,m10.cast (by simp [lfPut,lfOct, *]),u⟩
  refine Zn [0,3,4,5,23] ?_;refine Zcf [0,4,5] ?_;refine XR 2 ?_;refine lg_bslice (el:=26) (z:=.slice none 0 0) (cs:=#[s.v,r6.v]) (by kernel_rfl) (by kernel_rfl) (by decide) (by decide) rfl rfl (by kernel_rfl) rfl rfl (by decide) fun b11 w11 n11=>?_;have ⟨r11,k11,z11,lt11⟩:=n11.f;have h:=(((((h.below (Bm n1.below)).below (Bm hw2)).below (Bm hw4)).below (Bm hw5)).below (Bm hw6)).below (Bm n11.below);have m6:=m6.below (Bm n11.below);refine Zc (concat2_S r11 h m6 (by omega) (by omega) (by simp only [List.length_append,List.length_nil,numOct_length];omega)) rfl rfl ?_;rintro _ w12 ⟨r12,rfl,m12,hw12⟩;have zw12:=hw12.size;refine ZAnr [4] ?_;have u:=Un (Un (Un (Un (Un (Un (Un u n1.below) hw2) hw4) hw5) hw6) n11.below) hw12;exact Qa rfl rfl ⟨_,rfl,r12,rfl,m12.cast (by simp [lfPut,lfOct, *]),u⟩
 refine Zant (yb (nd_t c3) yi_neq) [0,3,4,8] ?_;refine XRu 2 [0,3,4] ?_;refine Qc ?_;have h:=(h.below (Bm n1.below)).below (Bm hw2);have u:=Un (Un u n1.below) hw2;exact Qa rfl rfl ⟨_,rfl,s,rfl,(h.more (by omega)).cast (by rw [lfPut,if_neg c3,List.append_nil]),u⟩
/- PnNum:
  The program's and the document's small questions of lists of whole numbers.
-/
section
variable {w W:World} {B B2:Nat} {s s2:SlV} {xs ys:List Int}
theorem outside_any (n:Int) (w:World):Calls prog 176 #[nv n] w fun e w'=>e=.returned (.bool (decide (n<0\/64<=n)))/\w'=w:=by
 refine Ze func176 ntmps176 ?_;refine ZrAn [0,2] ?_;refine ZrM ?_;refine Zi yi_lss (fun c1=>?_) fun c1=>?_
 ·refine Xu 5 [2] ?_;exact Qa rfl rfl ⟨congrArg (fun b=>Ending.returned (.bool b)) (dT (by omega)).symm,rfl⟩
 refine Xa 2 ?_;refine Zp 5 yi_geq (fun c2=>?_) fun c2=>?_
 ·refine Xu 2 [2] ?_;exact Qa rfl rfl ⟨congrArg (fun b=>Ending.returned (.bool b)) (dT (by omega)).symm,rfl⟩
 refine Xu 2 [2] ?_;exact Qa rfl rfl ⟨congrArg (fun b=>Ending.returned (.bool b)) (dF (by omega)).symm,rfl⟩
def outI (xs:List Int):Int:=if ∃ x∈xs,x<0\/64<=x then ((xs.takeWhile fun x=>!decide (x<0\/64<=x)).length:Int) else -1
theorem outI_at:∀ {xs:List Int} {t:Nat},(∀ j,j<t->¬(xs.getD j 0<0\/64<=xs.getD j 0))->t<xs.length->(xs.getD t 0<0\/64<=xs.getD t 0)->outI xs=(t:Int):=by
 intro xs t hno ht hx;have he:∃ x∈xs,x<0\/64<=x:=⟨_,getD_mem ht,hx⟩;rw [outI,if_pos he];refine congrArg Int.ofNat ?_;clear he;induction xs generalizing t with
 | nil=>exact absurd ht (Nat.not_lt_zero _)
 | cons y r ih =>
  cases t with
  | zero =>
   have hx':y<0\/64<=y:=hx;rw [List.takeWhile_cons,decide_eq_true hx'];rfl
  | succ t =>
   have h0:¬(y<0\/64<=y):=hno 0 (by omega);rw [List.takeWhile_cons,decide_eq_false h0];show (y::_).length=_;rw [List.length_cons,ih (fun j hj=>hno (j+1) (by omega)) (by simpa using ht) hx]
theorem outI_no (h:∀ j,j<xs.length->¬(xs.getD j 0<0\/64<=xs.getD j 0)):outI xs=-1:=by
 rw [outI,if_neg];rintro ⟨x,hx,h1⟩;obtain ⟨i,hi,rfl⟩:=mem_getD hx;exact h i hi h1
theorem outI_iff (xs:List Int):0<=outI xs↔∃ x∈xs,x<0\/64<=x:=by
 unfold outI;split
 ·rename_i h
  exact ⟨fun _=>h,fun _=>by omega⟩
 rename_i h
 exact ⟨fun q=>absurd q (by decide),fun q=>absurd q h⟩
theorem indexOut_any [Lo] (h:SlN w B s xs):Calls prog 219 #[s.v,.func (.func 176) #[] #[]] w fun e w'=>e=.returned (nv (outI xs))/\w'=w:=by
 refine Ze func219 ntmps219 ?_;refine ZrAn [0,1,4] ?_;refine Qd<|ZrM ?_
 refine Za (y_lenM (el:=3) h.len) ?_;refine Xn 1 [0,1,4,7,8] ?_;refine Qj<|Qr (fun t a v=>Holds 19 [(0,s.v),(1,.func (.func 176) #[] #[]),(7,nv (xs.length:Int)),(8,nv ((t:Nat):Int))] a/\v=w/\t<=xs.length/\(∀ j,j<t->¬((xs.getD j 0)<0\/64<=(xs.getD j 0)))) xs.length (fun a ha=>⟨ha.keep kz,rfl,(Nat.zero_le _),(fun j hj=>absurd hj (Nat.not_lt_zero _))⟩) ?_
 rintro t a v ht ⟨ha,rfl,tle,hno⟩;refine cg_at ha ?_;clear ha a;have le_h:=h.len;have ca_h:=h.cap;refine Zr ?_;refine Zi yi_lss (fun c1=>?_) fun c1=>?_
 ·refine Zn [0,1,7,8,9] ?_;refine Qd<|cg_ct rfl<|Zki [0,1,7,8,9] ?_
  refine Qd<|Qj<|ZrM ?_
  refine ZAn [0,1,7,8,9,10,5] ?_;refine XR 3 ?_;refine Za (y_ixT (i:=t) (iI:=((t:Nat):Int)) h (by omega) (by omega) rfl rfl rfl) ?_;refine Za (y_ldT (i:=t) h (by omega) rfl rfl) ?_;refine Zi (y_callf (outside_any (xs.getD t 0) _)) (fun c2=>?_) fun c2=>?_
  ·refine Znt [0,1,7,8,9,10,5,11,12,13,14,15,16] ?_;refine XRu 2 [0,1,7,8,9,10,5,11,12,13,14,15,16,17,4] ?_;refine Qg<|Qc<|Qc<|Qg<|Qc ?_
   exact Qa rfl rfl ⟨congrArg (fun b=>Ending.returned (nv b)) (outI_at hno (by omega) c2).symm,rfl⟩
  refine Xc 0 [0,1,7,8,9,10,5,11,12,13,14,15,16] ?_;refine cg_skip<|Qi<|Nx [0,1,7,8,9,10,5,11,12,13,14,15,16] ?_
  refine Qe<|Za Yj ?_
  refine ZM ?_;refine Qk ?_;exact fun a ha=>(show t<xs.length/\_ from ⟨(by omega),ha.keep kz,rfl,(by omega),(fun j hj=>if q:j<t then hno j q else by
    obtain rfl:j=t:=by omega
    exact c2)⟩)
 refine Zn [0,1,7,8,9] ?_;refine Qd<|cg_cf rfl<|cg_exit<|Qh<|Qh<|Ql<|nx (E':=[]) fn ?_
 refine ZrAr [4] ?_;exact Qa rfl rfl ⟨congrArg (fun b=>Ending.returned (nv b)) (outI_no fun j hj=>hno j (by omega)).symm,rfl⟩
theorem containsOut_any [Lo] (h:SlN w B s xs):Calls prog 175 #[s.v,.func (.func 176) #[] #[]] w fun e w'=>e=.returned (.bool (decide (∃ x∈xs,x<0\/64<=x)))/\w'=w:=by
 refine Ze func175 ntmps175 ?_;refine ZrAn [0,1,4] ?_;refine XR 2 ?_;refine Za (Qp (indexOut_any h)) ?_;refine Zi yi_geq (fun c1=>?_) fun c1=>?_
 ·refine ZAnr [4] ?_;exact Qa rfl rfl ⟨congrArg (fun b=>Ending.returned (.bool b)) (dT ((outI_iff xs).1 c1)).symm,rfl⟩
 refine ZAnr [4] ?_;exact Qa rfl rfl ⟨congrArg (fun b=>Ending.returned (.bool b)) (dF (fun q=>c1 ((outI_iff xs).2 q))).symm,rfl⟩
theorem largeP_any (h:Sl w B s xs):Calls prog 174 #[s.v] w fun e w'=>e=.returned (.bool (decide (200<(xs.length:Int))))/\w'=w:=by
 refine Ze func174 ntmps174 ?_;refine ZrAn [0,2] ?_;refine ZrM ?_;refine Za (y_lenS (el:=5) h) ?_;refine Za yi_gtr ?_;refine ZAnr [2] ?_;exact Qa rfl rfl ⟨rfl,rfl⟩
theorem ints_S [Lo] (h:SlN W B s xs) (h2:SlN W B2 s2 ys) (hB:B<=W.heap.size) (hB2:B2<=W.heap.size):Calls prog 41 #[s.v,s2.v] W fun e w'=>∃ v,e=.returned v/\v=.bool (decide (xs=ys))/\Bw W w':=by
 refine Ze func41 ntmps41 ?_;have u:=Br W;have le_h:=h.len;have ca_h:=h.cap;have le_h2:=h2.len;have ca_h2:=h2.cap;refine ZrAn [0,1,4] ?_;refine Qd<|ZrM ?_
 refine Za (y_lenM (el:=3) h.len) ?_;refine ZM ?_;refine Za (y_lenM (el:=3) h2.len) ?_;refine Zj yi_neq (fun c1=>?_) fun c1=>?_
 ·refine Zn [0,1,4,10] ?_;refine Zcf [0,1,4] ?_;refine Qd<|ZrAn [0,1,4,5] ?_
  refine Qj<|Qr (fun t a v=>Holds 26 [(0,s.v),(1,s2.v),(5,nv ((t:Nat):Int))] a/\SlN v B s xs/\SlN v B2 s2 ys/\Bw W v/\t<=xs.length/\(∀ i,i<t->xs.getD i 0=ys.getD i 0)) xs.length (fun a ha=>⟨ha.keep kz,h,h2,u,(Nat.zero_le _),(fun i hi=>absurd hi (Nat.not_lt_zero _))⟩) ?_
  rintro t a v ht ⟨ha,h,h2,u,tle,he⟩;refine cg_at ha ?_;clear ha a;have zv:=u.size;refine Qd<|ZrM ?_
  refine ZM ?_;refine Za (y_lenM (el:=3) h.len) ?_;refine Zi yi_lss (fun c2=>?_) fun c2=>?_
  ·refine Znt [0,1,5,11,12,13,14] ?_;refine Zki [0,1,5,11,12,13,14] ?_;refine Qd<|Qj<|Qd<|cg_still (by kernel_rfl) (by kernel_rfl) fun W3 eW3=>?_
   have dW3:=below_drew _ _ eW3;have zW3:=size_drew _ _ eW3;clear eW3;refine Zsa y_move ?_;refine Zsa y_move ?_;have h:=h.below (Bm dW3);refine Zsa (y_ixT (i:=t) (iI:=((t:Nat):Int)) h (by omega) (by omega) rfl rfl rfl) ?_;refine Zsa (y_ldT (i:=t) h (by omega) rfl rfl) ?_;refine Zsa y_move ?_;refine Zsa y_move ?_;have h2:=h2.below (Bm dW3);refine Zsa (y_ixT (i:=t) (iI:=((t:Nat):Int)) h2 (by omega) (by omega) rfl rfl rfl) ?_;refine Zsa (y_ldT (i:=t) h2 (by omega) rfl rfl) ?_;by_cases c4:(xs.getD t 0)=(ys.getD t 0)
   ·refine Zsa (yb (nd_f c4) yi_neq) ?_;refine Zsn [0,1,5,11,12,13,14,17,18,19,20,21,22,23,24,25] ?_;refine cg_cf rfl<|cg_skip<|Qi<|Nx [0,1,5,11,12,13,14,17,18,19,20,21,22,23,24,25] ?_
    refine Qe<|ZM ?_
    refine Za Yj ?_;refine ZA ?_;refine Qk ?_;exact fun a ha=>(show t<xs.length/\_ from ⟨(by omega),ha.keep kz,h,h2,Un u dW3,(by omega),(fun i hi=>if q:i<t then he i q else by
      obtain rfl:i=t:=by omega
      exact c4)⟩)
   refine Zsa (yb (nd_t c4) yi_neq) ?_;refine Zsn [0,1,5,11,12,13,14,17,18,19,20,21,22,23,24,25] ?_;refine cg_ct rfl<|ZrAr [0,1,5,11,12,13,14,17,18,19,20,21,22,23,24,25,4] ?_
   refine Qg<|Qc<|Qc<|Qg<|Qc ?_
   have u:=Un u dW3;exact Qt (dF (fun q=>c4 (by rw [q]))).symm u
  refine Xc 0 [0,1,5,11,12,13,14] ?_;refine cg_exit<|Qh<|Qh<|Ql<|nx (E':=[]) fn ?_
  refine ZrAr [4] ?_;exact Qt (dT (list_eq_getD (by omega) fun i hi=>he i (by omega))).symm u
 refine Znt [0,1,4,10] ?_;refine ZrAr [0,1,4] ?_;refine Qc ?_;exact Qt (dF (fun q=>by have:=congrArg List.length q;omega)).symm u
theorem equalN_S [Lo] (h:SlN W B s xs) (h2:SlN W B2 s2 ys) (hB:B<=W.heap.size) (hB2:B2<=W.heap.size):Calls prog 171 #[s.v,s2.v] W fun e w'=>∃ v,e=.returned v/\v=.bool (decide (xs=ys))/\Bw W w':=by
 refine Ze func171 ntmps171 ?_;have u:=Br W;have le_h:=h.len;have ca_h:=h.cap;have le_h2:=h2.len;have ca_h2:=h2.cap;refine ZrAn [0,1,4] ?_;refine Qd<|ZrM ?_
 refine Za (y_lenM (el:=3) h.len) ?_;refine ZM ?_;refine Za (y_lenM (el:=3) h2.len) ?_;refine Zj yi_neq (fun c1=>?_) fun c1=>?_
 ·refine Zn [0,1,4,10] ?_;refine Zcf [0,1,4] ?_;refine Qd<|ZrM ?_
  refine Za (y_lenM (el:=3) h.len) ?_;refine Xn 1 [0,1,4,12,13] ?_;refine Qj<|Qr (fun t a v=>Holds 26 [(0,s.v),(1,s2.v),(12,nv (xs.length:Int)),(13,nv ((t:Nat):Int))] a/\SlN v B s xs/\SlN v B2 s2 ys/\Bw W v/\t<=xs.length/\(∀ i,i<t->xs.getD i 0=ys.getD i 0)) xs.length (fun a ha=>⟨ha.keep kz,h,h2,u,(Nat.zero_le _),(fun i hi=>absurd hi (Nat.not_lt_zero _))⟩) ?_
  rintro t a v ht ⟨ha,h,h2,u,tle,he⟩;refine cg_at ha ?_;clear ha a;have zv:=u.size;refine Zr ?_;refine Zi yi_lss (fun c2=>?_) fun c2=>?_
  ·refine Zn [0,1,12,13,14] ?_;refine Qd<|cg_ct rfl<|Zki [0,1,12,13,14] ?_
   refine Qd<|Qj<|ZrM ?_
   refine ZAn [0,1,12,13,14,15,5] ?_;refine Qd<|cg_still (by kernel_rfl) (by kernel_rfl) fun W3 eW3=>?_
   have dW3:=below_drew _ _ eW3;have zW3:=size_drew _ _ eW3;clear eW3;refine Zsa y_move ?_;refine Zsa y_move ?_;have h:=h.below (Bm dW3);refine Zsa (y_ixT (i:=t) (iI:=((t:Nat):Int)) h (by omega) (by omega) rfl rfl rfl) ?_;refine Zsa (y_ldT (i:=t) h (by omega) rfl rfl) ?_;refine Zsa y_move ?_;refine Zsa y_move ?_;have h2:=h2.below (Bm dW3);refine Zsa (y_ixT (i:=t) (iI:=((t:Nat):Int)) h2 (by omega) (by omega) rfl rfl rfl) ?_;refine Zsa (y_ldT (i:=t) h2 (by omega) rfl rfl) ?_;by_cases c4:(xs.getD t 0)=(ys.getD t 0)
   ·refine Zsa (yb (nd_f c4) yi_neq) ?_;refine Zsn [0,1,12,13,14,15,5,16,17,18,19,20,21,22,23,24] ?_;refine cg_cf rfl<|cg_skip<|Qi<|Nx [0,1,12,13,14,15,5,16,17,18,19,20,21,22,23,24] ?_
    refine Qe<|Za Yj ?_
    refine ZM ?_;refine Qk ?_;exact fun a ha=>(show t<xs.length/\_ from ⟨(by omega),ha.keep kz,h,h2,Un u dW3,(by omega),(fun i hi=>if q:i<t then he i q else by
      obtain rfl:i=t:=by omega
      exact c4)⟩)
   refine Zsa (yb (nd_t c4) yi_neq) ?_;refine Zsn [0,1,12,13,14,15,5,16,17,18,19,20,21,22,23,24] ?_;refine cg_ct rfl<|ZrAr [0,1,12,13,14,15,5,16,17,18,19,20,21,22,23,24,4] ?_
   refine Qg<|Qc<|Qc<|Qg<|Qc ?_
   have u:=Un u dW3;exact Qt (dF (fun q=>c4 (by rw [q]))).symm u
  refine Zn [0,1,12,13,14] ?_;refine Qd<|cg_cf rfl<|cg_exit<|Qh<|Qh<|Ql<|nx (E':=[]) fn ?_
  refine ZrAr [4] ?_;exact Qt (dT (list_eq_getD (by omega) fun i hi=>he i (by omega))).symm u
 refine Znt [0,1,4,10] ?_;refine ZrAr [0,1,4] ?_;refine Qc ?_;exact Qt (dF (fun q=>by have:=congrArg List.length q;omega)).symm u
theorem rises_any [Lo] (h:SlN W B s xs) (hB:B<=W.heap.size):Calls prog 177 #[s.v] W fun e w'=>∃ v,e=.returned v/\v=.bool (decide (Rising xs))/\Bw W w':=by
 refine Ze func177 ntmps177 ?_;have u:=Br W;have le_h:=h.len;have ca_h:=h.cap;refine ZrAn [0,2] ?_;refine Qd<|ZrAn [0,2,3] ?_
 refine Qj<|Qr (fun t a v=>Holds 20 [(0,s.v),(3,nv (((t+1):Nat):Int))] a/\SlN v B s xs/\Bw W v/\(∀ i,i<t->xs.getD i 0<xs.getD (i+1) 0)/\(t=0\/t<xs.length)) xs.length (fun a ha=>⟨ha.keep kz,h,u,(fun i hi=>absurd hi (Nat.not_lt_zero _)),(.inl rfl)⟩) ?_
 rintro t a v ht ⟨ha,h,u,he,tle⟩;refine cg_at ha ?_;clear ha a;have zv:=u.size;refine Qd<|ZrM ?_
 refine ZM ?_;refine Za (y_lenM (el:=3) h.len) ?_;refine Zi yi_lss (fun c1=>?_) fun c1=>?_
 ·refine Znt [0,3,4,5,6,7] ?_;refine Zki [0,3,4,5,6,7] ?_;refine Qd<|Qj<|Qd<|cg_still (by kernel_rfl) (by kernel_rfl) fun W2 eW2=>?_
  have dW2:=below_drew _ _ eW2;have zW2:=size_drew _ _ eW2;clear eW2;refine Zsa y_move ?_;refine Zsa y_move ?_;have h:=h.below (Bm dW2);refine Zsa (y_ixT (i:=(t+1)) (iI:=(((t+1):Nat):Int)) h (by omega) (by omega) rfl rfl rfl) ?_;refine Zsa (y_ldT (i:=(t+1)) h (by omega) rfl rfl) ?_;refine Zsa y_move ?_;refine Zsa y_move ?_;refine Zsa (yv (congrArg nv (show ((t+1:Nat):Int)-1=((t:Nat):Int) by omega)) (yi_sub rfl rfl rfl (by omega) (by omega))) ?_;refine Zsa (y_ixT (i:=t) (iI:=((t:Nat):Int)) h (by omega) (by omega) rfl rfl rfl) ?_;refine Zsa (y_ldT (i:=t) h (by omega) rfl rfl) ?_;by_cases c3:(xs.getD (t+1) 0)<=(xs.getD t 0)
  ·refine Zsa (yb (dT c3) yi_leq) ?_;refine Zsn [0,3,4,5,6,7,10,11,12,13,14,15,16,17,18,19] ?_;refine cg_ct rfl<|ZrAr [0,3,4,5,6,7,10,11,12,13,14,15,16,17,18,19,2] ?_
   refine Qg<|Qc<|Qc<|Qg<|Qc ?_
   exact Qt (dF (not_rising (by omega) c3)).symm (Un u dW2)
  refine Zsa (yb (dF c3) yi_leq) ?_;refine Zsn [0,3,4,5,6,7,10,11,12,13,14,15,16,17,18,19] ?_;refine cg_cf rfl<|cg_skip<|Qi<|Nx [0,3,4,5,6,7,10,11,12,13,14,15,16,17,18,19] ?_
  refine Qe<|ZM ?_
  refine Za Yj ?_;refine ZA ?_;refine Qk ?_;exact fun a ha=>(show t<xs.length/\_ from ⟨(by omega),ha.keep kz,h,Un u dW2,(fun i hi=>if q:i<t then he i q else by
    obtain rfl:i=t:=by omega
    exact Int.not_le.1 c3),(by omega)⟩)
 refine Xc 0 [0,3,4,5,6,7] ?_;refine cg_exit<|Qh<|Qh<|Ql<|nx (E':=[]) fn ?_
 refine ZrAr [2] ?_;exact Qt (dT (rising_of fun i hi=>he i (by omega))).symm u
end
/- PnProg:
  parent.Check, Same, Put and Get.
-/
section
set_option maxHeartbeats 1000000
theorem checkP_any [Lo] {l:PnV} {L:Pn} (hl:IsPn W B l L) (hB:B<=W.heap.size):Calls prog 117 #[.agg (l.cs L)] W fun e W'=>∃ v,e=.returned v/\v=nv (pnCheck L)/\Bw W W':=by
 refine Ze func117 ntmps117 ?_;have u:=Br W;refine Zr<|Zb fun b1 w1 n1=>?_
 have ⟨r1,k1,z1,lt1⟩:=n1.f;refine ZAn [1,2] ?_;refine Qd<|Qj<|Zr<|Zy 0 ?_
 refine Zv l.enc.v r1 ?_;have hl:=hl.below (Bm n1.below);refine Za (y_lenS (el:=5) hl.enc) ?_;refine Zi yi_eql (fun c2=>?_) fun c2=>?_
 ·refine ZAnt [1,2,3] ?_;refine ZrAr [2] ?_;refine Qg<|Qc ?_
  exact Qn (show pnCheck L=5 from (if_pos c2)).symm (Un u n1.below)
 refine ZAn [1,2,3] ?_;refine cg_cf rfl<|Zr<|Zy 0 ?_
 refine Zv l.enc.v r1 ?_;refine Zi (Qp (largeP_any hl.enc)) (fun c3=>?_) fun c3=>?_
 ·refine Xt 12 [1,2,8] ?_;refine ZrAr [2] ?_;refine Qg<|Qc ?_
  exact Qn (show pnCheck L=4 from ((if_neg c2).trans (if_pos (by omega)))).symm (Un u n1.below)
 refine ZM ?_;refine Zx 12 1 ?_;refine Zvt 12 l.hash.v r1 ?_;refine Zp 12 (Qp (largeP_any hl.hash)) (fun c4=>?_) fun c4=>?_
 ·refine Xt 8 [1,2,8] ?_;refine ZrAr [2] ?_;refine Qg<|Qc ?_
  exact Qn (show pnCheck L=4 from ((if_neg c2).trans (if_pos (by omega)))).symm (Un u n1.below)
 refine Xa 2 ?_;refine Zx 17 2 ?_;refine Zvt 17 l.unm.v r1 ?_;refine Zt 17 (y_lenM (el:=3) hl.unm.len) ?_;refine Zp 17 yi_gtr (fun c5=>?_) fun c5=>?_
 ·refine Xt 2 [1,2,8] ?_;refine ZrAr [2] ?_;refine Qg<|Qc ?_
  exact Qn (show pnCheck L=4 from ((if_neg c2).trans (if_pos (by omega)))).symm (Un u n1.below)
 refine Xn 2 [1,2,8] ?_;refine cg_cf rfl<|Zr<|Zy 2 ?_
 refine Zv l.unm.v r1 ?_;refine Zi (Qp (containsOut_any hl.unm)) (fun c6=>?_) fun c6=>?_
 ·refine ZAnt [1,2,23] ?_;refine ZrAr [2] ?_;refine Qg<|Qc ?_
  exact Qn (show pnCheck L=3 from (((if_neg c2).trans (if_neg (by omega))).trans (if_pos c6))).symm (Un u n1.below)
 refine ZAn [1,2,23] ?_;refine cg_cf rfl<|Zr<|Zy 2 ?_
 refine Zv l.unm.v r1 ?_;by_cases c7:Rising L.unm
 ·refine Zc (rises_any hl.unm (by omega)) rfl rfl ?_;rintro u8 w8 ⟨e8,hw8⟩;have zw8:=hw8.size;obtain rfl:u8=.bool true:=e8.trans (congrArg Value.bool (decide_eq_true c7));refine Xn 2 [2,27] ?_;refine cg_cf rfl<|cg_skip<|Qi<|Nx [2] ?_
  refine ZrAr [2] ?_;exact Qn (show pnCheck L=0 from ((((if_neg c2).trans (if_neg (by omega))).trans (if_neg c6)).trans (if_neg (not_not_intro c7)))).symm (Un (Un u n1.below) hw8)
 refine Zc (rises_any hl.unm (by omega)) rfl rfl ?_;rintro u9 w9 ⟨e9,hw9⟩;have zw9:=hw9.size;obtain rfl:u9=.bool false:=e9.trans (congrArg Value.bool (decide_eq_false c7));refine Xt 2 [2,27] ?_;refine ZrAr [2] ?_;refine Qg<|Qc ?_
 exact Qn (show pnCheck L=8 from ((((if_neg c2).trans (if_neg (by omega))).trans (if_neg c6)).trans (if_pos c7))).symm (Un (Un u n1.below) hw9)
theorem sameP_any [Lo] {l m:PnV} {L M:Pn} (hl:IsPn W B l L) (hm:IsPn W B m M) (hB:B<=W.heap.size):Calls prog 115 #[.agg (l.cs L),.agg (m.cs M)] W fun e W'=>∃ v,e=.returned v/\v=.bool (decide (PnSame L M))/\Bw W W':=by
 refine Ze func115 ntmps115 ?_;have u:=Br W;refine Zr<|Zb fun b1 w1 n1=>?_
 have ⟨r1,k1,z1,lt1⟩:=n1.f;refine Zb fun b2 w2 n2=>?_;have ⟨r2,k2,z2,lt2⟩:=n2.f;refine ZAn [2,3,4] ?_;refine Zr<|Zy 0 ?_
 have r1:=n2.keep r1;refine Zv l.enc.v r1 ?_;refine Zy 0 ?_;refine Zv m.enc.v r2 ?_;have hl:=(hl.below (Bm n1.below)).below (Bm n2.below);have hm:=(hm.below (Bm n1.below)).below (Bm n2.below);refine Zi (Qp (bytesEq_S hl.enc hm.enc)) (fun c3=>?_) fun c3=>?_
 ·refine ZM ?_;refine Zx 10 1 ?_;refine Zvt 10 l.hash.v r1 ?_;refine Zx 10 1 ?_;refine Zvt 10 m.hash.v r2 ?_;refine Zp 10 (Qp (bytesEq_S hl.hash hm.hash)) (fun c4=>?_) fun c4=>?_
  ·refine Xa 2 ?_;refine Zx 17 2 ?_;refine Zvt 17 l.unm.v r1 ?_;refine Zx 17 2 ?_;refine Zvt 17 m.unm.v r2 ?_;by_cases c5:L.unm=M.unm
   ·refine Zct 17 (equalN_S hl.unm hm.unm (by omega) (by omega)) rfl rfl ?_;rintro u6 w6 ⟨e6,hw6⟩;have zw6:=hw6.size;obtain rfl:u6=.bool true:=e6.trans (congrArg Value.bool (decide_eq_true c5));refine Xu 2 [4] ?_;have u:=Un (Un (Un u n1.below) n2.below) hw6;exact Qt (show true=decide (PnSame L M) from (dT (by simp [PnSame, *])).symm) u
   refine Zct 17 (equalN_S hl.unm hm.unm (by omega) (by omega)) rfl rfl ?_;rintro u7 w7 ⟨e7,hw7⟩;have zw7:=hw7.size;obtain rfl:u7=.bool false:=e7.trans (congrArg Value.bool (decide_eq_false c5));refine Xu 2 [4] ?_;have u:=Un (Un (Un u n1.below) n2.below) hw7;exact Qt (show false=decide (PnSame L M) from (dF (by simp [PnSame, *])).symm) u
  refine Xu 9 [4] ?_;have u:=Un (Un u n1.below) n2.below;exact Qt (show false=decide (PnSame L M) from (dF (by simp [PnSame, *])).symm) u
 refine Xu 15 [4] ?_;have u:=Un (Un u n1.below) n2.below;exact Qt (show false=decide (PnSame L M) from (dF (by simp [PnSame, *])).symm) u
theorem putP_any [Lo] {l:PnV} {L:Pn} (h:Sl W B s xs) (hl:IsPn W B l L) (hB:B<=W.heap.size) (hx:xs.length<=1000000):Calls prog 314 #[s.v,.agg (l.cs L)] W fun e W'=>∃ v,e=.returned v/\PutS W (xs++pnPut L) v W':=by
 refine Ze func314 ntmps314 ?_;have u:=Br W;refine Zr<|Zb fun b1 w1 n1=>?_
 have ⟨r1,k1,z1,lt1⟩:=n1.f;refine ZAn [0,3,4] ?_;refine Qd<|Zr<|Za (y_loadA r1) ?_
 have hl:=hl.below (Bm n1.below);refine Zd (checkP_any (hl.mW w1) Lr) ?_;rintro _ w2 ⟨rfl,hw2⟩;have zw2:=hw2.size;by_cases c3:(pnCheck L)=0
 ·have ok:=pnCheck_ok c3;refine Zan (yb (nd_f c3) yi_neq) [0,3,4,8] ?_;refine Zcf [0,3,4] ?_;refine Zr<|Zy 0 ?_
  have r1:=Rb hw2 r1;refine Zv l.enc.v r1 ?_;have hl:=hl.below (Bm hw2);refine Zc (putBytes_S (Sl.nil _ _) hl.enc (by omega) (by omega) (by simp only [List.length_nil];omega)) rfl rfl ?_;rintro _ w4 ⟨r4,rfl,m4,hw4⟩;have zw4:=hw4.size;have lb4:=bytesOct_le L.enc;refine ZAn [0,3,4,5] ?_;refine ZrM ?_;refine Zy 1 ?_;have r1:=Rb hw4 r1;refine Zv l.hash.v r1 ?_;have hl:=hl.below (Bm hw4);refine Zc (putBytes_S m4 hl.hash (by omega) (by omega) (by simp only [List.length_append,List.length_nil];omega)) rfl rfl ?_;rintro _ w5 ⟨r5,rfl,m5,hw5⟩;have zw5:=hw5.size;have lb5:=bytesOct_le L.hash;refine ZAn [0,3,4,5] ?_;refine ZrM ?_;refine Zy 2 ?_;have r1:=Rb hw5 r1;refine Zv l.unm.v r1 ?_;have hl:=hl.below (Bm hw5);refine Zc (putNums_S m5 hl.unm (by omega) (by omega) (by simp only [List.length_append,List.length_nil];omega)) rfl rfl ?_;rintro _ w6 ⟨r6,rfl,m6,hw6⟩;have zw6:=hw6.size;have lb6:=bytesOct_le (numsOct L.unm);have ln6:=numsOct_length L.unm;refine ZAn [0,4,5] ?_;refine XR 2 ?_;refine lg_bslice (el:=26) (z:=.slice none 0 0) (cs:=#[s.v,r6.v]) (by kernel_rfl) (by kernel_rfl) (by decide) (by decide) rfl rfl (by kernel_rfl) rfl rfl (by decide) fun b7 w7 n7=>?_;have ⟨r7,k7,z7,lt7⟩:=n7.f;have h:=(((((h.below (Bm n1.below)).below (Bm hw2)).below (Bm hw4)).below (Bm hw5)).below (Bm hw6)).below (Bm n7.below);have m6:=m6.below (Bm n7.below);refine Zc (concat2_S r7 h m6 (by omega) (by omega) (by simp only [List.length_append,List.length_nil];omega)) rfl rfl ?_;rintro _ w8 ⟨r8,rfl,m8,hw8⟩;have zw8:=hw8.size;refine ZAnr [4] ?_;have u:=Un (Un (Un (Un (Un (Un (Un u n1.below) hw2) hw4) hw5) hw6) n7.below) hw8;exact Qa rfl rfl ⟨_,rfl,r8,rfl,m8.cast (by rw [pnPut,if_pos c3];simp [pnOct]),u⟩
 refine Zant (yb (nd_t c3) yi_neq) [0,3,4,8] ?_;refine XRu 2 [0,3,4] ?_;refine Qc ?_;have h:=(h.below (Bm n1.below)).below (Bm hw2);have u:=Un (Un u n1.below) hw2;exact Qa rfl rfl ⟨_,rfl,s,rfl,(h.more (by omega)).cast (by rw [pnPut,if_neg c3,List.append_nil]),u⟩
set_option maxHeartbeats 2000000 in
theorem getP_anyO [Lo] (h:Sl W B s xs) (hB:B<=W.heap.size):Calls prog 315 #[s.v] W fun e W'=>∃ v,e=.returned v/\∃ (l:PnV) (r:SlV),v=.tuple #[.agg (l.cs (pnGet xs).2.1),r.v,nv (pnGet xs).1]/\IsPn W' W'.heap.size l (pnGet xs).2.1/\Sl W' B r (pnGet xs).2.2/\l.fresh W.heap.size/\l.old B/\Bw W W':=by
 refine Ze func315 ntmps315 ?_;have u:=Br W;refine Zr<|lg_allocw (cs:=PnV.zero.cs Pn.zero) Wn rfl (by kernel_rfl) rfl (by decide) fun b1 w1 n1=>?_
 have ⟨r1,k1,z1,lt1⟩:=n1.f;refine Xn 2 [0,2,3,4] ?_;refine ZrM ?_;have h:=h.below (Bm n1.below);refine Zc (getBytes_S h (by omega)) rfl rfl ?_;rintro _ w2 ⟨p2,r2,rfl,m2,l2,hw2⟩;have zw2:=hw2.size;refine Xn 7 [2,3,4,5,6,7] ?_;refine Qd<|ZrM ?_
 refine Zj yi_neq (fun c3=>?_) fun c3=>?_
 ·refine Zn [2,3,4,5,6,7,19] ?_;refine Zcf [2,3,4,5,6,7] ?_;refine ZrM ?_;refine Zc (getBytes_S l2 (by omega)) rfl rfl ?_;rintro _ w4 ⟨p4,r4,rfl,m4,l4,hw4⟩;have zw4:=hw4.size;refine Xn 7 [2,3,4,5,8,6,7] ?_;refine Qd<|ZrM ?_
  refine Zj yi_neq (fun c5=>?_) fun c5=>?_
  ·refine Zn [2,3,4,5,8,6,7,29] ?_;refine Zcf [2,3,4,5,8,6,7] ?_;refine ZrM ?_;refine Zc (getNums_SF l4 (by omega)) rfl rfl ?_;rintro _ w6 ⟨p6,r6,rfl,m6,l6,f6,hw6⟩;have zw6:=hw6.size;refine Xn 7 [2,3,4,5,8,9,6,7] ?_;refine Qd<|ZrM ?_
   refine Zj yi_neq (fun c7=>?_) fun c7=>?_
   ·refine Zn [2,3,4,5,8,9,6,7,39] ?_;refine Zcf [2,3,4,5,8,9,6] ?_;refine XR 3 ?_;refine Za (y_build (cs:=(⟨p2,p4,p6⟩:PnV).cs (⟨(bytesP xs),(bytesP (bytesR xs)),(numsL (bytesR (bytesR xs)))⟩:Pn))) ?_;refine lg_allocw (cs:=PnV.zero.cs Pn.zero) Wn rfl (by kernel_rfl) rfl (by decide) fun b8 w8 n8=>?_;have ⟨r8,k8,z8,lt8⟩:=n8.f;have o9:=r8;refine Zw r8 fun w9 s9=>?_;have ⟨r8,z9⟩:=s9.f;refine Zn [2,3,4,6,10] ?_;refine Qd<|Zr<|Za (y_loadA r8) ?_
    have m2:=(((m2.below (Bm hw4)).below (Bm hw6)).below (Bm n8.below)).set o9 rfl s9;have m4:=((m4.below (Bm hw6)).below (Bm n8.below)).set o9 rfl s9;have m6:=(m6.below (Bm n8.below)).set o9 rfl s9;refine Zd (checkP_any (show IsPn w9 w9.heap.size (⟨p2,p4,p6⟩:PnV) (⟨(bytesP xs),(bytesP (bytesR xs)),(numsL (bytesR (bytesR xs)))⟩:Pn) from ⟨(m2.mW w9),(m4.mW w9),(m6.mW w9)⟩) Lr) ?_;rintro _ w10 ⟨rfl,hw10⟩;have zw10:=hw10.size;refine ZAn [2,3,4,6,10,11] ?_;refine ZrM ?_;refine Zj yi_neq (fun c11=>?_) fun c11=>?_
    ·refine Zn [2,3,4,6,10,11,49] ?_;refine Zcf [2,3,4,6,10] ?_;refine Zr ?_;refine Za (y_loadA (Rb hw10 r8)) ?_;refine ZM ?_;have r1:=Rb hw10 (s9.kp (n8.keep (Rb hw6 (Rb hw4 (Rb hw2 r1)))));have o12:=r1;refine Zw r1 fun w12 s12=>?_;have ⟨r1,z12⟩:=s12.f;refine Xu 2 [2,3,4] ?_;have hst:pnGet xs=(0,(⟨(bytesP xs),(bytesP (bytesR xs)),(numsL (bytesR (bytesR xs)))⟩:Pn),(numsR (bytesR (bytesR xs)))):=((if_neg (not_not_intro c3)).trans ((if_neg (not_not_intro c5)).trans ((if_neg (not_not_intro c7)).trans (if_neg (not_not_intro c11)))));refine Qz r1 ?_;rw [hst];have m2:=(m2.below (Bm hw10)).set o12 rfl s12;have m4:=(m4.below (Bm hw10)).set o12 rfl s12;exact ⟨_,rfl,(⟨p2,p4,p6⟩:PnV),r6,rfl,(show IsPn w12 w12.heap.size (⟨p2,p4,p6⟩:PnV) (⟨(bytesP xs),(bytesP (bytesR xs)),(numsL (bytesR (bytesR xs)))⟩:Pn) from ⟨(m2.mW w12),(m4.mW w12),(((m6.below (Bm hw10)).set o12 rfl s12).mW w12)⟩),(((l6.below (Bm n8.below)).set o9 rfl s9).below (Bm hw10)).set o12 rfl s12,f6.le (by omega),⟨m2.old,m4.old⟩,(Un ((Un (Un (Un (Un (Un u n1.below) hw2) hw4) hw6) n8.below).trans s9.bl) hw10).trans s12.bl⟩
    refine Znt [2,3,4,6,10,11,49] ?_;refine Zr<|Za (y_build (cs:=PnV.zero.cs Pn.zero)) ?_
    refine ZM ?_;have r1:=Rb hw10 (s9.kp (n8.keep (Rb hw6 (Rb hw4 (Rb hw2 r1)))));have o13:=r1;refine Zw r1 fun w13 s13=>?_;have ⟨r1,z13⟩:=s13.f;refine Xu 2 [2,6,10,3,4] ?_;refine Qc ?_;have hst:pnGet xs=((pnCheck (⟨(bytesP xs),(bytesP (bytesR xs)),(numsL (bytesR (bytesR xs)))⟩:Pn)),Pn.zero,[]):=((if_neg (not_not_intro c3)).trans ((if_neg (not_not_intro c5)).trans ((if_neg (not_not_intro c7)).trans (if_pos c11))));refine Qz r1 ?_;rw [hst];exact ⟨_,rfl,PnV.zero,nilS,rfl,((IsPn.zero _ 0).mW w13),(Sl.nil _ _),Fr.nil _,⟨Old.nil _,Old.nil _⟩,(Un ((Un (Un (Un (Un (Un u n1.below) hw2) hw4) hw6) n8.below).trans s9.bl) hw10).trans s13.bl⟩
   refine Znt [2,3,4,5,8,9,6,7,39] ?_;refine Zr<|Za (y_build (cs:=PnV.zero.cs Pn.zero)) ?_
   refine ZM ?_;have r1:=Rb hw6 (Rb hw4 (Rb hw2 r1));have o14:=r1;refine Zw r1 fun w14 s14=>?_;have ⟨r1,z14⟩:=s14.f;refine Xu 2 [2,5,8,9,6,3,4] ?_;refine Qc ?_;have hst:pnGet xs=((numsE (bytesR (bytesR xs))),Pn.zero,[]):=((if_neg (not_not_intro c3)).trans ((if_neg (not_not_intro c5)).trans (if_pos c7)));refine Qz r1 ?_;rw [hst];exact ⟨_,rfl,PnV.zero,nilS,rfl,((IsPn.zero _ 0).mW w14),(Sl.nil _ _),Fr.nil _,⟨Old.nil _,Old.nil _⟩,(Un (Un (Un (Un u n1.below) hw2) hw4) hw6).trans s14.bl⟩
  refine Znt [2,3,4,5,8,6,7,29] ?_;refine Zr<|Za (y_build (cs:=PnV.zero.cs Pn.zero)) ?_
  refine ZM ?_;have r1:=Rb hw4 (Rb hw2 r1);have o15:=r1;refine Zw r1 fun w15 s15=>?_;have ⟨r1,z15⟩:=s15.f;refine Xu 2 [2,5,8,6,7,3,4] ?_;refine Qc ?_;have hst:pnGet xs=((bytesE (bytesR xs)),Pn.zero,[]):=((if_neg (not_not_intro c3)).trans (if_pos c5));refine Qz r1 ?_;rw [hst];exact ⟨_,rfl,PnV.zero,nilS,rfl,((IsPn.zero _ 0).mW w15),(Sl.nil _ _),Fr.nil _,⟨Old.nil _,Old.nil _⟩,(Un (Un (Un u n1.below) hw2) hw4).trans s15.bl⟩
 refine Znt [2,3,4,5,6,7,19] ?_;refine Zr<|Za (y_build (cs:=PnV.zero.cs Pn.zero)) ?_
 refine ZM ?_;have r1:=Rb hw2 r1;have o16:=r1;refine Zw r1 fun w16 s16=>?_;have ⟨r1,z16⟩:=s16.f;refine Xu 2 [2,5,6,7,3,4] ?_;refine Qc ?_;have hst:pnGet xs=((bytesE xs),Pn.zero,[]):=(if_pos c3);refine Qz r1 ?_;rw [hst];exact ⟨_,rfl,PnV.zero,nilS,rfl,((IsPn.zero _ 0).mW w16),(Sl.nil _ _),Fr.nil _,⟨Old.nil _,Old.nil _⟩,(Un (Un u n1.below) hw2).trans s16.bl⟩
end
/- NdProg:
  node.Check, node.Same, and the methods that put and get.
-/
section
set_option maxHeartbeats 1000000
theorem checkN_any [Lo] {l:NdV} (hl:IsNd W B l L) (hB:B<=W.heap.size):Calls prog 68 #[.agg (l.cs L)] W fun e W'=>∃ v,e=.returned v/\v=nv (ndCheck L)/\Bw W W':=by
 refine Ze func68 ntmps68 ?_;have u:=Br W;refine Zr<|Zb fun b1 w1 n1=>?_
 have ⟨r1,k1,z1,lt1⟩:=n1.f;refine ZAn [1,2] ?_;refine Qd<|Qj<|Zr<|Zy 0 ?_
 refine Zv (nv L.kind) r1 ?_;refine Zi yi_lss (fun c2=>?_) fun c2=>?_
 ·refine Xt 6 [1,2,3] ?_;refine ZrAr [2] ?_;refine Qg<|Qc ?_
  have u:=Un u n1.below;exact Qn (show 7=ndCheck L by simp [ndCheck,c2]) u
 refine ZM ?_;refine Zx 7 0 ?_;refine Zvt 7 (nv L.kind) r1 ?_;refine Zp 7 yi_gtr (fun c3=>?_) fun c3=>?_
 ·refine Xt 2 [1,2,3] ?_;refine ZrAr [2] ?_;refine Qg<|Qc ?_
  have u:=Un u n1.below;exact Qn (show 7=ndCheck L by simp [ndCheck,c2,c3]) u
 refine Xn 2 [1,2,3] ?_;refine cg_cf rfl<|Zr<|Zy 0 ?_
 refine Zv (nv L.kind) r1 ?_;refine Zj yi_neq (fun c4=>?_) fun c4=>?_
 ·refine Xn 8 [1,2,12] ?_;refine cg_cf rfl<|Zr<|Zy 0 ?_
  refine Zv (nv L.kind) r1 ?_;refine Za (yb (nd_t (show ¬(L.kind=2) from (show ¬(L.kind=2) by omega))) (yi_neq rfl rfl rfl)) ?_;refine ZM ?_;refine Zx 27 5 ?_;refine Zt 27 (Yp 3 r1) ?_;refine Zt 27 (y_build (cs:=PnV.zero.cs Pn.zero)) ?_;have hl:=hl.below (Bm n1.below);by_cases c5:PnSame L.inner Pn.zero
  ·refine Zdt 27 (sameP_any (hl.inner.mW w1) ((IsPn.zero _ 0).mW w1) Lr) ?_;rintro u6 w6 ⟨e6,hw6⟩;have zw6:=hw6.size;obtain rfl:u6=.bool true:=e6.trans (congrArg Value.bool (decide_eq_true c5));refine Xn 3 [1,2,23] ?_;refine cg_cf rfl<|Zr<|Zy 0 ?_
   have r1:=Rb hw6 r1;refine Zv (nv L.kind) r1 ?_;refine Za (yb (dT c4) yi_eql) ?_;refine ZAnt [1,2,34] ?_;refine Zr<|Zy 1 ?_
   refine Za (Yp 4 r1) ?_;have hl:=hl.below (Bm hw6);refine Zd (check_any (hl.leaf.mW w6) Lr) ?_;rintro _ w7 ⟨rfl,hw7⟩;have zw7:=hw7.size;refine ZAnr [2] ?_;refine Qg<|Qc ?_
   have u:=Un (Un (Un u n1.below) hw6) hw7;exact Qn (show (lfCheck L.leaf)=ndCheck L by simp [ndCheck,c4,c5]) u
  refine Zdt 27 (sameP_any (hl.inner.mW w1) ((IsPn.zero _ 0).mW w1) Lr) ?_;rintro u8 w8 ⟨e8,hw8⟩;have zw8:=hw8.size;obtain rfl:u8=.bool false:=e8.trans (congrArg Value.bool (decide_eq_false c5));refine Xt 3 [1,2,23] ?_;refine ZrAr [2] ?_;refine Qg<|Qc ?_
  have u:=Un (Un u n1.below) hw8;exact Qn (show 2=ndCheck L by simp [ndCheck,c4,c5]) u
 refine ZM ?_;refine Zx 16 1 ?_;refine Zt 16 (Yp 4 r1) ?_;refine Zt 16 (y_build (cs:=LfV.zero.cs Lf.zero)) ?_;have hl:=hl.below (Bm n1.below);by_cases c9:LfSame L.leaf Lf.zero
 ·refine Zdt 16 (same_any (hl.leaf.mW w1) ((IsLf.zero _ 0).mW w1) Lr) ?_;rintro u10 w10 ⟨e10,hw10⟩;have zw10:=hw10.size;obtain rfl:u10=.bool true:=e10.trans (congrArg Value.bool (decide_eq_true c9));refine Xn 3 [1,2,12] ?_;refine cg_cf rfl<|Zr<|Zy 0 ?_
  have r1:=Rb hw10 r1;refine Zv (nv L.kind) r1 ?_;refine Zj yi_neq (fun c11=>?_) fun c11=>?_
  ·refine Xn 8 [1,2,23] ?_;refine cg_cf rfl<|Zr<|Zy 0 ?_
   refine Zv (nv L.kind) r1 ?_;refine Za (yb (dF c4) yi_eql) ?_;refine ZAn [1,2,34] ?_;refine cg_cf rfl<|Zr<|Zy 0 ?_
   refine Zv (nv L.kind) r1 ?_;refine Za (yb (dT c11) yi_eql) ?_;refine ZAnt [1,2,41] ?_;refine Zr<|Zy 5 ?_
   refine Za (Yp 3 r1) ?_;have hl:=hl.below (Bm hw10);refine Zd (checkP_any (hl.inner.mW w10) Lr) ?_;rintro _ w12 ⟨rfl,hw12⟩;have zw12:=hw12.size;refine ZAnr [2] ?_;refine Qg<|Qc ?_
   have u:=Un (Un (Un u n1.below) hw10) hw12;exact Qn (show (pnCheck L.inner)=ndCheck L by simp [ndCheck,c9,c11]) u
  refine ZM ?_;refine Zx 27 5 ?_;refine Zt 27 (Yp 3 r1) ?_;refine Zt 27 (y_build (cs:=PnV.zero.cs Pn.zero)) ?_;have hl:=hl.below (Bm hw10);by_cases c13:PnSame L.inner Pn.zero
  ·refine Zdt 27 (sameP_any (hl.inner.mW w10) ((IsPn.zero _ 0).mW w10) Lr) ?_;rintro u14 w14 ⟨e14,hw14⟩;have zw14:=hw14.size;obtain rfl:u14=.bool true:=e14.trans (congrArg Value.bool (decide_eq_true c13));refine Xn 3 [1,2,23] ?_;refine cg_cf rfl<|Zr<|Zy 0 ?_
   have r1:=Rb hw14 r1;refine Zv (nv L.kind) r1 ?_;refine Za (yb (dF c4) yi_eql) ?_;refine ZAn [1,2,34] ?_;refine cg_cf rfl<|Zr<|Zy 0 ?_
   refine Zv (nv L.kind) r1 ?_;refine Za (yb (dF c11) yi_eql) ?_;refine ZAn [1,2,41] ?_;refine cg_cf rfl<|cg_skip<|Qi<|Nx [2] ?_
   refine ZrAr [2] ?_;have u:=Un (Un (Un u n1.below) hw10) hw14;exact Qn (show 0=ndCheck L by simp [ndCheck,c2,c3,c4,c9,c11,c13]) u
  refine Zdt 27 (sameP_any (hl.inner.mW w10) ((IsPn.zero _ 0).mW w10) Lr) ?_;rintro u15 w15 ⟨e15,hw15⟩;have zw15:=hw15.size;obtain rfl:u15=.bool false:=e15.trans (congrArg Value.bool (decide_eq_false c13));refine Xt 3 [1,2,23] ?_;refine ZrAr [2] ?_;refine Qg<|Qc ?_
  have u:=Un (Un (Un u n1.below) hw10) hw15;exact Qn (show 2=ndCheck L by simp [ndCheck,c2,c3,c4,c9,c11,c13]) u
 refine Zdt 16 (same_any (hl.leaf.mW w1) ((IsLf.zero _ 0).mW w1) Lr) ?_;rintro u16 w16 ⟨e16,hw16⟩;have zw16:=hw16.size;obtain rfl:u16=.bool false:=e16.trans (congrArg Value.bool (decide_eq_false c9));refine Xt 3 [1,2,12] ?_;refine ZrAr [2] ?_;refine Qg<|Qc ?_
 have u:=Un (Un u n1.below) hw16;exact Qn (show 2=ndCheck L by simp [ndCheck,c2,c3,c4,c9]) u
theorem countsN_any [Lo] {l:NdV} (hl:IsNd W B l L) (hB:B<=W.heap.size):Calls prog 247 #[.agg (l.cs L)] W fun e W'=>∃ v,e=.returned v/\v=nv (ndAs L).kind/\Bw W W':=by
 refine Ze func247 ntmps247 ?_;have u:=Br W;refine Zr<|Zb fun b1 w1 n1=>?_
 have ⟨r1,k1,z1,lt1⟩:=n1.f;refine ZAn [1,2] ?_;refine Qd<|Zr<|Za (y_loadA r1) ?_
 have hl:=hl.below (Bm n1.below);refine Zd (checkN_any (hl.mW w1) Lr) ?_;rintro _ w2 ⟨rfl,hw2⟩;have zw2:=hw2.size;refine Zj yi_neq (fun c3=>?_) fun c3=>?_
 ·refine Zn [1,2,5] ?_;refine Zcf [1,2] ?_;refine Zr<|Zy 0 ?_
  refine Za (Qv (v:=nv L.kind) (Rb hw2 r1)) ?_;refine ZAnr [2] ?_;have u:=Un (Un u n1.below) hw2;exact Qn (show L.kind=(ndAs L).kind by simp [ndAs,c3]) u
 refine Znt [1,2,5] ?_;refine ZrAr [1,2] ?_;refine Qc ?_;have u:=Un (Un u n1.below) hw2;exact Qn (show 0=(ndAs L).kind by simp [ndAs,c3]) u
theorem of1_any (k:Int) (h1:k=1) (W:World):Calls prog 246 #[nv k] W fun e W'=>∃ v,e=.returned v/\v=.tuple #[.agg (CsV.zero.cs (⟨some 282,some 283⟩:Cs)),.bool true]/\Bw W W':=by
 refine Ze func246 ntmps246 ?_;have u:=Br W;refine Zr<|lg_allocw (cs:=CsV.zero.cs Cs.zero) Wn rfl (by kernel_rfl) rfl (by decide) fun b1 w1 n1=>?_
 have ⟨r1,k1,z1,lt1⟩:=n1.f;refine ZAn [0,2,3] ?_;refine Qd<|ZrM ?_
 refine Zn [2,3,4] ?_;refine Qj<|Zr<|Za (yb (dT h1) yi_eql) ?_
 refine ZAnt [2,3,4,5] ?_;refine Zr<|Za (y_build (cs:=(⟨⟩:CsV).cs (⟨some 282,some 283⟩:Cs))) ?_
 have o2:=r1;refine Zw r1 fun w2 s2=>?_;have ⟨r1,z2⟩:=s2.f;refine ZAnr [2,3] ?_;refine Qg<|Qc ?_
 exact eg_ret_agg2 rfl rfl r1 (by kernel_rfl) (by kernel_rfl) rfl ⟨_,rfl,rfl,(Un u n1.below).trans s2.bl⟩
theorem of2_any (k:Int) (h2:k=2) (W:World):Calls prog 246 #[nv k] W fun e W'=>∃ v,e=.returned v/\v=.tuple #[.agg (CsV.zero.cs (⟨some 284,some 285⟩:Cs)),.bool true]/\Bw W W':=by
 refine Ze func246 ntmps246 ?_;have u:=Br W;refine Zr<|lg_allocw (cs:=CsV.zero.cs Cs.zero) Wn rfl (by kernel_rfl) rfl (by decide) fun b1 w1 n1=>?_
 have ⟨r1,k1,z1,lt1⟩:=n1.f;refine ZAn [0,2,3] ?_;refine Qd<|ZrM ?_
 refine Zn [2,3,4] ?_;refine Qj<|Zr<|Za (yb (dF (show ¬(k=1) from (show ¬(k=1) by omega))) (yi_eql rfl rfl rfl)) ?_
 refine ZAn [2,3,4,5] ?_;refine cg_cf rfl<|Zr<|Za (yb (dT h2) yi_eql) ?_
 refine ZAnt [2,3,8] ?_;refine Zr<|Za (y_build (cs:=(⟨⟩:CsV).cs (⟨some 284,some 285⟩:Cs))) ?_
 have o2:=r1;refine Zw r1 fun w2 s2=>?_;have ⟨r1,z2⟩:=s2.f;refine ZAnr [2,3] ?_;refine Qg<|Qc ?_
 exact eg_ret_agg2 rfl rfl r1 (by kernel_rfl) (by kernel_rfl) rfl ⟨_,rfl,rfl,(Un u n1.below).trans s2.bl⟩
theorem of0_any (k:Int) (h1:¬k=1) (h2:¬k=2) (W:World):Calls prog 246 #[nv k] W fun e W'=>∃ v,e=.returned v/\v=.tuple #[.agg (CsV.zero.cs Cs.zero),.bool false]/\Bw W W':=by
 refine Ze func246 ntmps246 ?_;have u:=Br W;refine Zr<|lg_allocw (cs:=CsV.zero.cs Cs.zero) Wn rfl (by kernel_rfl) rfl (by decide) fun b1 w1 n1=>?_
 have ⟨r1,k1,z1,lt1⟩:=n1.f;refine ZAn [0,2,3] ?_;refine Qd<|ZrM ?_
 refine Zn [2,3,4] ?_;refine Qj<|Zr<|Za (yb (dF h1) yi_eql) ?_
 refine ZAn [2,3,4,5] ?_;refine cg_cf rfl<|Zr<|Za (yb (dF h2) yi_eql) ?_
 refine ZAn [2,3,8] ?_;refine cg_cf rfl<|cg_skip<|Qi<|Nx [2,3] ?_
 refine Zr<|Za (y_build (cs:=CsV.zero.cs Cs.zero)) ?_
 have o2:=r1;refine Zw r1 fun w2 s2=>?_;have ⟨r1,z2⟩:=s2.f;refine ZAnr [2,3] ?_;exact eg_ret_agg2 rfl rfl r1 (by kernel_rfl) (by kernel_rfl) rfl ⟨_,rfl,rfl,(Un u n1.below).trans s2.bl⟩
theorem putLeafN_any [Lo] {l:NdV} (hl:IsNd W B l L) (h:Sl W B s xs) (hB:B<=W.heap.size) (hx:xs.length<=1000000):Calls prog 282 #[.agg (l.cs L),s.v] W fun e W'=>∃ v,e=.returned v/\PutS W (xs++lfPut L.leaf) v W':=by
 refine Ze func282 ntmps282 ?_;have u:=Br W;refine Zr<|Zb fun b1 w1 n1=>?_
 have ⟨r1,k1,z1,lt1⟩:=n1.f;refine ZAn [1,2,4] ?_;refine ZrM ?_;refine Zy 1 ?_;refine Za (Yp 4 r1) ?_;have h:=h.below (Bm n1.below);have hl:=hl.below (Bm n1.below);refine Zc (putL_any (h.mW w1) (hl.leaf.mW w1) Lr (by omega)) rfl rfl ?_;rintro _ w2 ⟨r2,rfl,m2,hw2⟩;have zw2:=hw2.size;have lp2:=lfPut_le L.leaf;refine ZAnr [4] ?_;exact Qa rfl rfl ⟨_,rfl,r2,rfl,m2,Un (Un u n1.below) hw2⟩
theorem putInnerN_any [Lo] {l:NdV} (hl:IsNd W B l L) (h:Sl W B s xs) (hB:B<=W.heap.size) (hx:xs.length<=1000000):Calls prog 284 #[.agg (l.cs L),s.v] W fun e W'=>∃ v,e=.returned v/\PutS W (xs++pnPut L.inner) v W':=by
 refine Ze func284 ntmps284 ?_;have u:=Br W;refine Zr<|Zb fun b1 w1 n1=>?_
 have ⟨r1,k1,z1,lt1⟩:=n1.f;refine ZAn [1,2,4] ?_;refine ZrM ?_;refine Zy 5 ?_;refine Za (Yp 3 r1) ?_;have h:=h.below (Bm n1.below);have hl:=hl.below (Bm n1.below);refine Zc (putP_any (h.mW w1) (hl.inner.mW w1) Lr (by omega)) rfl rfl ?_;rintro _ w2 ⟨r2,rfl,m2,hw2⟩;have zw2:=hw2.size;have lp2:=pnPut_le L.inner;refine ZAnr [4] ?_;exact Qa rfl rfl ⟨_,rfl,r2,rfl,m2,Un (Un u n1.below) hw2⟩
theorem getLeafN_any (r:RowAt W b t (NdV.zero.cs (⟨k,Lf.zero,Pn.zero⟩:Nd))) (h:Sl W B s xs) (hb:B<=b) (hB:B<=W.heap.size):Calls prog 283 #[pv b 0,s.v] W fun e W'=>∃ v,e=.returned v/\∃ (p:LfV) (q:SlV),v=.tuple #[q.v,nv (lfGet xs).1]/\IsLf W' B p (lfGet xs).2.1/\Sl W' B q (lfGet xs).2.2/\RowAt W' b t ((⟨p,PnV.zero⟩:NdV).cs (⟨k,(lfGet xs).2.1,Pn.zero⟩:Nd))/\But2 W W' b b:=by
 refine Ze func283 ntmps283 ?_;have u:=Br W;have lbr:=r.lt;have bu:=But2.refl (w:=W) b b;refine XRn 2 [0,1,4,5] ?_;refine XR 2 ?_;refine Zc (getL_any h (by omega)) rfl rfl ?_;rintro _ w1 ⟨l1,r1,rfl,m1,n1,hw1⟩;have zw1:=hw1.size;refine Xa 4 ?_;refine Za y_nilc ?_;refine Zy 1 ?_;have r:=Rb hw1 r;have o2:=r;refine lg_st (new:=#[nv k,l1.enc.v,l1.cred.v,nv ((lfGet xs).2.1.src),l1.par.v,nilS.v,nilS.v,nilS.v]) Wn r rfl rfl rfl (by kernel_rfl) (by kernel_rfl) (show 1+4<=8 by decide) rfl rfl fun w2 s2=>?_;have ⟨r,z2⟩:=s2.f;refine Xn 2 [4,5] ?_;refine XRu 4 [4,5] ?_;exact eg_ret_tmp2 rfl rfl rfl ⟨_,rfl,l1,r1,rfl,m1.set o2 rfl s2,n1.set o2 rfl s2,r,(bu.grow hw1).set s2 (by omega)⟩
theorem getInnerN_any [Lo] (r:RowAt W b t (NdV.zero.cs (⟨k,Lf.zero,Pn.zero⟩:Nd))) (h:Sl W B s xs) (hb:B<=b) (hB:B<=W.heap.size):Calls prog 285 #[pv b 0,s.v] W fun e W'=>∃ v,e=.returned v/\∃ (p:PnV) (q:SlV),v=.tuple #[q.v,nv (pnGet xs).1]/\IsPn W' W'.heap.size p (pnGet xs).2.1/\Sl W' B q (pnGet xs).2.2/\RowAt W' b t ((⟨LfV.zero,p⟩:NdV).cs (⟨k,Lf.zero,(pnGet xs).2.1⟩:Nd))/\p.fresh W.heap.size/\p.old B/\But2 W W' b b:=by
 refine Ze func285 ntmps285 ?_;have u:=Br W;have lbr:=r.lt;have bu:=But2.refl (w:=W) b b;refine XRn 2 [0,1,4,5] ?_;refine XR 2 ?_;refine Zc (getP_anyO h (by omega)) rfl rfl ?_;rintro _ w1 ⟨l1,r1,rfl,m1,n1,f1,o1,hw1⟩;have zw1:=hw1.size;refine Xa 4 ?_;refine Za y_nilc ?_;refine Zy 5 ?_;have r:=Rb hw1 r;have o2:=r;refine lg_st (new:=#[nv k,nilS.v,nilS.v,nv 0,nilS.v,l1.enc.v,l1.hash.v,l1.unm.v]) Wn r rfl rfl rfl (by kernel_rfl) (by kernel_rfl) (show 5+3<=8 by decide) rfl rfl fun w2 s2=>?_;have ⟨r,z2⟩:=s2.f;refine Xn 2 [4,5] ?_;refine XRu 4 [4,5] ?_;have m1:=m1.setf o2 rfl f1 (by omega) s2;exact eg_ret_tmp2 rfl rfl rfl ⟨_,rfl,l1,r1,rfl,(m1.mW w2),n1.set o2 rfl s2,r,f1.le (by omega),o1,(bu.grow hw1).set s2 (by omega)⟩
end
/- NdPut:
  node.Put, Get, and what is summed up.
-/
section
set_option maxHeartbeats 1000000
theorem putN_any [Lo] {l:NdV} (h:Sl W B s xs) (hl:IsNd W B l L) (hB:B<=W.heap.size) (hx:xs.length<=1000000):Calls prog 201 #[s.v,.agg (l.cs L)] W fun e W'=>∃ v,e=.returned v/\PutS W (xs++ndPut L) v W':=by
 refine Ze func201 ntmps201 ?_;have u:=Br W;refine Zr<|Zb fun b1 w1 n1=>?_
 have ⟨r1,k1,z1,lt1⟩:=n1.f;refine ZAn [0,3,4] ?_;refine Zr<|Za (y_loadA r1) ?_
 have hl:=hl.below (Bm n1.below);refine Zd (countsN_any (hl.mW w1) Lr) ?_;rintro _ w2 ⟨rfl,hw2⟩;have zw2:=hw2.size;by_cases c3:((ndAs L).kind)=1
 ·obtain ⟨eaL,ckL⟩:=ndAs_kind (L:=L) (by omega);have kL:L.kind=1:=(congrArg Nd.kind eaL).symm.trans c3;refine Zd (of1_any _ c3 _) ?_;rintro _ w4 ⟨rfl,hw4⟩;have zw4:=hw4.size;refine Xa 3 ?_;refine lg_allocw (cs:=CsV.zero.cs Cs.zero) Wn rfl (by kernel_rfl) rfl (by decide) fun b5 w5 n5=>?_;have ⟨r5,k5,z5,lt5⟩:=n5.f;have o6:=r5;refine Zw r5 fun w6 s6=>?_;have ⟨r5,z6⟩:=s6.f;refine ZAn [0,3,4,5,6] ?_;refine ZrM ?_;refine Zc (putFlag_S true (Sl.nil _ 0) (by omega) (by first | omega | (simp only [List.length_nil];omega))) rfl rfl ?_;rintro _ w7 ⟨r7,rfl,m7,hw7⟩;have zw7:=hw7.size;rw [List.nil_append] at m7;refine ZAn [0,3,4,5,6,7] ?_;refine Qd<|ZrM ?_
  refine Znt [0,3,4,5,7,16] ?_;refine ZrM ?_;refine Zy 0 ?_;have r1:=Rb hw7 (s6.kp (n5.keep (Rb hw4 (Rb hw2 r1))));refine Zv (nv L.kind) r1 ?_;refine Zc (putNum_S L.kind 1 m7 (by omega) (by first | omega | (simp only [flagOct_length];omega))) rfl rfl ?_;rintro _ w8 ⟨r8,rfl,m8,hw8⟩;have zw8:=hw8.size;have wk8:=widthK_le 1;refine ZAn [0,3,4,5,7] ?_;refine Qe<|Zy 0 ?_
  have r5:=Rb hw8 (Rb hw7 r5);refine Zv (fnv (some 282)) r5 ?_;have r1:=Rb hw8 r1;refine Za (y_loadA r1) ?_;refine ZM ?_;have hl:=(((((hl.below (Bm hw2)).below (Bm hw4)).below (Bm n5.below)).below s6.bl).below (Bm hw7)).below (Bm hw8);refine lg_callv (fs:=[]) (vs:=[.agg (l.cs L),r8.v]) (us:=[]) Wn (putLeafN_any (hl.mW w8) (m8.mW w8) Lr (by first | omega | (simp only [List.length_append,numOct_length,flagOct_length];omega))) (by kernel_rfl) rfl rfl rfl rfl (by decide) ?_;rintro _ w9 ⟨r9,rfl,m9,hw9⟩;have zw9:=hw9.size;have lp9:=lfPut_le L.leaf;refine ZAn [0,4,7] ?_;refine XR 2 ?_;refine lg_bslice (el:=26) (z:=.slice none 0 0) (cs:=#[s.v,r9.v]) (by kernel_rfl) (by kernel_rfl) (by decide) (by decide) rfl rfl (by kernel_rfl) rfl rfl (by decide) fun b10 w10 n10=>?_;have ⟨r10,k10,z10,lt10⟩:=n10.f;have h:=((((((((h.below (Bm n1.below)).below (Bm hw2)).below (Bm hw4)).below (Bm n5.below)).set o6 rfl s6).below (Bm hw7)).below (Bm hw8)).below (Bm hw9)).below (Bm n10.below);have m9:=m9.below (Bm n10.below);refine Zc (concat2_S r10 h m9 (by omega) (by omega) (by first | omega | (simp only [List.length_append,numOct_length,flagOct_length];omega))) rfl rfl ?_;rintro _ w11 ⟨r11,rfl,m11,hw11⟩;have zw11:=hw11.size;refine ZAnr [4] ?_;have u:=Un (Un (Un (Un (Un ((Un (Un (Un (Un u n1.below) hw2) hw4) n5.below).trans s6.bl) hw7) hw8) hw9) n10.below) hw11;exact Qa rfl rfl ⟨_,rfl,r11,rfl,(m11.more (by omega)).cast (by rw [ndPut,if_pos c3,kL]),u⟩
 by_cases c12:((ndAs L).kind)=2
 ·obtain ⟨eaL,ckL⟩:=ndAs_kind (L:=L) (by omega);have kL:L.kind=2:=(congrArg Nd.kind eaL).symm.trans c12;refine Zd (of2_any _ c12 _) ?_;rintro _ w13 ⟨rfl,hw13⟩;have zw13:=hw13.size;refine Xa 3 ?_;refine lg_allocw (cs:=CsV.zero.cs Cs.zero) Wn rfl (by kernel_rfl) rfl (by decide) fun b14 w14 n14=>?_;have ⟨r14,k14,z14,lt14⟩:=n14.f;have o15:=r14;refine Zw r14 fun w15 s15=>?_;have ⟨r14,z15⟩:=s15.f;refine ZAn [0,3,4,5,6] ?_;refine ZrM ?_;refine Zc (putFlag_S true (Sl.nil _ 0) (by omega) (by first | omega | (simp only [List.length_nil];omega))) rfl rfl ?_;rintro _ w16 ⟨r16,rfl,m16,hw16⟩;have zw16:=hw16.size;rw [List.nil_append] at m16;refine ZAn [0,3,4,5,6,7] ?_;refine Qd<|ZrM ?_
  refine Znt [0,3,4,5,7,16] ?_;refine ZrM ?_;refine Zy 0 ?_;have r1:=Rb hw16 (s15.kp (n14.keep (Rb hw13 (Rb hw2 r1))));refine Zv (nv L.kind) r1 ?_;refine Zc (putNum_S L.kind 1 m16 (by omega) (by first | omega | (simp only [flagOct_length];omega))) rfl rfl ?_;rintro _ w17 ⟨r17,rfl,m17,hw17⟩;have zw17:=hw17.size;have wk17:=widthK_le 1;refine ZAn [0,3,4,5,7] ?_;refine Qe<|Zy 0 ?_
  have r14:=Rb hw17 (Rb hw16 r14);refine Zv (fnv (some 284)) r14 ?_;have r1:=Rb hw17 r1;refine Za (y_loadA r1) ?_;refine ZM ?_;have hl:=(((((hl.below (Bm hw2)).below (Bm hw13)).below (Bm n14.below)).below s15.bl).below (Bm hw16)).below (Bm hw17);refine lg_callv (fs:=[]) (vs:=[.agg (l.cs L),r17.v]) (us:=[]) Wn (putInnerN_any (hl.mW w17) (m17.mW w17) Lr (by first | omega | (simp only [List.length_append,numOct_length,flagOct_length];omega))) (by kernel_rfl) rfl rfl rfl rfl (by decide) ?_;rintro _ w18 ⟨r18,rfl,m18,hw18⟩;have zw18:=hw18.size;have lp18:=pnPut_le L.inner;refine ZAn [0,4,7] ?_;refine XR 2 ?_;refine lg_bslice (el:=26) (z:=.slice none 0 0) (cs:=#[s.v,r18.v]) (by kernel_rfl) (by kernel_rfl) (by decide) (by decide) rfl rfl (by kernel_rfl) rfl rfl (by decide) fun b19 w19 n19=>?_;have ⟨r19,k19,z19,lt19⟩:=n19.f;have h:=((((((((h.below (Bm n1.below)).below (Bm hw2)).below (Bm hw13)).below (Bm n14.below)).set o15 rfl s15).below (Bm hw16)).below (Bm hw17)).below (Bm hw18)).below (Bm n19.below);have m18:=m18.below (Bm n19.below);refine Zc (concat2_S r19 h m18 (by omega) (by omega) (by first | omega | (simp only [List.length_append,numOct_length,flagOct_length];omega))) rfl rfl ?_;rintro _ w20 ⟨r20,rfl,m20,hw20⟩;have zw20:=hw20.size;refine ZAnr [4] ?_;have u:=Un (Un (Un (Un (Un ((Un (Un (Un (Un u n1.below) hw2) hw13) n14.below).trans s15.bl) hw16) hw17) hw18) n19.below) hw20;exact Qa rfl rfl ⟨_,rfl,r20,rfl,(m20.more (by omega)).cast (by rw [ndPut,if_neg c3,if_pos c12,kL]),u⟩
 refine Zd (of0_any _ c3 c12 _) ?_;rintro _ w21 ⟨rfl,hw21⟩;have zw21:=hw21.size;refine Xa 3 ?_;refine lg_allocw (cs:=CsV.zero.cs Cs.zero) Wn rfl (by kernel_rfl) rfl (by decide) fun b22 w22 n22=>?_;have ⟨r22,k22,z22,lt22⟩:=n22.f;have o23:=r22;refine Zw r22 fun w23 s23=>?_;have ⟨r22,z23⟩:=s23.f;refine ZAn [0,3,4,5,6] ?_;refine ZrM ?_;refine Zc (putFlag_S false (Sl.nil _ 0) (by omega) (by first | omega | (simp only [List.length_nil];omega))) rfl rfl ?_;rintro _ w24 ⟨r24,rfl,m24,hw24⟩;have zw24:=hw24.size;rw [List.nil_append] at m24;refine ZAn [0,3,4,5,6,7] ?_;refine Qd<|ZrM ?_
 refine Zn [0,3,4,5,7,16] ?_;refine Zcf [0,4,7] ?_;refine XR 2 ?_;refine lg_bslice (el:=26) (z:=.slice none 0 0) (cs:=#[s.v,r24.v]) (by kernel_rfl) (by kernel_rfl) (by decide) (by decide) rfl rfl (by kernel_rfl) rfl rfl (by decide) fun b25 w25 n25=>?_;have ⟨r25,k25,z25,lt25⟩:=n25.f;have h:=((((((h.below (Bm n1.below)).below (Bm hw2)).below (Bm hw21)).below (Bm n22.below)).set o23 rfl s23).below (Bm hw24)).below (Bm n25.below);have m24:=m24.below (Bm n25.below);refine Zc (concat2_S r25 h m24 (by omega) (by omega) (by first | omega | (simp only [flagOct_length];omega))) rfl rfl ?_;rintro _ w26 ⟨r26,rfl,m26,hw26⟩;have zw26:=hw26.size;refine ZAnr [4] ?_;have u:=Un (Un (Un ((Un (Un (Un (Un u n1.below) hw2) hw21) n22.below).trans s23.bl) hw24) n25.below) hw26;exact Qa rfl rfl ⟨_,rfl,r26,rfl,(m26.more (by omega)).cast (by rw [ndPut,if_neg c3,if_neg c12]),u⟩
set_option maxHeartbeats 4000000 in
theorem getN_anyO [Lo] (h:Sl W B s xs) (hB:B<=W.heap.size):Calls prog 230 #[s.v] W fun e W'=>∃ v,e=.returned v/\∃ (l:NdV) (r:SlV),v=.tuple #[.agg (l.cs (ndGet xs).2.1),r.v,nv (ndGet xs).1]/\IsNd W' W'.heap.size l (ndGet xs).2.1/\Sl W' B r (ndGet xs).2.2/\l.fresh W.heap.size/\l.old B/\Bw W W':=by
 refine Ze func230 ntmps230 ?_;have u:=Br W;refine Zr<|lg_allocw (cs:=NdV.zero.cs Nd.zero) Wn rfl (by kernel_rfl) rfl (by decide) fun b1 w1 n1=>?_
 have ⟨r1,k1,z1,lt1⟩:=n1.f;refine Xn 2 [0,2,3,4] ?_;refine ZrM ?_;have h:=h.below (Bm n1.below);by_cases c2:flagB xs=true
 ·refine Zd (getFlag_S h) ?_;rintro _ w3 ⟨bb3,r3,rfl,e3,l3,hw3⟩;have zw3:=hw3.size;obtain rfl:bb3=true:=e3.trans (decide_eq_true c2);refine Xn 7 [2,3,4,5,6,7] ?_;refine Qd<|ZrM ?_
  refine Zj yi_neq (fun c4=>?_) fun c4=>?_
  ·refine Xn 4 [2,3,4,6,7,23] ?_;refine Zcf [2,3,4,6,7] ?_;refine ZrM ?_;refine Zc (getNum_S 1 l3 (by omega)) rfl rfl ?_;rintro _ w5 ⟨r5,rfl,l5,hw5⟩;have zw5:=hw5.size;refine Xn 7 [2,3,4,8,6,7] ?_;refine Qd<|ZrM ?_
   refine Zj yi_neq (fun c6=>?_) fun c6=>?_
   ·refine Zn [2,3,4,8,6,7,34] ?_;refine Zcf [2,3,4,8,6,7] ?_;refine ZrM ?_;by_cases c7:(numM (flagR xs) 1)=1
    ·refine Zd (of1_any _ c7 _) ?_;rintro _ w8 ⟨rfl,hw8⟩;have zw8:=hw8.size;refine Xa 3 ?_;refine lg_allocw (cs:=CsV.zero.cs Cs.zero) Wn rfl (by kernel_rfl) rfl (by decide) fun b9 w9 n9=>?_;have ⟨r9,k9,z9,lt9⟩:=n9.f;have o10:=r9;refine Zw r9 fun w10 s10=>?_;have ⟨r9,z10⟩:=s10.f;refine ZAn [2,3,4,8,6,7,9,10] ?_;refine Qd<|ZrM ?_
     refine Xn 1 [2,3,4,8,6,7,9,43] ?_;refine Zcf [2,3,4,8,6,7,9] ?_;refine ZrM ?_;refine Za (y_build (cs:=(⟨LfV.zero,PnV.zero⟩:NdV).cs (⟨(numM (flagR xs) 1),Lf.zero,Pn.zero⟩:Nd))) ?_;refine lg_allocw (cs:=NdV.zero.cs Nd.zero) Wn rfl (by kernel_rfl) rfl (by decide) fun b11 w11 n11=>?_;have ⟨r11,k11,z11,lt11⟩:=n11.f;have o12:=r11;refine Zw r11 fun w12 s12=>?_;have ⟨r11,z12⟩:=s12.f;refine Zn [2,3,4,6,7,9,11] ?_;refine Zr<|Zy 1 ?_
     have r9:=s12.kp (n11.keep r9);refine Zv (fnv (some 283)) r9 ?_;refine ZM ?_;have l5:=((((l5.below (Bm hw8)).below (Bm n9.below)).set o10 rfl s10).below (Bm n11.below)).set o12 rfl s12;refine lg_callv (fs:=[]) (vs:=[pv b11 0,r5.v]) (us:=[]) Wn (getLeafN_any (k:=(numM (flagR xs) 1)) r11 l5 (by omega) (by omega)) (by kernel_rfl) rfl rfl rfl rfl (by decide) ?_;rintro _ w13 ⟨p13,r13,rfl,m13,l13,y13,hw13⟩;have zw13:=hw13.size;have r11:=y13;refine Xn 5 [2,3,4,11,6,7] ?_;refine Qd<|ZrM ?_
     refine Zj yi_neq (fun c14=>?_) fun c14=>?_
     ·refine Zn [2,3,4,11,6,7,55] ?_;refine Zcf [2,3,4,11,6] ?_;refine Zr<|Za (y_loadA r11) ?_
      refine ZM ?_;have r1:=hw13.kp (s12.kp (n11.keep (s10.kp (n9.keep (Rb hw8 (Rb hw5 (Rb hw3 r1)))))));have o15:=r1;refine Zw r1 fun w15 s15=>?_;have ⟨r1,z15⟩:=s15.f;refine Xu 2 [2,3,4] ?_;have hst:ndGet xs=(0,(⟨(numM (flagR xs) 1),(lfGet (numR (flagR xs) 1)).2.1,Pn.zero⟩:Nd),(lfGet (numR (flagR xs) 1)).2.2):=by rw [ndGet,if_neg (not_not_intro c4),if_neg (not_not_intro c2),if_neg (not_not_intro c6),if_pos c7,if_neg (not_not_intro c14),c7]
      refine Qz r1 ?_;rw [hst];have m13:=m13.set o15 rfl s15;exact ⟨_,rfl,(⟨p13,PnV.zero⟩:NdV),r13,rfl,(show IsNd w15 w15.heap.size (⟨p13,PnV.zero⟩:NdV) (⟨(numM (flagR xs) 1),(lfGet (numR (flagR xs) 1)).2.1,Pn.zero⟩:Nd) from ⟨(m13.mW w15),((IsPn.zero _ 0).mW w15)⟩),l13.set o15 rfl s15,(Fr.nil _),⟨m13.old,Old.nil _,Old.nil _⟩,(((Un ((Un (Un (Un (Un (Un u n1.below) hw3) hw5) hw8) n9.below).trans s10.bl) n11.below).trans s12.bl).trans hw13.bl).trans s15.bl⟩
     refine Znt [2,3,4,11,6,7,55] ?_;refine Zr<|Za (y_build (cs:=NdV.zero.cs Nd.zero)) ?_
     refine ZM ?_;have r1:=hw13.kp (s12.kp (n11.keep (s10.kp (n9.keep (Rb hw8 (Rb hw5 (Rb hw3 r1)))))));have o16:=r1;refine Zw r1 fun w16 s16=>?_;have ⟨r1,z16⟩:=s16.f;refine Xu 2 [2,11,6,3,4] ?_;refine Qc ?_;have hst:ndGet xs=((lfGet (numR (flagR xs) 1)).1,Nd.zero,[]):=by rw [ndGet,if_neg (not_not_intro c4),if_neg (not_not_intro c2),if_neg (not_not_intro c6),if_pos c7,if_pos c14]
     refine Qz r1 ?_;rw [hst];exact ⟨_,rfl,NdV.zero,nilS,rfl,((IsNd.zero _ 0).mW w16),(Sl.nil _ _),(Fr.nil _),NdV.old_zero _,(((Un ((Un (Un (Un (Un (Un u n1.below) hw3) hw5) hw8) n9.below).trans s10.bl) n11.below).trans s12.bl).trans hw13.bl).trans s16.bl⟩
    by_cases c17:(numM (flagR xs) 1)=2
    ·refine Zd (of2_any _ c17 _) ?_;rintro _ w18 ⟨rfl,hw18⟩;have zw18:=hw18.size;refine Xa 3 ?_;refine lg_allocw (cs:=CsV.zero.cs Cs.zero) Wn rfl (by kernel_rfl) rfl (by decide) fun b19 w19 n19=>?_;have ⟨r19,k19,z19,lt19⟩:=n19.f;have o20:=r19;refine Zw r19 fun w20 s20=>?_;have ⟨r19,z20⟩:=s20.f;refine ZAn [2,3,4,8,6,7,9,10] ?_;refine Qd<|ZrM ?_
     refine Xn 1 [2,3,4,8,6,7,9,43] ?_;refine Zcf [2,3,4,8,6,7,9] ?_;refine ZrM ?_;refine Za (y_build (cs:=(⟨LfV.zero,PnV.zero⟩:NdV).cs (⟨(numM (flagR xs) 1),Lf.zero,Pn.zero⟩:Nd))) ?_;refine lg_allocw (cs:=NdV.zero.cs Nd.zero) Wn rfl (by kernel_rfl) rfl (by decide) fun b21 w21 n21=>?_;have ⟨r21,k21,z21,lt21⟩:=n21.f;have o22:=r21;refine Zw r21 fun w22 s22=>?_;have ⟨r21,z22⟩:=s22.f;refine Zn [2,3,4,6,7,9,11] ?_;refine Zr<|Zy 1 ?_
     have r19:=s22.kp (n21.keep r19);refine Zv (fnv (some 285)) r19 ?_;refine ZM ?_;have l5:=((((l5.below (Bm hw18)).below (Bm n19.below)).set o20 rfl s20).below (Bm n21.below)).set o22 rfl s22;refine lg_callv (fs:=[]) (vs:=[pv b21 0,r5.v]) (us:=[]) Wn (getInnerN_any (k:=(numM (flagR xs) 1)) r21 l5 (by omega) (by omega)) (by kernel_rfl) rfl rfl rfl rfl (by decide) ?_;rintro _ w23 ⟨p23,r23,rfl,m23,l23,y23,f23,o23,hw23⟩;have zw23:=hw23.size;have r21:=y23;refine Xn 5 [2,3,4,11,6,7] ?_;refine Qd<|ZrM ?_
     refine Zj yi_neq (fun c24=>?_) fun c24=>?_
     ·refine Zn [2,3,4,11,6,7,55] ?_;refine Zcf [2,3,4,11,6] ?_;refine Zr<|Za (y_loadA r21) ?_
      refine ZM ?_;have r1:=hw23.kp (s22.kp (n21.keep (s20.kp (n19.keep (Rb hw18 (Rb hw5 (Rb hw3 r1)))))));have o25:=r1;refine Zw r1 fun w25 s25=>?_;have ⟨r1,z25⟩:=s25.f;refine Xu 2 [2,3,4] ?_;have hst:ndGet xs=(0,(⟨(numM (flagR xs) 1),Lf.zero,(pnGet (numR (flagR xs) 1)).2.1⟩:Nd),(pnGet (numR (flagR xs) 1)).2.2):=by rw [ndGet,if_neg (not_not_intro c4),if_neg (not_not_intro c2),if_neg (not_not_intro c6),if_neg c7,if_pos c17,if_neg (not_not_intro c24),c17]
      refine Qz r1 ?_;rw [hst];have m23:=m23.setf o25 rfl f23 (by omega) s25;exact ⟨_,rfl,(⟨LfV.zero,p23⟩:NdV),r23,rfl,(show IsNd w25 w25.heap.size (⟨LfV.zero,p23⟩:NdV) (⟨(numM (flagR xs) 1),Lf.zero,(pnGet (numR (flagR xs) 1)).2.1⟩:Nd) from ⟨((IsLf.zero _ 0).mW w25),(m23.mW w25)⟩),l23.set o25 rfl s25,f23.le (by omega),⟨⟨Old.nil _,Old.nil _,Old.nil _⟩,o23⟩,(((Un ((Un (Un (Un (Un (Un u n1.below) hw3) hw5) hw18) n19.below).trans s20.bl) n21.below).trans s22.bl).trans hw23.bl).trans s25.bl⟩
     refine Znt [2,3,4,11,6,7,55] ?_;refine Zr<|Za (y_build (cs:=NdV.zero.cs Nd.zero)) ?_
     refine ZM ?_;have r1:=hw23.kp (s22.kp (n21.keep (s20.kp (n19.keep (Rb hw18 (Rb hw5 (Rb hw3 r1)))))));have o26:=r1;refine Zw r1 fun w26 s26=>?_;have ⟨r1,z26⟩:=s26.f;refine Xu 2 [2,11,6,3,4] ?_;refine Qc ?_;have hst:ndGet xs=((pnGet (numR (flagR xs) 1)).1,Nd.zero,[]):=by rw [ndGet,if_neg (not_not_intro c4),if_neg (not_not_intro c2),if_neg (not_not_intro c6),if_neg c7,if_pos c17,if_pos c24]
     refine Qz r1 ?_;rw [hst];exact ⟨_,rfl,NdV.zero,nilS,rfl,((IsNd.zero _ 0).mW w26),(Sl.nil _ _),(Fr.nil _),NdV.old_zero _,(((Un ((Un (Un (Un (Un (Un u n1.below) hw3) hw5) hw18) n19.below).trans s20.bl) n21.below).trans s22.bl).trans hw23.bl).trans s26.bl⟩
    refine Zd (of0_any _ c7 c17 _) ?_;rintro _ w27 ⟨rfl,hw27⟩;have zw27:=hw27.size;refine Xa 3 ?_;refine lg_allocw (cs:=CsV.zero.cs Cs.zero) Wn rfl (by kernel_rfl) rfl (by decide) fun b28 w28 n28=>?_;have ⟨r28,k28,z28,lt28⟩:=n28.f;have o29:=r28;refine Zw r28 fun w29 s29=>?_;have ⟨r28,z29⟩:=s29.f;refine ZAn [2,3,4,8,6,7,9,10] ?_;refine Qd<|ZrM ?_
    refine Xn 1 [2,3,4,8,6,7,9,43] ?_;refine cg_ct rfl<|Zr<|Za (y_build (cs:=NdV.zero.cs Nd.zero)) ?_
    have r1:=s29.kp (n28.keep (Rb hw27 (Rb hw5 (Rb hw3 r1))));have o30:=r1;refine Zw r1 fun w30 s30=>?_;have ⟨r1,z30⟩:=s30.f;refine Xu 2 [2,8,6,7,9,3,4] ?_;refine Qc ?_;have hst:ndGet xs=(7,Nd.zero,[]):=by rw [ndGet,if_neg (not_not_intro c4),if_neg (not_not_intro c2),if_neg (not_not_intro c6),if_neg c7,if_neg c17]
    refine Qz r1 ?_;rw [hst];exact ⟨_,rfl,NdV.zero,nilS,rfl,((IsNd.zero _ 0).mW w30),(Sl.nil _ _),(Fr.nil _),NdV.old_zero _,((Un (Un (Un (Un (Un u n1.below) hw3) hw5) hw27) n28.below).trans s29.bl).trans s30.bl⟩
   refine Znt [2,3,4,8,6,7,34] ?_;refine Zr<|Za (y_build (cs:=NdV.zero.cs Nd.zero)) ?_
   refine ZM ?_;have r1:=Rb hw5 (Rb hw3 r1);have o31:=r1;refine Zw r1 fun w31 s31=>?_;have ⟨r1,z31⟩:=s31.f;refine Xu 2 [2,8,6,7,3,4] ?_;refine Qc ?_;have hst:ndGet xs=((numE (flagR xs) 1),Nd.zero,[]):=by rw [ndGet,if_neg (not_not_intro c4),if_neg (not_not_intro c2),if_pos c6]
   refine Qz r1 ?_;rw [hst];exact ⟨_,rfl,NdV.zero,nilS,rfl,((IsNd.zero _ 0).mW w31),(Sl.nil _ _),(Fr.nil _),NdV.old_zero _,(Un (Un (Un u n1.below) hw3) hw5).trans s31.bl⟩
  refine Xt 4 [2,3,4,6,7,23] ?_;refine Zr<|Za (y_build (cs:=NdV.zero.cs Nd.zero)) ?_
  refine Xa 2 ?_;have r1:=Rb hw3 r1;have o32:=r1;refine Zw r1 fun w32 s32=>?_;have ⟨r1,z32⟩:=s32.f;refine Xu 2 [2,6,7,3,4] ?_;refine Qc ?_;have hst:ndGet xs=((flagE xs),Nd.zero,(flagR xs)):=by rw [ndGet,if_pos c4,flagR,if_neg c4]
  refine Qz r1 ?_;rw [hst];exact ⟨_,rfl,NdV.zero,r3,rfl,((IsNd.zero _ 0).mW w32),l3.set o32 rfl s32,(Fr.nil _),NdV.old_zero _,(Un (Un u n1.below) hw3).trans s32.bl⟩
 refine Zd (getFlag_S h) ?_;rintro _ w33 ⟨bb33,r33,rfl,e33,l33,hw33⟩;have zw33:=hw33.size;obtain rfl:bb33=false:=e33.trans (decide_eq_false c2);refine Xn 7 [2,3,4,5,6,7] ?_;refine Qd<|ZrM ?_
 refine Zj yi_neq (fun c34=>?_) fun c34=>?_
 ·refine Xt 4 [2,3,4,6,7,23] ?_;refine Zr<|Za (y_build (cs:=NdV.zero.cs Nd.zero)) ?_
  refine Xa 2 ?_;have r1:=Rb hw33 r1;have o35:=r1;refine Zw r1 fun w35 s35=>?_;have ⟨r1,z35⟩:=s35.f;refine Xu 2 [2,6,7,3,4] ?_;refine Qc ?_;have hst:ndGet xs=((flagE xs),Nd.zero,(flagR xs)):=by rw [ndGet,if_neg (not_not_intro c34),if_pos c2,c34]
  refine Qz r1 ?_;rw [hst];exact ⟨_,rfl,NdV.zero,r33,rfl,((IsNd.zero _ 0).mW w35),l33.set o35 rfl s35,(Fr.nil _),NdV.old_zero _,(Un (Un u n1.below) hw33).trans s35.bl⟩
 refine Xt 4 [2,3,4,6,7,23] ?_;refine Zr<|Za (y_build (cs:=NdV.zero.cs Nd.zero)) ?_
 refine Xa 2 ?_;have r1:=Rb hw33 r1;have o36:=r1;refine Zw r1 fun w36 s36=>?_;have ⟨r1,z36⟩:=s36.f;refine Xu 2 [2,6,7,3,4] ?_;refine Qc ?_;have hst:ndGet xs=((flagE xs),Nd.zero,(flagR xs)):=by rw [ndGet,if_pos c34,flagR,if_neg c34]
 refine Qz r1 ?_;rw [hst];exact ⟨_,rfl,NdV.zero,r33,rfl,((IsNd.zero _ 0).mW w36),l33.set o36 rfl s36,(Fr.nil _),NdV.old_zero _,(Un (Un u n1.below) hw33).trans s36.bl⟩
theorem putOnlyN_any [Lo] {l:NdV} (h:Sl W B s xs) (hl:IsNd W B l L) (hB:B<=W.heap.size) (k:Int) (hx:xs.length<=100000):Calls prog 308 #[s.v,.agg (l.cs L),nv k] W fun e W'=>∃ v,e=.returned v/\PutS W (xs++ndOnly L k) v W':=by
 refine Ze func308 ntmps308 ?_;have u:=Br W;refine Zr<|Zb fun b1 w1 n1=>?_
 have ⟨r1,k1,z1,lt1⟩:=n1.f;refine ZAn [0,2,4,6] ?_;refine Zr<|Za (y_loadA r1) ?_
 have hl:=hl.below (Bm n1.below);refine Zd (countsN_any (hl.mW w1) Lr) ?_;rintro _ w2 ⟨rfl,hw2⟩;have zw2:=hw2.size;by_cases c3:((ndAs L).kind)=1
 ·obtain ⟨eaL,ckL⟩:=ndAs_kind (L:=L) (by omega);have kL:L.kind=1:=(congrArg Nd.kind eaL).symm.trans c3;refine Zd (of1_any _ c3 _) ?_;rintro _ w4 ⟨rfl,hw4⟩;have zw4:=hw4.size;refine Xa 3 ?_;refine lg_allocw (cs:=CsV.zero.cs Cs.zero) Wn rfl (by kernel_rfl) rfl (by decide) fun b5 w5 n5=>?_;have ⟨r5,k5,z5,lt5⟩:=n5.f;have o6:=r5;refine Zw r5 fun w6 s6=>?_;have ⟨r5,z6⟩:=s6.f;refine ZAn [0,2,4,6,7,8] ?_;refine XR 2 ?_;refine Zx 16 0 ?_;have r1:=s6.kp (n5.keep (Rb hw4 (Rb hw2 r1)));refine Zvt 16 (nv L.kind) r1 ?_;refine Xa 1 ?_;refine Zp 16 yi_eql (fun c7=>?_) fun c7=>?_
  ·refine Xn 2 [0,4,6,7,8] ?_;refine XR 2 ?_;have h:=((((h.below (Bm n1.below)).below (Bm hw2)).below (Bm hw4)).below (Bm n5.below)).set o6 rfl s6;refine Zc (putFlag_S true h (by omega) (by omega)) rfl rfl ?_;rintro _ w8 ⟨r8,rfl,m8,hw8⟩;have zw8:=hw8.size;refine ZAn [4,6,7,8,0] ?_;refine Qd<|ZrM ?_
   refine Znt [4,6,7,0,25] ?_;refine Qe<|Zy 0 ?_
   have r5:=Rb hw8 r5;refine Zv (fnv (some 282)) r5 ?_;have r1:=Rb hw8 r1;refine Za (y_loadA r1) ?_;refine ZM ?_;have hl:=((((hl.below (Bm hw2)).below (Bm hw4)).below (Bm n5.below)).below s6.bl).below (Bm hw8);refine lg_callv (fs:=[]) (vs:=[.agg (l.cs L),r8.v]) (us:=[]) Wn (putLeafN_any (hl.mW w8) (m8.mW w8) Lr (by simp only [List.length_append,flagOct_length];omega)) (by kernel_rfl) rfl rfl rfl rfl (by decide) ?_;rintro _ w9 ⟨r9,rfl,m9,hw9⟩;have zw9:=hw9.size;have lp9:=lfPut_le L.leaf;refine ZAn [6,0] ?_;refine XRu 2 [6] ?_;have u:=Un (Un ((Un (Un (Un (Un u n1.below) hw2) hw4) n5.below).trans s6.bl) hw8) hw9;exact Qa rfl rfl ⟨_,rfl,r9,rfl,(m9.more (by omega)).cast (by rw [ndOnly,if_pos ⟨by omega,by omega⟩,List.append_assoc]),u⟩
  refine Xn 2 [0,4,6,7,8] ?_;refine XR 2 ?_;have h:=((((h.below (Bm n1.below)).below (Bm hw2)).below (Bm hw4)).below (Bm n5.below)).set o6 rfl s6;refine Zc (putFlag_S false h (by omega) (by omega)) rfl rfl ?_;rintro _ w10 ⟨r10,rfl,m10,hw10⟩;have zw10:=hw10.size;refine ZAn [4,6,7,8,0] ?_;refine Qd<|ZrM ?_
  refine Zn [4,6,7,0,25] ?_;refine Zcf [6,0] ?_;refine XRu 2 [6] ?_;have u:=Un ((Un (Un (Un (Un u n1.below) hw2) hw4) n5.below).trans s6.bl) hw10;exact Qa rfl rfl ⟨_,rfl,r10,rfl,(m10.more (by omega)).cast (by rw [ndOnly,if_neg (by omega),if_neg (by omega)]),u⟩
 by_cases c11:((ndAs L).kind)=2
 ·obtain ⟨eaL,ckL⟩:=ndAs_kind (L:=L) (by omega);have kL:L.kind=2:=(congrArg Nd.kind eaL).symm.trans c11;refine Zd (of2_any _ c11 _) ?_;rintro _ w12 ⟨rfl,hw12⟩;have zw12:=hw12.size;refine Xa 3 ?_;refine lg_allocw (cs:=CsV.zero.cs Cs.zero) Wn rfl (by kernel_rfl) rfl (by decide) fun b13 w13 n13=>?_;have ⟨r13,k13,z13,lt13⟩:=n13.f;have o14:=r13;refine Zw r13 fun w14 s14=>?_;have ⟨r13,z14⟩:=s14.f;refine ZAn [0,2,4,6,7,8] ?_;refine XR 2 ?_;refine Zx 16 0 ?_;have r1:=s14.kp (n13.keep (Rb hw12 (Rb hw2 r1)));refine Zvt 16 (nv L.kind) r1 ?_;refine Xa 1 ?_;refine Zp 16 yi_eql (fun c15=>?_) fun c15=>?_
  ·refine Xn 2 [0,4,6,7,8] ?_;refine XR 2 ?_;have h:=((((h.below (Bm n1.below)).below (Bm hw2)).below (Bm hw12)).below (Bm n13.below)).set o14 rfl s14;refine Zc (putFlag_S true h (by omega) (by omega)) rfl rfl ?_;rintro _ w16 ⟨r16,rfl,m16,hw16⟩;have zw16:=hw16.size;refine ZAn [4,6,7,8,0] ?_;refine Qd<|ZrM ?_
   refine Znt [4,6,7,0,25] ?_;refine Qe<|Zy 0 ?_
   have r13:=Rb hw16 r13;refine Zv (fnv (some 284)) r13 ?_;have r1:=Rb hw16 r1;refine Za (y_loadA r1) ?_;refine ZM ?_;have hl:=((((hl.below (Bm hw2)).below (Bm hw12)).below (Bm n13.below)).below s14.bl).below (Bm hw16);refine lg_callv (fs:=[]) (vs:=[.agg (l.cs L),r16.v]) (us:=[]) Wn (putInnerN_any (hl.mW w16) (m16.mW w16) Lr (by simp only [List.length_append,flagOct_length];omega)) (by kernel_rfl) rfl rfl rfl rfl (by decide) ?_;rintro _ w17 ⟨r17,rfl,m17,hw17⟩;have zw17:=hw17.size;have lp17:=pnPut_le L.inner;refine ZAn [6,0] ?_;refine XRu 2 [6] ?_;have u:=Un (Un ((Un (Un (Un (Un u n1.below) hw2) hw12) n13.below).trans s14.bl) hw16) hw17;exact Qa rfl rfl ⟨_,rfl,r17,rfl,(m17.more (by omega)).cast (by rw [ndOnly,if_neg (by omega),if_pos ⟨by omega,by omega⟩,List.append_assoc]),u⟩
  refine Xn 2 [0,4,6,7,8] ?_;refine XR 2 ?_;have h:=((((h.below (Bm n1.below)).below (Bm hw2)).below (Bm hw12)).below (Bm n13.below)).set o14 rfl s14;refine Zc (putFlag_S false h (by omega) (by omega)) rfl rfl ?_;rintro _ w18 ⟨r18,rfl,m18,hw18⟩;have zw18:=hw18.size;refine ZAn [4,6,7,8,0] ?_;refine Qd<|ZrM ?_
  refine Zn [4,6,7,0,25] ?_;refine Zcf [6,0] ?_;refine XRu 2 [6] ?_;have u:=Un ((Un (Un (Un (Un u n1.below) hw2) hw12) n13.below).trans s14.bl) hw18;exact Qa rfl rfl ⟨_,rfl,r18,rfl,(m18.more (by omega)).cast (by rw [ndOnly,if_neg (by omega),if_neg (by omega)]),u⟩
 refine Zd (of0_any _ c3 c11 _) ?_;rintro _ w19 ⟨rfl,hw19⟩;have zw19:=hw19.size;refine Xa 3 ?_;refine lg_allocw (cs:=CsV.zero.cs Cs.zero) Wn rfl (by kernel_rfl) rfl (by decide) fun b20 w20 n20=>?_;have ⟨r20,k20,z20,lt20⟩:=n20.f;have o21:=r20;refine Zw r20 fun w21 s21=>?_;have ⟨r20,z21⟩:=s21.f;refine ZAn [0,2,4,6,7,8] ?_;refine XRn 8 [0,4,6,7,8] ?_;refine XR 2 ?_;have h:=((((h.below (Bm n1.below)).below (Bm hw2)).below (Bm hw19)).below (Bm n20.below)).set o21 rfl s21;refine Zc (putFlag_S false h (by omega) (by omega)) rfl rfl ?_;rintro _ w22 ⟨r22,rfl,m22,hw22⟩;have zw22:=hw22.size;refine ZAn [4,6,7,8,0] ?_;refine Qd<|ZrM ?_
 refine Zn [4,6,7,0,25] ?_;refine Zcf [6,0] ?_;refine XRu 2 [6] ?_;have u:=Un ((Un (Un (Un (Un u n1.below) hw2) hw19) n20.below).trans s21.bl) hw22;exact Qa rfl rfl ⟨_,rfl,r22,rfl,(m22.more (by omega)).cast (by rw [ndOnly,if_neg (by omega),if_neg (by omega)]),u⟩
theorem ofLeafN_any [Lo] (i:Int) {l:NdV} (hl:IsNd W B l L) (hB:B<=W.heap.size):Calls prog 278 #[nv i,.agg (l.cs L)] W fun e W'=>∃ v,e=.returned v/\PutS W (ofLeafO i L) v W':=by
 refine Ze func278 ntmps278 ?_;have u:=Br W;refine Zr<|Zb fun b1 w1 n1=>?_
 have ⟨r1,k1,z1,lt1⟩:=n1.f;refine ZAn [0,3,4] ?_;refine Zr<|Zc (putNum_S 1 1 (Sl.nil _ 0) (by omega) (by simp only [List.length_nil];omega)) rfl rfl ?_
 rintro _ w2 ⟨r2,rfl,m2,hw2⟩;have zw2:=hw2.size;rw [List.nil_append] at m2;have wk2:=widthK_le 1;refine ZAn [0,3,4,5] ?_;refine XR 2 ?_;refine Zc (putNum_S i 4 m2 (by omega) (by simp only [numOct_length];omega)) rfl rfl ?_;rintro _ w3 ⟨r3,rfl,m3,hw3⟩;have zw3:=hw3.size;have wk3:=widthK_le 4;refine ZAn [3,4,5] ?_;refine ZrM ?_;have r1:=Rb hw3 (Rb hw2 r1);refine Za (y_loadA r1) ?_;have hl:=((hl.below (Bm n1.below)).below (Bm hw2)).below (Bm hw3);refine Zc (putOnlyN_any (m3.mW w3) (hl.mW w3) Lr 1 (by simp only [List.length_append,numOct_length];omega)) rfl rfl ?_;rintro _ w4 ⟨r4,rfl,m4,hw4⟩;have zw4:=hw4.size;have lp4:=ndOnly_le L 1;refine ZAnr [4] ?_;have u:=Un (Un (Un (Un u n1.below) hw2) hw3) hw4;exact Qa rfl rfl ⟨_,rfl,r4,rfl,(m4.more (by omega)).cast (by simp only [ofLeafO,List.append_assoc]),u⟩
theorem ofInnerN_any [Lo] {l:NdV} {t:SlV} {ys:List Int} (hl:IsNd W B l L) (h:Sl W B s xs) (h2:Sl W B t ys) (hB:B<=W.heap.size) (hx:xs.length<=10000) (hy:ys.length<=10000):Calls prog 279 #[.agg (l.cs L),s.v,t.v] W fun e W'=>∃ v,e=.returned v/\PutS W (ofInnerO L xs ys) v W':=by
 refine Ze func279 ntmps279 ?_;have u:=Br W;refine Zr<|Zb fun b1 w1 n1=>?_
 have ⟨r1,k1,z1,lt1⟩:=n1.f;refine ZAn [1,2,3,6] ?_;refine Zr<|Zc (putNum_S 2 1 (Sl.nil _ 0) (by omega) (by simp only [List.length_nil];omega)) rfl rfl ?_
 rintro _ w2 ⟨r2,rfl,m2,hw2⟩;have zw2:=hw2.size;rw [List.nil_append] at m2;have wk2:=widthK_le 1;refine ZAn [1,2,3,6,7] ?_;refine ZrM ?_;have r1:=Rb hw2 r1;refine Za (y_loadA r1) ?_;have hl:=(hl.below (Bm n1.below)).below (Bm hw2);refine Zc (putOnlyN_any (m2.mW w2) (hl.mW w2) Lr 2 (by simp only [numOct_length];omega)) rfl rfl ?_;rintro _ w3 ⟨r3,rfl,m3,hw3⟩;have zw3:=hw3.size;have lp3:=ndOnly_le L 2;refine ZAn [1,2,6,7] ?_;refine XR 2 ?_;have h:=((h.below (Bm n1.below)).below (Bm hw2)).below (Bm hw3);refine Zc (putBytes_S m3 h (by omega) (by omega) (by simp only [List.length_append,numOct_length];omega)) rfl rfl ?_;rintro _ w4 ⟨r4,rfl,m4,hw4⟩;have zw4:=hw4.size;have lb4:=bytesOct_le xs;refine ZAn [2,6,7] ?_;refine XR 2 ?_;have h2:=(((h2.below (Bm n1.below)).below (Bm hw2)).below (Bm hw3)).below (Bm hw4);refine Zc (putBytes_S m4 h2 (by omega) (by omega) (by simp only [List.length_append,numOct_length];omega)) rfl rfl ?_;rintro _ w5 ⟨r5,rfl,m5,hw5⟩;have zw5:=hw5.size;have lb5:=bytesOct_le ys;refine ZAnr [6] ?_;have u:=Un (Un (Un (Un (Un u n1.below) hw2) hw3) hw4) hw5;exact Qa rfl rfl ⟨_,rfl,r5,rfl,(m5.more (by omega)).cast (by simp only [ofInnerO,List.append_assoc]),u⟩
theorem ofParentN_any [Lo] {l:PnV} {L:Pn} (hl:IsPn W B l L) (h:Sl W B s xs) (hB:B<=W.heap.size) (hx:xs.length<=10000) (he:L.enc.length<=10000) (hh:L.hash.length<=10000):Calls prog 265 #[.agg (l.cs L),s.v] W fun e W'=>∃ v,e=.returned v/\PutS W (ofParentO L xs) v W':=by
 refine Ze func265 ntmps265 ?_;have u:=Br W;refine Zr<|Zb fun b1 w1 n1=>?_
 have ⟨r1,k1,z1,lt1⟩:=n1.f;refine ZAn [1,2,4] ?_;refine Zr<|Zy 0 ?_
 refine Zv l.enc.v r1 ?_;have hl:=hl.below (Bm n1.below);refine Zc (putBytes_S (Sl.nil _ 0) hl.enc (by omega) (by omega) (by simp only [List.length_nil];omega)) rfl rfl ?_;rintro _ w2 ⟨r2,rfl,m2,hw2⟩;have zw2:=hw2.size;rw [List.nil_append] at m2;have lb2:=bytesOct_le L.enc;refine ZAn [1,2,4,5] ?_;refine ZrM ?_;refine Zy 1 ?_;have r1:=Rb hw2 r1;refine Zv l.hash.v r1 ?_;have hl:=hl.below (Bm hw2);refine Zc (putBytes_S m2 hl.hash (by omega) (by omega) (by omega)) rfl rfl ?_;rintro _ w3 ⟨r3,rfl,m3,hw3⟩;have zw3:=hw3.size;have lb3:=bytesOct_le L.hash;refine ZAn [1,4,5] ?_;refine XR 2 ?_;have h:=((h.below (Bm n1.below)).below (Bm hw2)).below (Bm hw3);refine Zc (putBytes_S m3 h (by omega) (by omega) (by simp only [List.length_append];omega)) rfl rfl ?_;rintro _ w4 ⟨r4,rfl,m4,hw4⟩;have zw4:=hw4.size;have lb4:=bytesOct_le xs;refine ZAnr [4] ?_;have u:=Un (Un (Un (Un u n1.below) hw2) hw3) hw4;exact Qa rfl rfl ⟨_,rfl,r4,rfl,(m4.more (by omega)).cast (by simp only [ofParentO,List.append_assoc]),u⟩
end
end Go.Proofs.YtjjdcnkbibkmkaaGreatDoor
