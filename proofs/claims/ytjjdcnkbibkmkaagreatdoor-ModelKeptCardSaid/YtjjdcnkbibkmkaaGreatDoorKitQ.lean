/-
  KitQ: LfRef, LfRefG, PnRef, NdRef.
-/
import Derived.Test.YtjjdcnkbibkmkaaGreatDoorKitP
namespace Go.Proofs.YtjjdcnkbibkmkaaGreatDoor
open Go.Proofs.Tryz
open Go.ChangeShapes Go.WideShapes Go.ChangeAt Go.RowKit
set_option linter.unusedVariables false
variable {B:Nat} {L:Lf} {W:World}

/- LfRef:
  The document's Few, Check, Same and Put.
-/
theorem few_any {l:LfV} (hl:IsLf W B l L) (hB:B<=W.heap.size):Calls prog 29 #[.agg (l.cs L)] W fun e W'=>∃ v,e=.returned v/\v=.bool (decide (lfFew L))/\Bw W W':=by
 refine Ze func29 ntmps29 ?_;have u:=Br W;refine Zr<|Zb fun b1 w1 n1=>?_
 have ⟨r1,k1,z1,lt1⟩:=n1.f;refine ZAn [1,2] ?_;refine Zr<|Zy 0 ?_
 refine Zv l.enc.v r1 ?_;have hl:=hl.below (Bm n1.below);refine Za (y_lenS (el:=5) hl.enc) ?_;refine Zy 1 ?_;refine Zv l.cred.v r1 ?_;refine Za (y_lenS (el:=5) hl.cred) ?_;refine Za yi_addW ?_;refine Zy 3 ?_;refine Zv l.par.v r1 ?_;refine Za (y_lenS (el:=5) hl.par) ?_;refine Za yi_addW ?_;refine Za yi_leq ?_;refine ZAnr [2] ?_;exact Qw (Un u n1.below)
theorem rsame_any {l m:LfV} {M:Lf} (hl:IsLf W B l L) (hm:IsLf W B m M) (hB:B<=W.heap.size):Calls prog 73 #[.agg (l.cs L),.agg (m.cs M)] W fun e W'=>∃ v,e=.returned v/\v=.bool (decide (LfSame L M))/\Bw W W':=by
 refine Ze func73 ntmps73 ?_;have u:=Br W;refine Zr<|Zb fun b1 w1 n1=>?_
 have ⟨r1,k1,z1,lt1⟩:=n1.f;refine Zb fun b2 w2 n2=>?_;have ⟨r2,k2,z2,lt2⟩:=n2.f;refine ZAn [2,3,4] ?_;refine Zr<|Zy 0 ?_
 have r1:=n2.keep r1;refine Zv l.enc.v r1 ?_;have hl:=(hl.below (Bm n1.below)).below (Bm n2.below);have by3:Bytes L.enc:=hl.enc.bytes;refine Za (y_strS hl.enc) ?_;refine Zy 0 ?_;refine Zv m.enc.v r2 ?_;have hm:=(hm.below (Bm n1.below)).below (Bm n2.below);have by4:Bytes M.enc:=hm.enc.bytes;refine Za (y_strS hm.enc) ?_;refine Zi (y_seqS (xs:=L.enc) (ys:=M.enc) by3 by4) (fun c5=>?_) fun c5=>?_
 ·refine ZM ?_;refine Zx 12 1 ?_;refine Zvt 12 l.cred.v r1 ?_;have by6:Bytes L.cred:=hl.cred.bytes;refine Zt 12 (y_strS hl.cred) ?_;refine Zx 12 1 ?_;refine Zvt 12 m.cred.v r2 ?_;have by7:Bytes M.cred:=hm.cred.bytes;refine Zt 12 (y_strS hm.cred) ?_;refine Zp 12 (y_seqS (xs:=L.cred) (ys:=M.cred) by6 by7) (fun c8=>?_) fun c8=>?_
  ·refine Xa 2 ?_;refine Zx 21 2 ?_;refine Zvt 21 (nv L.src) r1 ?_;refine Zx 21 2 ?_;refine Zvt 21 (nv M.src) r2 ?_;refine Zp 21 yi_eql (fun c9=>?_) fun c9=>?_
   ·refine Xa 2 ?_;refine Zx 28 3 ?_;refine Zvt 28 l.par.v r1 ?_;have by10:Bytes L.par:=hl.par.bytes;refine Zt 28 (y_strS hl.par) ?_;refine Zx 28 3 ?_;refine Zvt 28 m.par.v r2 ?_;have by11:Bytes M.par:=hm.par.bytes;refine Zt 28 (y_strS hm.par) ?_;refine Zp 28 (y_seqS (xs:=L.par) (ys:=M.par) by10 by11) (fun c12=>?_) fun c12=>?_
    ·refine Xu 2 [4] ?_;have u:=Un (Un u n1.below) n2.below;exact Qt (show true=decide (LfSame L M) from (dT (by simp [LfSame, *])).symm) u
    refine Xu 2 [4] ?_;have u:=Un (Un u n1.below) n2.below;exact Qt (show false=decide (LfSame L M) from (dF (by simp [LfSame, *])).symm) u
   refine Xu 11 [4] ?_;have u:=Un (Un u n1.below) n2.below;exact Qt (show false=decide (LfSame L M) from (dF (by simp [LfSame, *])).symm) u
  refine Xu 18 [4] ?_;have u:=Un (Un u n1.below) n2.below;exact Qt (show false=decide (LfSame L M) from (dF (by simp [LfSame, *])).symm) u
 refine Xu 26 [4] ?_;have u:=Un (Un u n1.below) n2.below;exact Qt (show false=decide (LfSame L M) from (dF (by simp [LfSame, *])).symm) u
/- LfRefG:
  The document's Get.
-/
/- PnRef:
  The document's Few, Check, Same, Put and Get.
-/
section
set_option maxHeartbeats 1000000
theorem fewP_any [Lo] {l:PnV} {L:Pn} (hl:IsPn W B l L) (hB:B<=W.heap.size):Calls prog 75 #[.agg (l.cs L)] W fun e W'=>∃ v,e=.returned v/\v=.bool (decide (pnFew L))/\Bw W W':=by
 refine Ze func75 ntmps75 ?_;have u:=Br W;refine Zr<|Zb fun b1 w1 n1=>?_
 have ⟨r1,k1,z1,lt1⟩:=n1.f;refine ZAn [1,2] ?_;refine Zr<|Zy 0 ?_
 refine Zv l.enc.v r1 ?_;have hl:=hl.below (Bm n1.below);refine Za (y_lenS (el:=5) hl.enc) ?_;refine Zy 1 ?_;refine Zv l.hash.v r1 ?_;refine Za (y_lenS (el:=5) hl.hash) ?_;refine Za yi_addW ?_;refine Zy 2 ?_;refine Zv l.unm.v r1 ?_;refine Za (y_lenM (el:=3) hl.unm.len) ?_;refine Za yi_addW ?_;refine Za yi_leq ?_;refine ZAnr [2] ?_;exact Qw (Un u n1.below)
theorem rsameP_any [Lo] {l m:PnV} {L M:Pn} (hl:IsPn W B l L) (hm:IsPn W B m M) (hB:B<=W.heap.size):Calls prog 74 #[.agg (l.cs L),.agg (m.cs M)] W fun e W'=>∃ v,e=.returned v/\v=.bool (decide (PnSame L M))/\Bw W W':=by
 refine Ze func74 ntmps74 ?_;have u:=Br W;refine Zr<|Zb fun b1 w1 n1=>?_
 have ⟨r1,k1,z1,lt1⟩:=n1.f;refine Zb fun b2 w2 n2=>?_;have ⟨r2,k2,z2,lt2⟩:=n2.f;refine ZAn [2,3,4] ?_;refine Zr<|Zy 0 ?_
 have r1:=n2.keep r1;refine Zv l.enc.v r1 ?_;have hl:=(hl.below (Bm n1.below)).below (Bm n2.below);have by3:Bytes L.enc:=hl.enc.bytes;refine Za (y_strS hl.enc) ?_;refine Zy 0 ?_;refine Zv m.enc.v r2 ?_;have hm:=(hm.below (Bm n1.below)).below (Bm n2.below);have by4:Bytes M.enc:=hm.enc.bytes;refine Za (y_strS hm.enc) ?_;refine Zi (y_seqS (xs:=L.enc) (ys:=M.enc) by3 by4) (fun c5=>?_) fun c5=>?_
 ·refine ZM ?_;refine Zx 12 1 ?_;refine Zvt 12 l.hash.v r1 ?_;have by6:Bytes L.hash:=hl.hash.bytes;refine Zt 12 (y_strS hl.hash) ?_;refine Zx 12 1 ?_;refine Zvt 12 m.hash.v r2 ?_;have by7:Bytes M.hash:=hm.hash.bytes;refine Zt 12 (y_strS hm.hash) ?_;refine Zp 12 (y_seqS (xs:=L.hash) (ys:=M.hash) by6 by7) (fun c8=>?_) fun c8=>?_
  ·refine Xa 2 ?_;refine Zx 21 2 ?_;refine Zvt 21 l.unm.v r1 ?_;refine Zx 21 2 ?_;refine Zvt 21 m.unm.v r2 ?_;by_cases c9:L.unm=M.unm
   ·refine Zct 21 (ints_S hl.unm hm.unm (by omega) (by omega)) rfl rfl ?_;rintro u10 w10 ⟨e10,hw10⟩;have zw10:=hw10.size;obtain rfl:u10=.bool true:=e10.trans (congrArg Value.bool (decide_eq_true c9));refine Xu 2 [4] ?_;have u:=Un (Un (Un u n1.below) n2.below) hw10;exact Qt (show true=decide (PnSame L M) from (dT (by simp [PnSame, *])).symm) u
   refine Zct 21 (ints_S hl.unm hm.unm (by omega) (by omega)) rfl rfl ?_;rintro u11 w11 ⟨e11,hw11⟩;have zw11:=hw11.size;obtain rfl:u11=.bool false:=e11.trans (congrArg Value.bool (decide_eq_false c9));refine Xu 2 [4] ?_;have u:=Un (Un (Un u n1.below) n2.below) hw11;exact Qt (show false=decide (PnSame L M) from (dF (by simp [PnSame, *])).symm) u
  refine Xu 9 [4] ?_;have u:=Un (Un u n1.below) n2.below;exact Qt (show false=decide (PnSame L M) from (dF (by simp [PnSame, *])).symm) u
 refine Xu 17 [4] ?_;have u:=Un (Un u n1.below) n2.below;exact Qt (show false=decide (PnSame L M) from (dF (by simp [PnSame, *])).symm) u
end
/- NdRef:
  The document's Few, Check, As, Put, Get, Same, and what is summed up.
-/
section
set_option maxHeartbeats 1000000
theorem fewN_any [Lo] {l:NdV} {L:Nd} (hl:IsNd W B l L) (hB:B<=W.heap.size):Calls prog 43 #[.agg (l.cs L)] W fun e W'=>∃ v,e=.returned v/\v=.bool (decide (ndFew L))/\Bw W W':=by
 refine Ze func43 ntmps43 ?_;have u:=Br W;refine Zr<|Zb fun b1 w1 n1=>?_
 have ⟨r1,k1,z1,lt1⟩:=n1.f;refine ZAn [1,2] ?_;refine Zr<|Zy 1 ?_
 refine Za (Yp 4 r1) ?_;have hl:=hl.below (Bm n1.below);by_cases c2:lfFew L.leaf
 ·refine Zd (few_any (hl.leaf.mW w1) Lr) ?_;rintro u3 w3 ⟨e3,hw3⟩;have zw3:=hw3.size;obtain rfl:u3=.bool true:=e3.trans (congrArg Value.bool (decide_eq_true c2));refine ZM ?_;refine Zx 6 5 ?_;have r1:=Rb hw3 r1;refine Zt 6 (Yp 3 r1) ?_;have hl:=hl.below (Bm hw3);by_cases c4:pnFew L.inner
  ·refine Zdt 6 (fewP_any (hl.inner.mW w3) Lr) ?_;rintro u5 w5 ⟨e5,hw5⟩;have zw5:=hw5.size;obtain rfl:u5=.bool true:=e5.trans (congrArg Value.bool (decide_eq_true c4));refine Xu 2 [2] ?_;have u:=Un (Un (Un u n1.below) hw3) hw5;exact Qt (show true=decide (ndFew L) from (dT (by simp [ndFew,c2,c4])).symm) u
  refine Zdt 6 (fewP_any (hl.inner.mW w3) Lr) ?_;rintro u6 w6 ⟨e6,hw6⟩;have zw6:=hw6.size;obtain rfl:u6=.bool false:=e6.trans (congrArg Value.bool (decide_eq_false c4));refine Xu 2 [2] ?_;have u:=Un (Un (Un u n1.below) hw3) hw6;exact Qt (show false=decide (ndFew L) from (dF (by simp [ndFew,c2,c4])).symm) u
 refine Zd (few_any (hl.leaf.mW w1) Lr) ?_;rintro u7 w7 ⟨e7,hw7⟩;have zw7:=hw7.size;obtain rfl:u7=.bool false:=e7.trans (congrArg Value.bool (decide_eq_false c2));refine Xu 6 [2] ?_;have u:=Un (Un u n1.below) hw7;exact Qt (show false=decide (ndFew L) from (dF (by simp [ndFew,c2])).symm) u
theorem rsameN_any [Lo] {l m:NdV} {L M:Nd} (hl:IsNd W B l L) (hm:IsNd W B m M) (hB:B<=W.heap.size):Calls prog 42 #[.agg (l.cs L),.agg (m.cs M)] W fun e W'=>∃ v,e=.returned v/\v=.bool (decide (NdSame L M))/\Bw W W':=by
 refine Ze func42 ntmps42 ?_;have u:=Br W;refine Zr<|Zb fun b1 w1 n1=>?_
 have ⟨r1,k1,z1,lt1⟩:=n1.f;refine Zb fun b2 w2 n2=>?_;have ⟨r2,k2,z2,lt2⟩:=n2.f;refine ZAn [2,3,4] ?_;refine Zr<|Zy 0 ?_
 have r1:=n2.keep r1;refine Zv (nv L.kind) r1 ?_;refine Zy 0 ?_;refine Zv (nv M.kind) r2 ?_;refine Zi yi_eql (fun c3=>?_) fun c3=>?_
 ·refine ZM ?_;refine Zx 10 1 ?_;refine Zt 10 (Yp 4 r1) ?_;refine Zx 10 1 ?_;refine Zt 10 (Yp 4 r2) ?_;have hl:=(hl.below (Bm n1.below)).below (Bm n2.below);have hm:=(hm.below (Bm n1.below)).below (Bm n2.below);by_cases c4:LfSame L.leaf M.leaf
  ·refine Zdt 10 (rsame_any (hl.leaf.mW w2) (hm.leaf.mW w2) Lr) ?_;rintro u5 w5 ⟨e5,hw5⟩;have zw5:=hw5.size;obtain rfl:u5=.bool true:=e5.trans (congrArg Value.bool (decide_eq_true c4));refine Xa 2 ?_;refine Zx 17 5 ?_;have r1:=Rb hw5 r1;refine Zt 17 (Yp 3 r1) ?_;refine Zx 17 5 ?_;have r2:=Rb hw5 r2;refine Zt 17 (Yp 3 r2) ?_;have hl:=hl.below (Bm hw5);have hm:=hm.below (Bm hw5);by_cases c6:PnSame L.inner M.inner
   ·refine Zdt 17 (rsameP_any (hl.inner.mW w5) (hm.inner.mW w5) Lr) ?_;rintro u7 w7 ⟨e7,hw7⟩;have zw7:=hw7.size;obtain rfl:u7=.bool true:=e7.trans (congrArg Value.bool (decide_eq_true c6));refine Xu 2 [4] ?_;have u:=Un (Un (Un (Un u n1.below) n2.below) hw5) hw7;exact Qt (show true=decide (NdSame L M) from (dT (by simp [NdSame,c3,c4,c6])).symm) u
   refine Zdt 17 (rsameP_any (hl.inner.mW w5) (hm.inner.mW w5) Lr) ?_;rintro u8 w8 ⟨e8,hw8⟩;have zw8:=hw8.size;obtain rfl:u8=.bool false:=e8.trans (congrArg Value.bool (decide_eq_false c6));refine Xu 2 [4] ?_;have u:=Un (Un (Un (Un u n1.below) n2.below) hw5) hw8;exact Qt (show false=decide (NdSame L M) from (dF (by simp [NdSame,c3,c4,c6])).symm) u
  refine Zdt 10 (rsame_any (hl.leaf.mW w2) (hm.leaf.mW w2) Lr) ?_;rintro u9 w9 ⟨e9,hw9⟩;have zw9:=hw9.size;obtain rfl:u9=.bool false:=e9.trans (congrArg Value.bool (decide_eq_false c4));refine Xu 9 [4] ?_;have u:=Un (Un (Un u n1.below) n2.below) hw9;exact Qt (show false=decide (NdSame L M) from (dF (by simp [NdSame,c3,c4])).symm) u
 refine Xu 15 [4] ?_;have u:=Un (Un u n1.below) n2.below;exact Qt (show false=decide (NdSame L M) from (dF (by simp [NdSame,c3])).symm) u
end
end Go.Proofs.YtjjdcnkbibkmkaaGreatDoor
