/-
  The document's example, and a tree of two leaves.
-/
import Derived.Test.YtognnnjdoemgfaaGreatDoorOcGet
import Derived.Test.YtognnnjdoemgfaaGreatDoorTrRef
namespace Go.Proofs.YtognnnjdoemgfaaGreatDoor
open Go.ChangeShapes Go.WideShapes Go.ChangeAt Go.RowKit
set_option linter.unusedVariables false

set_option maxRecDepth 20000
abbrev leaf15:Nd:=⟨1,⟨[7],[],1,[]⟩,Pn.zero⟩
abbrev tree15:List Nd:=[leaf15,Nd.zero,leaf15]
theorem aw15_tree:trAs tree15=tree15:=trAs_ok (of_decide_eq_true (by kernel_rfl))
theorem aw15_nil:opL (trAs [])=[0]:=by
 rw [trAs_ok trIs_nil]
 kernel_rfl
theorem aw15_err:ogE (opL (trAs tree15))=0:=by
 rw [aw15_tree]
 kernel_rfl
theorem aw15_got:ogT (opL (trAs tree15))=tree15:=by
 rw [ogT_ok aw15_err,aw15_tree]
 kernel_rfl
theorem aw15_same:trSame (ogT (opL (trAs tree15))) tree15:=by
 rw [aw15_got]
 exact tr_same _
theorem aw15_empty:ogE [0]=5:=by kernel_rfl
theorem aw15_trail:ogE [1,0]=6:=by kernel_rfl
theorem aw15_named:namedL (trAs tree15):=by
 rw [aw15_tree]
 exact of_decide_eq_true (by kernel_rfl)
set_option maxHeartbeats 4000000 in
theorem awakeO_any (W:World) (rg:Tb W):Calls Tryz.prog 5 #[] W fun e W'=>∃ v,e=.returned v∧v=.bool true∧Below W.heap.size W W':=by
 refine Qf (n:=56) Tryz.func5 rfl Tryz.ntmps5 (by simp) ?_
 show CG _ _ _ [] _ _
 have u:=Below.refl W.heap.size W
 refine ZrA ?_
 refine Zn [0] ?_
 refine Zr ?_
 refine lg_bslice (z:=.int .u8 0) (cs:=#[.int .u8 7]) huo24 (by kernel_rfl) (by decide) (by decide) rfl rfl (by kernel_rfl) rfl rfl (by decide) fun b1 w1 n1=>?_
 have r1:=n1.row
 have k1:=n1.blk
 have z1:=n1.size
 have m1:Sl w1 (b1+1) ⟨some ⟨b1,0,none⟩,1,1⟩ [7]:=⟨Nat.le_refl _,of_decide_eq_true (by kernel_rfl),oct_lit r1 rfl (by decide)⟩
 refine Za (y_build (cs:=(⟨(⟨some ⟨b1,0,none⟩,1,1⟩:SlV),nilS,nilS⟩:LfV).cs (⟨([7]:List Int),[],1,[]⟩:Lf))) ?_
 refine Za (y_build (cs:=(⟨(⟨(⟨some ⟨b1,0,none⟩,1,1⟩:SlV),nilS,nilS⟩:LfV),PnV.zero⟩:NdV).cs (⟨1,(⟨([7]:List Int),[],1,[]⟩:Lf),Pn.zero⟩:Nd))) ?_
 refine lg_allocw (cs:=NdV.zero.cs Nd.zero) Wn rfl (by kernel_rfl) rfl (by decide) fun b2 w2 n2=>?_
 have r2:=n2.row
 have k2:=n2.blk
 have z2:=n2.size
 have lt2:b2<w2.heap.size:=by omega
 have o3:=r2
 refine lg_stw Wn r2 rfl rfl rfl (by kernel_rfl) (by kernel_rfl) rfl rfl fun w3 s3=>?_
 have r2:=s3.row
 have z3:=s3.size
 refine Zn [0,1] ?_
 refine Zr ?_
 refine Za (y_loadA r2) ?_
 refine Za (y_build (cs:=NdV.zero.cs Nd.zero)) ?_
 refine Za (y_loadA r2) ?_
 have m1:=(m1.below (n2.below.mono (by omega))).set o3 rfl s3
 obtain ⟨bs5,hbs5⟩:∃ q,q=w3.heap.size:=⟨_,rfl⟩
 refine lg_bsR [((⟨(⟨(⟨some ⟨b1,0,none⟩,1,1⟩:SlV),nilS,nilS⟩:LfV),PnV.zero⟩:NdV),(⟨1,(⟨([7]:List Int),[],1,[]⟩:Lf),Pn.zero⟩:Nd)),(NdV.zero,Nd.zero),((⟨(⟨(⟨some ⟨b1,0,none⟩,1,1⟩:SlV),nilS,nilS⟩:LfV),PnV.zero⟩:NdV),(⟨1,(⟨([7]:List Int),[],1,[]⟩:Lf),Pn.zero⟩:Nd))] (List.forall_mem_cons.2 ⟨(show IsNd w3 w3.heap.size (⟨(⟨(⟨some ⟨b1,0,none⟩,1,1⟩:SlV),nilS,nilS⟩:LfV),PnV.zero⟩:NdV) (⟨1,(⟨([7]:List Int),[],1,[]⟩:Lf),Pn.zero⟩:Nd) from ⟨(show IsLf w3 w3.heap.size (⟨(⟨some ⟨b1,0,none⟩,1,1⟩:SlV),nilS,nilS⟩:LfV) (⟨([7]:List Int),[],1,[]⟩:Lf) from ⟨(m1.more (B':=w3.heap.size) (by omega)),((Sl.nil _ 0).more (B':=w3.heap.size) (by omega)),((Sl.nil _ 0).more (B':=w3.heap.size) (by omega))⟩),((IsPn.zero _ 0).more (B':=w3.heap.size) (by omega))⟩),(List.forall_mem_cons.2 ⟨((IsNd.zero _ 0).more (B':=w3.heap.size) (by omega)),(List.forall_mem_cons.2 ⟨(show IsNd w3 w3.heap.size (⟨(⟨(⟨some ⟨b1,0,none⟩,1,1⟩:SlV),nilS,nilS⟩:LfV),PnV.zero⟩:NdV) (⟨1,(⟨([7]:List Int),[],1,[]⟩:Lf),Pn.zero⟩:Nd) from ⟨(show IsLf w3 w3.heap.size (⟨(⟨some ⟨b1,0,none⟩,1,1⟩:SlV),nilS,nilS⟩:LfV) (⟨([7]:List Int),[],1,[]⟩:Lf) from ⟨(m1.more (B':=w3.heap.size) (by omega)),((Sl.nil _ 0).more (B':=w3.heap.size) (by omega)),((Sl.nil _ 0).more (B':=w3.heap.size) (by omega))⟩),((IsPn.zero _ 0).more (B':=w3.heap.size) (by omega))⟩),(fun p q=>by cases q)⟩)⟩)⟩) (Nat.le_refl _) Wn rfl rfl (by decide) (by decide) rfl (by kernel_rfl) rfl (by decide) fun s4 w4 f4 g4 l4=>?_
 have g4:=g4.cast (Ms:=([(⟨1,(⟨([7]:List Int),[],1,[]⟩:Lf),Pn.zero⟩:Nd),Nd.zero,(⟨1,(⟨([7]:List Int),[],1,[]⟩:Lf),Pn.zero⟩:Nd)]:List Nd)) rfl
 rw [←hbs5] at g4
 have z4:=l4.size
 refine ZAn [0,2] ?_
 refine ZrM ?_
 refine Zc (putO_any ((g4.rowS (by omega)).more (B':=w4.heap.size) (by omega)) (Nat.le_refl _)) rfl rfl ?_
 rintro _ w6 ⟨r6,rfl,m6,hw6⟩
 have zw6:=hw6.size
 have u:=Un (Un u n1.below) n2.below
 have u:=u.trans (s3.below _ (by omega))
 have u:=Un (Un u l4) hw6
 refine Zc (getO_any (m6.more (B':=w6.heap.size) (by omega)) (Nat.le_refl _) (rg.up u)) rfl rfl ?_
 rintro _ w7 ⟨s7,rfl,m7,hw7⟩
 have zw7:=hw7.size
 refine ZM ?_
 refine Za y_extract ?_
 refine Za y_extract ?_
 refine ZA ?_
 refine ZAn [0,2,3,4] ?_
 refine Zr ?_
 refine lg_bslice (z:=.int .u8 0) (cs:=#[.int .u8 0]) huo24 (by kernel_rfl) (by decide) (by decide) rfl rfl (by kernel_rfl) rfl rfl (by decide) fun b8 w8 n8=>?_
 have r8:=n8.row
 have k8:=n8.blk
 have z8:=n8.size
 have m8:Sl w8 (b8+1) ⟨some ⟨b8,0,none⟩,1,1⟩ [0]:=⟨Nat.le_refl _,of_decide_eq_true (by kernel_rfl),oct_lit r8 rfl (by decide)⟩
 have u:=Un (Un u hw7) n8.below
 refine Zc (getO_any (m8.more (B':=w8.heap.size) (by omega)) (Nat.le_refl _) (rg.up u)) rfl rfl ?_
 rintro _ w9 ⟨s9,rfl,m9,hw9⟩
 have zw9:=hw9.size
 refine ZM ?_
 refine Za y_extract ?_
 refine Za y_extract ?_
 refine ZA ?_
 refine ZAn [0,2,3,4,6] ?_
 refine Zr ?_
 refine lg_bslice (z:=.int .u8 0) (cs:=#[.int .u8 1,.int .u8 0]) huo24 (by kernel_rfl) (by decide) (by decide) rfl rfl (by kernel_rfl) rfl rfl (by decide) fun b10 w10 n10=>?_
 have r10:=n10.row
 have k10:=n10.blk
 have z10:=n10.size
 have m10:Sl w10 (b10+1) ⟨some ⟨b10,0,none⟩,2,2⟩ [1,0]:=⟨Nat.le_refl _,of_decide_eq_true (by kernel_rfl),oct_lit r10 rfl (by decide)⟩
 have u:=Un (Un u hw9) n10.below
 refine Zc (getO_any (m10.more (B':=w10.heap.size) (by omega)) (Nat.le_refl _) (rg.up u)) rfl rfl ?_
 rintro _ w11 ⟨s11,rfl,m11,hw11⟩
 have zw11:=hw11.size
 refine ZM ?_
 refine Za y_extract ?_
 refine Za y_extract ?_
 refine ZA ?_
 refine ZAn [0,2,3,4,6,8] ?_
 refine Zr ?_
 refine Zc (putO_any (RwNd.nil _ _) (Nat.le_refl _)) rfl rfl ?_
 rintro _ w12 ⟨r12,rfl,m12,hw12⟩
 have zw12:=hw12.size
 have by13:Bytes (opL (trAs ([]:List Nd))):=m12.bytes
 refine Za (y_strS m12) ?_
 refine Za (yb (dT (show (opL (trAs ([]:List Nd)))=([0]:List Int) from aw15_nil)) (y_seqS (xs:=(opL (trAs ([]:List Nd)))) (ys:=([0]:List Int)) by13 (by decide) rfl rfl (by kernel_rfl))) ?_
 refine ZM ?_
 refine Zt 35 y_move ?_
 refine Zt 35 (yb (dT (show (ogE (opL (trAs ([(⟨1,(⟨([7]:List Int),[],1,[]⟩:Lf),Pn.zero⟩:Nd),Nd.zero,(⟨1,(⟨([7]:List Int),[],1,[]⟩:Lf),Pn.zero⟩:Nd)]:List Nd))))=0 from aw15_err)) yi_eql) ?_
 refine Za (y_pick true) ?_
 refine ZM ?_
 refine Zt 39 y_move ?_
 refine Zt 39 y_move ?_
 have m7:=(m7.below (n8.below.mono (by omega))).below (hw9.mono (by omega))
 have m7:=((m7.below (n10.below.mono (by omega))).below (hw11.mono (by omega))).below (hw12.mono (by omega))
 have g4:=(g4.keep hw6 (by omega)).keep hw7 (by omega)
 have g4:=(g4.keep n8.below (by omega)).keep hw9 (by omega)
 have g4:=((g4.keep n10.below (by omega)).keep hw11 (by omega)).keep hw12 (by omega)
 refine Zct 39 (sameR_any (m7.more (B':=w12.heap.size) (by omega)) ((g4.rowS (by omega)).more (B':=w12.heap.size) (by omega)) (Nat.le_refl _)) rfl rfl ?_
 rintro u14 w14 ⟨e14,hw14⟩
 have zw14:=hw14.size
 obtain rfl:u14=.bool true:=e14.trans (congrArg Value.bool (decide_eq_true (show trSame (ogT (opL (trAs ([(⟨1,(⟨([7]:List Int),[],1,[]⟩:Lf),Pn.zero⟩:Nd),Nd.zero,(⟨1,(⟨([7]:List Int),[],1,[]⟩:Lf),Pn.zero⟩:Nd)]:List Nd)))) ([(⟨1,(⟨([7]:List Int),[],1,[]⟩:Lf),Pn.zero⟩:Nd),Nd.zero,(⟨1,(⟨([7]:List Int),[],1,[]⟩:Lf),Pn.zero⟩:Nd)]:List Nd) from aw15_same)))
 refine Za (y_pick true) ?_
 refine ZM ?_
 refine Zt 44 y_move ?_
 refine Zt 44 (yb (dT (show (ogE ([0]:List Int))=5 from aw15_empty)) yi_eql) ?_
 refine Za (y_pick true) ?_
 refine ZM ?_
 refine Zt 48 y_move ?_
 refine Zt 48 (yb (dT (show (ogE ([1,0]:List Int))=6 from aw15_trail)) yi_eql) ?_
 refine Za (y_pick true) ?_
 refine ZM ?_
 refine Zt 52 y_move ?_
 have g4:=g4.keep hw14 (by omega)
 have u:=Un (Un (Un u hw11) hw12) hw14
 refine Zct 52 (namedO_any ((g4.rowS (by omega)).more (B':=w14.heap.size) (by omega)) (Nat.le_refl _) (rg.up u)) rfl rfl ?_
 rintro u15 w15 ⟨e15,hw15⟩
 have zw15:=hw15.size
 obtain rfl:u15=.bool true:=e15.trans (congrArg Value.bool (decide_eq_true (show namedL (trAs ([(⟨1,(⟨([7]:List Int),[],1,[]⟩:Lf),Pn.zero⟩:Nd),Nd.zero,(⟨1,(⟨([7]:List Int),[],1,[]⟩:Lf),Pn.zero⟩:Nd)]:List Nd)) from aw15_named)))
 refine Za (y_pick true) ?_
 refine ZAnr [0] ?_
 have u:=Un u hw15
 exact Qa rfl rfl ⟨_,rfl,rfl,u⟩
end Go.Proofs.YtognnnjdoemgfaaGreatDoor
