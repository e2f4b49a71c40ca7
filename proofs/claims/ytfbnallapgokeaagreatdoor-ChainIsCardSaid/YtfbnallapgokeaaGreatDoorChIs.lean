/-
  Of any row, numbers and keys the answers are the document's.
-/
import Derived.Test.YtfbnallapgokeaaGreatDoorChAwake
import Derived.Test.YtfbnallapgokeaaGreatDoorTrRef
namespace Go.Proofs.YtfbnallapgokeaaGreatDoor
open Go.ChangeShapes Go.WideShapes Go.ChangeAt Go.RowKit
set_option linter.unusedVariables false

set_option maxRecDepth 20000
set_option maxHeartbeats 4000000 in
theorem chainIs_any {W:World} {s:SlV} {Ls:List Nd} (h:RwNd W W.heap.size s Ls) (i:Int) {r:SlV} {Ks:List (List Int)} (hk:RwOc W W.heap.size r Ks) (x c d:Int) (rg:Tt W):Calls Tryz.prog 3 #[s.v,nv i,r.v,nv x,nv c,nv d] W fun e W'=>∃ v,e=.returned v∧v=.bool true∧Below W.heap.size W W':=by
 refine calls_cg (n:=98) Tryz.func3 rfl Tryz.ntmps3 (by simp) ?_
 show CG _ _ _ [(0,s.v),(1,nv i),(2,r.v),(3,nv x),(4,nv c),(5,nv d)] _ _
 have u:=Below.refl W.heap.size W
 have q1:=h.len
 have q2:=h.cap
 have q3:=hk.len
 have q4:=hk.cap
 refine ZrA ?_
 refine Zn [0,1,2,3,4,5,12] ?_
 refine Zr ?_
 refine Zc (awakeC_any _ (Tt.up u rg)) rfl rfl ?_
 rintro _ w1 ⟨rfl,hw1⟩
 have zw1:=hw1.size
 refine ZAn [0,1,2,3,4,5,12,13] ?_
 refine cg_seq ?_
 refine ZrM ?_
 have h:=h.below (hw1.mono (by omega))
 by_cases c2:trFew Ls
 ·refine Zc (fewR_any (h.more (B':=w1.heap.size) (by omega)) (Nat.le_refl _)) rfl rfl ?_
  rintro u3 w3 ⟨e3,hw3⟩
  have zw3:=hw3.size
  obtain rfl:u3=.bool true:=e3.trans (congrArg Value.bool (decide_eq_true c2))
  refine Za (y_bnot rfl rfl) ?_
  refine ZM ?_
  refine Zt 24 (y_move rfl rfl) ?_
  have h:=h.below (hw3.mono (by omega))
  refine Zt 24 (y_lenM (el:=43) h.len (by kernel_rfl) rfl rfl) ?_
  by_cases c4:20<(Ls.length:Int)
  ·refine Zt 24 (yb (decide_eq_true c4) (yi_gtr rfl rfl rfl)) ?_
   refine Za (y_pick false rfl rfl rfl) ?_
   refine ZM ?_
   refine Zf 29 ?_
   refine Zf 29 ?_
   refine Zf 29 ?_
   refine Zan (y_pick true rfl rfl rfl) [0,1,2,3,4,5,12,13,33] ?_
   refine cg_ct rfl ?_
   refine ZrM ?_
   refine ZAnr [0,1,2,3,4,5,13,12] ?_
   refine eg_seq_ret ?_
   have u:=Un (Un u hw1) hw3
   exact eg_ret_tmp rfl rfl ⟨_,rfl,rfl,u⟩
  ·refine Zt 24 (yb (decide_eq_false c4) (yi_gtr rfl rfl rfl)) ?_
   refine Za (y_pick false rfl rfl rfl) ?_
   refine ZM ?_
   refine Zt 29 (y_move rfl rfl) ?_
   have hk:=(hk.below (hw1.mono (by omega))).below (hw3.mono (by omega))
   by_cases c5:ocFew Ks
   ·refine Zct 29 (fewO_any (hk.more (B':=w3.heap.size) (by omega)) (Nat.le_refl _)) rfl rfl ?_
    rintro u6 w6 ⟨e6,hw6⟩
    have zw6:=hw6.size
    obtain rfl:u6=.bool true:=e6.trans (congrArg Value.bool (decide_eq_true c5))
    refine Zt 29 (y_bnot rfl rfl) ?_
    refine Zan (y_pick false rfl rfl rfl) [0,1,2,3,4,5,12,13,33] ?_
    refine Zcf [0,1,2,3,4,5,12,13] ?_
    refine ZrM ?_
    refine ZM ?_
    refine ZM ?_
    have hk:=hk.below (hw6.mono (by omega))
    have h:=h.below (hw6.mono (by omega))
    have u:=Un (Un (Un u hw1) hw3) hw6
    refine Zc (plan_any (h.more (B':=w6.heap.size) (by omega)) i (hk.more (B':=w6.heap.size) (by omega)) (Nat.le_refl _) (Tt.up u rg)) rfl rfl ?_
    rintro _ w7 ⟨s7,r7,rfl,m7,n7,hw7⟩
    have zw7:=hw7.size
    have pl7:=planH_le (trAs Ls) i Ks
    refine ZM ?_
    refine Za (y_extract rfl rfl rfl) ?_
    refine Za (y_extract rfl rfl rfl) ?_
    refine Za (y_extract rfl rfl rfl) ?_
    refine ZA ?_
    refine ZA ?_
    refine ZAn [0,1,2,3,4,5,12,13,14,15,16] ?_
    refine ZrM ?_
    refine ZM ?_
    refine ZM ?_
    have hk:=hk.below (hw7.mono (by omega))
    have h:=h.below (hw7.mono (by omega))
    have u:=Un u hw7
    refine Zc (rplan_any (h.more (B':=w7.heap.size) (by omega)) i (hk.more (B':=w7.heap.size) (by omega)) (Nat.le_refl _) (Tt.up u rg).b) rfl rfl ?_
    rintro _ w8 ⟨s8,r8,rfl,m8,n8,hw8⟩
    have zw8:=hw8.size
    have pl8:=planH_le (trAs Ls) i Ks
    refine ZM ?_
    refine Za (y_extract rfl rfl rfl) ?_
    refine Za (y_extract rfl rfl rfl) ?_
    refine Za (y_extract rfl rfl rfl) ?_
    refine ZA ?_
    refine ZA ?_
    refine ZAn [0,3,4,5,12,13,14,15,16,17,18,19] ?_
    refine ZrM ?_
    refine ZM ?_
    refine Zt 52 (y_move rfl rfl) ?_
    refine Zt 52 (y_move rfl rfl) ?_
    have m7:=m7.below (hw8.mono (by omega))
    refine Zct 52 (sameR_any (m7.more (B':=w8.heap.size) (by omega)) (m8.more (B':=w8.heap.size) (by omega)) (Nat.le_refl _)) rfl rfl ?_
    rintro u9 w9 ⟨e9,hw9⟩
    have zw9:=hw9.size
    obtain rfl:u9=.bool true:=e9.trans (congrArg Value.bool (decide_eq_true (tr_same _)))
    refine Za (y_pick true rfl rfl rfl) ?_
    refine ZM ?_
    refine Zt 57 (y_move rfl rfl) ?_
    have n7:=(n7.below (hw8.mono (by omega))).below (hw9.mono (by omega))
    have by10:Bytes (planH (trAs Ls) i Ks):=n7.bytes
    refine Zt 57 (y_strS n7 rfl rfl) ?_
    refine Zt 57 (y_move rfl rfl) ?_
    have n8:=n8.below (hw9.mono (by omega))
    have by11:Bytes (planH (trAs Ls) i Ks):=n8.bytes
    refine Zt 57 (y_strS n8 rfl rfl) ?_
    refine Zt 57 (yb (decide_eq_true rfl) (y_seqS (xs:=(planH (trAs Ls) i Ks)) (ys:=(planH (trAs Ls) i Ks)) by10 by11 rfl rfl rfl)) ?_
    refine Za (y_pick true rfl rfl rfl) ?_
    refine ZM ?_
    refine Zt 64 (y_move rfl rfl) ?_
    refine Zt 64 (y_move rfl rfl) ?_
    refine Zt 64 (yb (decide_eq_true rfl) (yi_eql rfl rfl rfl)) ?_
    refine Za (y_pick true rfl rfl rfl) ?_
    refine ZM ?_
    refine Zt 69 (y_move rfl rfl) ?_
    refine Zt 69 (y_move rfl rfl) ?_
    refine Zt 69 (y_move rfl rfl) ?_
    refine Zt 69 (y_move rfl rfl) ?_
    have h:=(h.below (hw8.mono (by omega))).below (hw9.mono (by omega))
    have u:=Un (Un u hw8) hw9
    by_cases c12:linkL (trAs Ls) x c d
    ·refine Zct 69 (link_any (h.more (B':=w9.heap.size) (by omega)) x c d (Nat.le_refl _) (Tt.up u rg)) rfl rfl ?_
     rintro u13 w13 ⟨e13,hw13⟩
     have zw13:=hw13.size
     obtain rfl:u13=.bool true:=e13.trans (congrArg Value.bool (decide_eq_true c12))
     refine Zt 69 (y_move rfl rfl) ?_
     refine Zt 69 (y_move rfl rfl) ?_
     refine Zt 69 (y_move rfl rfl) ?_
     refine Zt 69 (y_move rfl rfl) ?_
     have h:=h.below (hw13.mono (by omega))
     have u:=Un u hw13
     refine Zct 69 (rlink_any (h.more (B':=w13.heap.size) (by omega)) x c d (Nat.le_refl _) (Tt.up u rg).b) rfl rfl ?_
     rintro u14 w14 ⟨e14,hw14⟩
     have zw14:=hw14.size
     obtain rfl:u14=.bool true:=e14.trans (congrArg Value.bool (decide_eq_true c12))
     refine Zt 69 (yb (b:=(true == true)) (show (true == true)=true from rfl) (y_beq (a:=true) (b:=true) hubo rfl rfl rfl)) ?_
     refine Za (y_pick true rfl rfl rfl) ?_
     refine ZM ?_
     refine Zt 82 (y_move rfl rfl) ?_
     refine Zt 82 (y_move rfl rfl) ?_
     have h:=h.below (hw14.mono (by omega))
     have u:=Un u hw14
     by_cases c15:validL (trAs Ls) x
     ·refine Zct 82 (valid_any (h.more (B':=w14.heap.size) (by omega)) x (Nat.le_refl _) (Tt.up u rg)) rfl rfl ?_
      rintro u16 w16 ⟨e16,hw16⟩
      have zw16:=hw16.size
      obtain rfl:u16=.bool true:=e16.trans (congrArg Value.bool (decide_eq_true c15))
      refine Zt 82 (y_move rfl rfl) ?_
      refine Zt 82 (y_move rfl rfl) ?_
      have h:=h.below (hw16.mono (by omega))
      have u:=Un u hw16
      refine Zct 82 (rvalid_any (h.more (B':=w16.heap.size) (by omega)) x (Nat.le_refl _) (Tt.up u rg).b) rfl rfl ?_
      rintro u17 w17 ⟨e17,hw17⟩
      have zw17:=hw17.size
      obtain rfl:u17=.bool true:=e17.trans (congrArg Value.bool (decide_eq_true c15))
      refine Zt 82 (yb (b:=(true == true)) (show (true == true)=true from rfl) (y_beq (a:=true) (b:=true) hubo rfl rfl rfl)) ?_
      refine Za (y_pick true rfl rfl rfl) ?_
      refine ZM ?_
      refine Zt 91 (y_move rfl rfl) ?_
      have h:=h.below (hw17.mono (by omega))
      have u:=Un u hw17
      by_cases c18:verL (trAs Ls)
      ·refine Zct 91 (verify_any (h.more (B':=w17.heap.size) (by omega)) (Nat.le_refl _) (Tt.up u rg)) rfl rfl ?_
       rintro u19 w19 ⟨e19,hw19⟩
       have zw19:=hw19.size
       obtain rfl:u19=.bool true:=e19.trans (congrArg Value.bool (decide_eq_true c18))
       refine Zt 91 (y_move rfl rfl) ?_
       have h:=h.below (hw19.mono (by omega))
       have u:=Un u hw19
       refine Zct 91 (rverify_any (h.more (B':=w19.heap.size) (by omega)) (Nat.le_refl _) (Tt.up u rg).b) rfl rfl ?_
       rintro u20 w20 ⟨e20,hw20⟩
       have zw20:=hw20.size
       obtain rfl:u20=.bool true:=e20.trans (congrArg Value.bool (decide_eq_true c18))
       refine Zt 91 (yb (b:=(true == true)) (show (true == true)=true from rfl) (y_beq (a:=true) (b:=true) hubo rfl rfl rfl)) ?_
       refine Za (y_pick true rfl rfl rfl) ?_
       refine ZAnr [12] ?_
       have u:=Un u hw20
       exact eg_ret_tmp rfl rfl ⟨_,rfl,rfl,u⟩
      ·refine Zct 91 (verify_any (h.more (B':=w17.heap.size) (by omega)) (Nat.le_refl _) (Tt.up u rg)) rfl rfl ?_
       rintro u21 w21 ⟨e21,hw21⟩
       have zw21:=hw21.size
       obtain rfl:u21=.bool false:=e21.trans (congrArg Value.bool (decide_eq_false c18))
       refine Zt 91 (y_move rfl rfl) ?_
       have h:=h.below (hw21.mono (by omega))
       have u:=Un u hw21
       refine Zct 91 (rverify_any (h.more (B':=w21.heap.size) (by omega)) (Nat.le_refl _) (Tt.up u rg).b) rfl rfl ?_
       rintro u22 w22 ⟨e22,hw22⟩
       have zw22:=hw22.size
       obtain rfl:u22=.bool false:=e22.trans (congrArg Value.bool (decide_eq_false c18))
       refine Zt 91 (yb (b:=(false == false)) (show (false == false)=true from rfl) (y_beq (a:=false) (b:=false) hubo rfl rfl rfl)) ?_
       refine Za (y_pick true rfl rfl rfl) ?_
       refine ZAnr [12] ?_
       have u:=Un u hw22
       exact eg_ret_tmp rfl rfl ⟨_,rfl,rfl,u⟩
     ·refine Zct 82 (valid_any (h.more (B':=w14.heap.size) (by omega)) x (Nat.le_refl _) (Tt.up u rg)) rfl rfl ?_
      rintro u23 w23 ⟨e23,hw23⟩
      have zw23:=hw23.size
      obtain rfl:u23=.bool false:=e23.trans (congrArg Value.bool (decide_eq_false c15))
      refine Zt 82 (y_move rfl rfl) ?_
      refine Zt 82 (y_move rfl rfl) ?_
      have h:=h.below (hw23.mono (by omega))
      have u:=Un u hw23
      refine Zct 82 (rvalid_any (h.more (B':=w23.heap.size) (by omega)) x (Nat.le_refl _) (Tt.up u rg).b) rfl rfl ?_
      rintro u24 w24 ⟨e24,hw24⟩
      have zw24:=hw24.size
      obtain rfl:u24=.bool false:=e24.trans (congrArg Value.bool (decide_eq_false c15))
      refine Zt 82 (yb (b:=(false == false)) (show (false == false)=true from rfl) (y_beq (a:=false) (b:=false) hubo rfl rfl rfl)) ?_
      refine Za (y_pick true rfl rfl rfl) ?_
      refine ZM ?_
      refine Zt 91 (y_move rfl rfl) ?_
      have h:=h.below (hw24.mono (by omega))
      have u:=Un u hw24
      by_cases c25:verL (trAs Ls)
      ·refine Zct 91 (verify_any (h.more (B':=w24.heap.size) (by omega)) (Nat.le_refl _) (Tt.up u rg)) rfl rfl ?_
       rintro u26 w26 ⟨e26,hw26⟩
       have zw26:=hw26.size
       obtain rfl:u26=.bool true:=e26.trans (congrArg Value.bool (decide_eq_true c25))
       refine Zt 91 (y_move rfl rfl) ?_
       have h:=h.below (hw26.mono (by omega))
       have u:=Un u hw26
       refine Zct 91 (rverify_any (h.more (B':=w26.heap.size) (by omega)) (Nat.le_refl _) (Tt.up u rg).b) rfl rfl ?_
       rintro u27 w27 ⟨e27,hw27⟩
       have zw27:=hw27.size
       obtain rfl:u27=.bool true:=e27.trans (congrArg Value.bool (decide_eq_true c25))
       refine Zt 91 (yb (b:=(true == true)) (show (true == true)=true from rfl) (y_beq (a:=true) (b:=true) hubo rfl rfl rfl)) ?_
       refine Za (y_pick true rfl rfl rfl) ?_
       refine ZAnr [12] ?_
       have u:=Un u hw27
       exact eg_ret_tmp rfl rfl ⟨_,rfl,rfl,u⟩
      ·refine Zct 91 (verify_any (h.more (B':=w24.heap.size) (by omega)) (Nat.le_refl _) (Tt.up u rg)) rfl rfl ?_
       rintro u28 w28 ⟨e28,hw28⟩
       have zw28:=hw28.size
       obtain rfl:u28=.bool false:=e28.trans (congrArg Value.bool (decide_eq_false c25))
       refine Zt 91 (y_move rfl rfl) ?_
       have h:=h.below (hw28.mono (by omega))
       have u:=Un u hw28
       refine Zct 91 (rverify_any (h.more (B':=w28.heap.size) (by omega)) (Nat.le_refl _) (Tt.up u rg).b) rfl rfl ?_
       rintro u29 w29 ⟨e29,hw29⟩
       have zw29:=hw29.size
       obtain rfl:u29=.bool false:=e29.trans (congrArg Value.bool (decide_eq_false c25))
       refine Zt 91 (yb (b:=(false == false)) (show (false == false)=true from rfl) (y_beq (a:=false) (b:=false) hubo rfl rfl rfl)) ?_
       refine Za (y_pick true rfl rfl rfl) ?_
       refine ZAnr [12] ?_
       have u:=Un u hw29
       exact eg_ret_tmp rfl rfl ⟨_,rfl,rfl,u⟩
    ·refine Zct 69 (link_any (h.more (B':=w9.heap.size) (by omega)) x c d (Nat.le_refl _) (Tt.up u rg)) rfl rfl ?_
     rintro u30 w30 ⟨e30,hw30⟩
     have zw30:=hw30.size
     obtain rfl:u30=.bool false:=e30.trans (congrArg Value.bool (decide_eq_false c12))
     refine Zt 69 (y_move rfl rfl) ?_
     refine Zt 69 (y_move rfl rfl) ?_
     refine Zt 69 (y_move rfl rfl) ?_
     refine Zt 69 (y_move rfl rfl) ?_
     have h:=h.below (hw30.mono (by omega))
     have u:=Un u hw30
     refine Zct 69 (rlink_any (h.more (B':=w30.heap.size) (by omega)) x c d (Nat.le_refl _) (Tt.up u rg).b) rfl rfl ?_
     rintro u31 w31 ⟨e31,hw31⟩
     have zw31:=hw31.size
     obtain rfl:u31=.bool false:=e31.trans (congrArg Value.bool (decide_eq_false c12))
     refine Zt 69 (yb (b:=(false == false)) (show (false == false)=true from rfl) (y_beq (a:=false) (b:=false) hubo rfl rfl rfl)) ?_
     refine Za (y_pick true rfl rfl rfl) ?_
     refine ZM ?_
     refine Zt 82 (y_move rfl rfl) ?_
     refine Zt 82 (y_move rfl rfl) ?_
     have h:=h.below (hw31.mono (by omega))
     have u:=Un u hw31
     by_cases c32:validL (trAs Ls) x
     ·refine Zct 82 (valid_any (h.more (B':=w31.heap.size) (by omega)) x (Nat.le_refl _) (Tt.up u rg)) rfl rfl ?_
      rintro u33 w33 ⟨e33,hw33⟩
      have zw33:=hw33.size
      obtain rfl:u33=.bool true:=e33.trans (congrArg Value.bool (decide_eq_true c32))
      refine Zt 82 (y_move rfl rfl) ?_
      refine Zt 82 (y_move rfl rfl) ?_
      have h:=h.below (hw33.mono (by omega))
      have u:=Un u hw33
      refine Zct 82 (rvalid_any (h.more (B':=w33.heap.size) (by omega)) x (Nat.le_refl _) (Tt.up u rg).b) rfl rfl ?_
      rintro u34 w34 ⟨e34,hw34⟩
      have zw34:=hw34.size
      obtain rfl:u34=.bool true:=e34.trans (congrArg Value.bool (decide_eq_true c32))
      refine Zt 82 (yb (b:=(true == true)) (show (true == true)=true from rfl) (y_beq (a:=true) (b:=true) hubo rfl rfl rfl)) ?_
      refine Za (y_pick true rfl rfl rfl) ?_
      refine ZM ?_
      refine Zt 91 (y_move rfl rfl) ?_
      have h:=h.below (hw34.mono (by omega))
      have u:=Un u hw34
      by_cases c35:verL (trAs Ls)
      ·refine Zct 91 (verify_any (h.more (B':=w34.heap.size) (by omega)) (Nat.le_refl _) (Tt.up u rg)) rfl rfl ?_
       rintro u36 w36 ⟨e36,hw36⟩
       have zw36:=hw36.size
       obtain rfl:u36=.bool true:=e36.trans (congrArg Value.bool (decide_eq_true c35))
       refine Zt 91 (y_move rfl rfl) ?_
       have h:=h.below (hw36.mono (by omega))
       have u:=Un u hw36
       refine Zct 91 (rverify_any (h.more (B':=w36.heap.size) (by omega)) (Nat.le_refl _) (Tt.up u rg).b) rfl rfl ?_
       rintro u37 w37 ⟨e37,hw37⟩
       have zw37:=hw37.size
       obtain rfl:u37=.bool true:=e37.trans (congrArg Value.bool (decide_eq_true c35))
       refine Zt 91 (yb (b:=(true == true)) (show (true == true)=true from rfl) (y_beq (a:=true) (b:=true) hubo rfl rfl rfl)) ?_
       refine Za (y_pick true rfl rfl rfl) ?_
       refine ZAnr [12] ?_
       have u:=Un u hw37
       exact eg_ret_tmp rfl rfl ⟨_,rfl,rfl,u⟩
      ·refine Zct 91 (verify_any (h.more (B':=w34.heap.size) (by omega)) (Nat.le_refl _) (Tt.up u rg)) rfl rfl ?_
       rintro u38 w38 ⟨e38,hw38⟩
       have zw38:=hw38.size
       obtain rfl:u38=.bool false:=e38.trans (congrArg Value.bool (decide_eq_false c35))
       refine Zt 91 (y_move rfl rfl) ?_
       have h:=h.below (hw38.mono (by omega))
       have u:=Un u hw38
       refine Zct 91 (rverify_any (h.more (B':=w38.heap.size) (by omega)) (Nat.le_refl _) (Tt.up u rg).b) rfl rfl ?_
       rintro u39 w39 ⟨e39,hw39⟩
       have zw39:=hw39.size
       obtain rfl:u39=.bool false:=e39.trans (congrArg Value.bool (decide_eq_false c35))
       refine Zt 91 (yb (b:=(false == false)) (show (false == false)=true from rfl) (y_beq (a:=false) (b:=false) hubo rfl rfl rfl)) ?_
       refine Za (y_pick true rfl rfl rfl) ?_
       refine ZAnr [12] ?_
       have u:=Un u hw39
       exact eg_ret_tmp rfl rfl ⟨_,rfl,rfl,u⟩
     ·refine Zct 82 (valid_any (h.more (B':=w31.heap.size) (by omega)) x (Nat.le_refl _) (Tt.up u rg)) rfl rfl ?_
      rintro u40 w40 ⟨e40,hw40⟩
      have zw40:=hw40.size
      obtain rfl:u40=.bool false:=e40.trans (congrArg Value.bool (decide_eq_false c32))
      refine Zt 82 (y_move rfl rfl) ?_
      refine Zt 82 (y_move rfl rfl) ?_
      have h:=h.below (hw40.mono (by omega))
      have u:=Un u hw40
      refine Zct 82 (rvalid_any (h.more (B':=w40.heap.size) (by omega)) x (Nat.le_refl _) (Tt.up u rg).b) rfl rfl ?_
      rintro u41 w41 ⟨e41,hw41⟩
      have zw41:=hw41.size
      obtain rfl:u41=.bool false:=e41.trans (congrArg Value.bool (decide_eq_false c32))
      refine Zt 82 (yb (b:=(false == false)) (show (false == false)=true from rfl) (y_beq (a:=false) (b:=false) hubo rfl rfl rfl)) ?_
      refine Za (y_pick true rfl rfl rfl) ?_
      refine ZM ?_
      refine Zt 91 (y_move rfl rfl) ?_
      have h:=h.below (hw41.mono (by omega))
      have u:=Un u hw41
      by_cases c42:verL (trAs Ls)
      ·refine Zct 91 (verify_any (h.more (B':=w41.heap.size) (by omega)) (Nat.le_refl _) (Tt.up u rg)) rfl rfl ?_
       rintro u43 w43 ⟨e43,hw43⟩
       have zw43:=hw43.size
       obtain rfl:u43=.bool true:=e43.trans (congrArg Value.bool (decide_eq_true c42))
       refine Zt 91 (y_move rfl rfl) ?_
       have h:=h.below (hw43.mono (by omega))
       have u:=Un u hw43
       refine Zct 91 (rverify_any (h.more (B':=w43.heap.size) (by omega)) (Nat.le_refl _) (Tt.up u rg).b) rfl rfl ?_
       rintro u44 w44 ⟨e44,hw44⟩
       have zw44:=hw44.size
       obtain rfl:u44=.bool true:=e44.trans (congrArg Value.bool (decide_eq_true c42))
       refine Zt 91 (yb (b:=(true == true)) (show (true == true)=true from rfl) (y_beq (a:=true) (b:=true) hubo rfl rfl rfl)) ?_
       refine Za (y_pick true rfl rfl rfl) ?_
       refine ZAnr [12] ?_
       have u:=Un u hw44
       exact eg_ret_tmp rfl rfl ⟨_,rfl,rfl,u⟩
      ·refine Zct 91 (verify_any (h.more (B':=w41.heap.size) (by omega)) (Nat.le_refl _) (Tt.up u rg)) rfl rfl ?_
       rintro u45 w45 ⟨e45,hw45⟩
       have zw45:=hw45.size
       obtain rfl:u45=.bool false:=e45.trans (congrArg Value.bool (decide_eq_false c42))
       refine Zt 91 (y_move rfl rfl) ?_
       have h:=h.below (hw45.mono (by omega))
       have u:=Un u hw45
       refine Zct 91 (rverify_any (h.more (B':=w45.heap.size) (by omega)) (Nat.le_refl _) (Tt.up u rg).b) rfl rfl ?_
       rintro u46 w46 ⟨e46,hw46⟩
       have zw46:=hw46.size
       obtain rfl:u46=.bool false:=e46.trans (congrArg Value.bool (decide_eq_false c42))
       refine Zt 91 (yb (b:=(false == false)) (show (false == false)=true from rfl) (y_beq (a:=false) (b:=false) hubo rfl rfl rfl)) ?_
       refine Za (y_pick true rfl rfl rfl) ?_
       refine ZAnr [12] ?_
       have u:=Un u hw46
       exact eg_ret_tmp rfl rfl ⟨_,rfl,rfl,u⟩
   ·refine Zct 29 (fewO_any (hk.more (B':=w3.heap.size) (by omega)) (Nat.le_refl _)) rfl rfl ?_
    rintro u47 w47 ⟨e47,hw47⟩
    have zw47:=hw47.size
    obtain rfl:u47=.bool false:=e47.trans (congrArg Value.bool (decide_eq_false c5))
    refine Zt 29 (y_bnot rfl rfl) ?_
    refine Zan (y_pick false rfl rfl rfl) [0,1,2,3,4,5,12,13,33] ?_
    refine cg_ct rfl ?_
    refine ZrM ?_
    refine ZAnr [0,1,2,3,4,5,13,12] ?_
    refine eg_seq_ret ?_
    have u:=Un (Un (Un u hw1) hw3) hw47
    exact eg_ret_tmp rfl rfl ⟨_,rfl,rfl,u⟩
 ·refine Zc (fewR_any (h.more (B':=w1.heap.size) (by omega)) (Nat.le_refl _)) rfl rfl ?_
  rintro u48 w48 ⟨e48,hw48⟩
  have zw48:=hw48.size
  obtain rfl:u48=.bool false:=e48.trans (congrArg Value.bool (decide_eq_false c2))
  refine Za (y_bnot rfl rfl) ?_
  refine ZM ?_
  refine Zf 24 ?_
  refine Zf 24 ?_
  refine Zf 24 ?_
  refine Za (y_pick true rfl rfl rfl) ?_
  refine ZM ?_
  refine Zf 29 ?_
  refine Zf 29 ?_
  refine Zf 29 ?_
  refine Zan (y_pick true rfl rfl rfl) [0,1,2,3,4,5,12,13,33] ?_
  refine cg_ct rfl ?_
  refine ZrM ?_
  refine ZAnr [0,1,2,3,4,5,13,12] ?_
  refine eg_seq_ret ?_
  have u:=Un (Un u hw1) hw48
  exact eg_ret_tmp rfl rfl ⟨_,rfl,rfl,u⟩
end Go.Proofs.YtfbnallapgokeaaGreatDoor
