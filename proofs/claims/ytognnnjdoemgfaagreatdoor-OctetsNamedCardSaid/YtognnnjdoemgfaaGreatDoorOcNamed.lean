/-
  Who is dropped is named by nobody.
-/
import Derived.Test.YtognnnjdoemgfaaGreatDoorOcAwake
import Derived.Test.YtognnnjdoemgfaaGreatDoorTrRef
import Derived.Test.YtognnnjdoemgfaaGreatDoorOcMore
import Derived.Test.YtognnnjdoemgfaaGreatDoorKitD
namespace Go.Proofs.YtognnnjdoemgfaaGreatDoor
open Go.ChangeShapes Go.WideShapes Go.ChangeAt Go.RowKit
set_option linter.unusedVariables false

set_option maxRecDepth 20000
set_option maxHeartbeats 4000000 in
theorem octetsNamed_any {W:World} {s:SlV} {Ls:List Nd} (h:RwNd W W.heap.size s Ls) (rg:Tb W):Calls Tryz.prog 4 #[s.v] W fun e W'=>∃ v,e=.returned v∧v=.bool true∧Below W.heap.size W W':=by
 refine Qf (n:=72) Tryz.func4 rfl Tryz.ntmps4 (by simp) ?_
 show CG _ _ _ [(0,s.v)] _ _
 have u:=Below.refl W.heap.size W
 have q1:=h.len
 have q2:=h.cap
 refine ZrA ?_
 refine Zn [0,2] ?_
 refine Zr ?_
 refine Zc (awakeO_any _ (rg.up u)) rfl rfl ?_
 rintro _ w1 ⟨rfl,hw1⟩
 have zw1:=hw1.size
 refine ZAn [0,2,3] ?_
 refine Qd ?_
 refine ZrM ?_
 have h:=h.below (hw1.mono (by omega))
 by_cases c2:trFew Ls
 ·refine Zc (fewR_any (h.more (B':=w1.heap.size) (by omega)) (Nat.le_refl _)) rfl rfl ?_
  rintro u3 w3 ⟨e3,hw3⟩
  have zw3:=hw3.size
  obtain rfl:u3=.bool true:=e3.trans (congrArg Value.bool (decide_eq_true c2))
  refine Za y_bnot ?_
  refine ZM ?_
  refine Zt 13 y_move ?_
  have h:=h.below (hw3.mono (by omega))
  by_cases c4:trIs Ls
  ·have htr:=c4
   have htl:=trIs_le htr
   have hta:=trAs_ok htr
   refine Zct 13 (sane_any (h.more (B':=w3.heap.size) (by omega)) (Nat.le_refl _)) rfl rfl ?_
   rintro u5 w5 ⟨e5,hw5⟩
   have zw5:=hw5.size
   obtain rfl:u5=.bool true:=e5.trans (congrArg Value.bool (decide_eq_true c4))
   refine Zt 13 y_bnot ?_
   refine Zan (y_pick false) [0,2,3,17] ?_
   refine Zcf [0,2,3] ?_
   refine ZrA ?_
   refine Zn [0,2,3,4] ?_
   refine ZrA ?_
   refine Zn [0,2,3,4,5] ?_
   refine Qd ?_
   refine ZrA ?_
   refine Zn [0,2,3,4,5,6] ?_
   refine Qj ?_
   obtain ⟨C,hC⟩:∃ q,q=w5.heap.size:=⟨_,rfl⟩
   have h:=h.below (hw5.mono (by omega))
   have u:=Un (Un (Un u hw1) hw3) hw5
   refine Qr (fun t a v=>∃ (qr:SlV) (bi:Bool),Holds 72 [(0,s.v),(3,.bool true),(4,qr.v),(5,.bool bi),(6,nv ((t:Nat):Int))] a∧RwNd v W.heap.size s Ls∧Below W.heap.size W v∧C≤v.heap.size∧W.heap.size≤C∧v.ownsRow C 3 1 qr.v (namL (Ls.take t)).length ((namL (Ls.take t)).map (Value.int .i64))∧t≤Ls.length∧(bi=true↔(∃ j,j<t∧(atN Ls j).kind=2))) (Ls.length+1) (fun a ha=>⟨nilS,false,ha.keep (fk rfl (fk rfl (fk rfl (fk rfl (fk rfl fn))))),h,u,(Nat.le_of_eq hC),(by omega),(own_nilN _ _),(Nat.zero_le _),⟨(fun q=>by cases q),fun ⟨j,hj,_⟩=>absurd hj (Nat.not_lt_zero _)⟩⟩) ?_
   rintro t a v ht ⟨qr,bi,ha,h,u,cC,cW,g0,tle,fi⟩
   refine cg_at ha ?_
   clear ha a
   have zv:=u.size
   have q1:=h.len
   have q2:=h.cap
   have hnl:=nam_le htr t tle
   refine Qd ?_
   refine ZrM ?_
   refine ZM ?_
   refine Za (y_lenM (el:=38) h.len) ?_
   by_cases c6:((t:Nat):Int)<(Ls.length:Int)
   ·refine Zan (yb (dT c6) yi_lss) [0,3,4,5,6,22] ?_
    refine cg_ct rfl ?_
    refine Zki [0,3,4,5,6] ?_
    refine Qd ?_
    refine Qj ?_
    refine Qd ?_
    have htn:t<Ls.length:=by omega
    have hul:=(unmT_ok htr t).2.1
    obtain ⟨ebz7,eoz7,elz7,eLz7,eAz7,eBz7,egz7,ehz7,ecz7⟩:=h.at (t) (by have:=h.len;omega)
    have enz7:eLz7=atN Ls (t):=(atN_some egz7).symm
    subst enz7
    refine Qe ?_
    refine ZM ?_
    refine ZM ?_
    refine ZM ?_
    obtain ⟨eb8,eo8,el8,eL8,eA8,eB8,eg8,eh8,ec8⟩:=h.at (t) (by have:=h.len;omega)
    obtain rfl:(atN Ls t)=eL8:=Option.some.inj (egz7.symm.trans eg8)
    refine Za (y_ixR (s:=s) (el:=38) (k:=8) (i:=t) (iI:=((t:Nat):Int)) eA8 (by kernel_rfl) (by kernel_rfl) (by omega) (by have:=h.len;omega) rfl rfl rfl) ?_
    refine Za (y_fld (off:=5)) ?_
    refine Za (y_fld (off:=2)) ?_
    refine Za (y_celld (ec8 7 _ rfl)) ?_
    refine lg_appT g0 eh8.inner.unm (by first | omega | (simp only [List.length_append,List.length_cons,List.length_nil];omega)) (by omega) Wn rfl rfl rfl rfl rfl (by decide) fun r9 w9 m9 g9 l9 z9=>?_
    refine ZAn [0,3,5,6,4] ?_
    refine Qe ?_
    cases bi
    ·refine ZM ?_
     refine ZM ?_
     refine Zt 34 y_move ?_
     refine Zt 34 y_move ?_
     have h:=h.below (l9.mono (by omega))
     obtain ⟨eb10,eo10,el10,eL10,eA10,eB10,eg10,eh10,ec10⟩:=h.at (t) (by have:=h.len;omega)
     obtain rfl:(atN Ls t)=eL10:=Option.some.inj (egz7.symm.trans eg10)
     refine Zt 34 (y_ixR (s:=s) (el:=38) (k:=8) (i:=t) (iI:=((t:Nat):Int)) eA10 (by kernel_rfl) (by kernel_rfl) (by omega) (by have:=h.len;omega) rfl rfl rfl) ?_
     refine Zt 34 (y_fld (off:=0)) ?_
     refine Zt 34 (y_celld (ec10 0 _ rfl)) ?_
     by_cases c11:(atN Ls t).kind=2
     ·refine Zt 34 (yb (dT c11) yi_eql) ?_
      refine Za (y_pick false) ?_
      refine ZA ?_
      refine Qk ?_
      refine Qi ?_
      refine Nx [0,3,6,4,5] ?_
      refine Qe ?_
      refine ZM ?_
      refine Za (yv (congrArg nv (show ((t:Nat):Int)+1=((t+1:Nat):Int) by omega)) (yi_add rfl rfl rfl (by omega) (by omega))) ?_
      refine ZA ?_
      refine Qk ?_
      have u:=u.trans (l9.mono (by omega))
      exact fun a ha=>(show t<(Ls.length+1)∧_ from ⟨(by omega),r9,true,ha.keep (fk rfl (fk rfl (fk rfl (fk rfl (fk rfl fn))))),h,u,(by omega),cW,(own_castN g9 (by rw [nam_step htn])),(by omega),⟨fun _=>⟨t,by omega,c11⟩,fun _=>rfl⟩⟩)
     refine Zt 34 (yb (dF c11) yi_eql) ?_
     refine Za (y_pick false) ?_
     refine ZA ?_
     refine Qk ?_
     refine Qi ?_
     refine Nx [0,3,6,4,5] ?_
     refine Qe ?_
     refine ZM ?_
     refine Za (yv (congrArg nv (show ((t:Nat):Int)+1=((t+1:Nat):Int) by omega)) (yi_add rfl rfl rfl (by omega) (by omega))) ?_
     refine ZA ?_
     refine Qk ?_
     have u:=u.trans (l9.mono (by omega))
     exact fun a ha=>(show t<(Ls.length+1)∧_ from ⟨(by omega),r9,false,ha.keep (fk rfl (fk rfl (fk rfl (fk rfl (fk rfl fn))))),h,u,(by omega),cW,(own_castN g9 (by rw [nam_step htn])),(by omega),(fi.trans ⟨fun ⟨j,hj,q⟩=>⟨j,by omega,q⟩,fun ⟨j,hj,q⟩=>⟨j,(if z:j<t then z else absurd ((show j=t by omega)▸q) c11),q⟩⟩)⟩)
    refine ZM ?_
    refine ZM ?_
    refine Zf 34 ?_
    refine Zf 34 ?_
    refine Zf 34 ?_
    refine Zf 34 ?_
    refine Zf 34 ?_
    refine Zf 34 ?_
    refine Za (y_pick true) ?_
    refine ZA ?_
    refine Qk ?_
    refine Qi ?_
    refine Nx [0,3,6,4,5] ?_
    refine Qe ?_
    refine ZM ?_
    refine Za (yv (congrArg nv (show ((t:Nat):Int)+1=((t+1:Nat):Int) by omega)) (yi_add rfl rfl rfl (by omega) (by omega))) ?_
    refine ZA ?_
    refine Qk ?_
    have h:=h.below (l9.mono (by omega))
    have u:=u.trans (l9.mono (by omega))
    exact fun a ha=>(show t<(Ls.length+1)∧_ from ⟨(by omega),r9,true,ha.keep (fk rfl (fk rfl (fk rfl (fk rfl (fk rfl fn))))),h,u,(by omega),cW,(own_castN g9 (by rw [nam_step htn])),(by omega),⟨fun _=>(fi.1 rfl).imp fun j ⟨hj,q⟩=>⟨by omega,q⟩,fun _=>rfl⟩⟩)
   refine Zan (yb (dF c6) yi_lss) [0,3,4,5,6,22] ?_
   refine cg_cf rfl ?_
   refine cg_exit ?_
   refine Qh ?_
   refine Qh ?_
   refine Ql ?_
   refine Nx [0,3,4,5] ?_
   refine Qd ?_
   have hte:t=Ls.length:=by omega
   refine Qe ?_
   refine ZM ?_
   refine Zc (grow_any (h.more (B':=v.heap.size) (by omega)) (Nat.le_refl _)) rfl rfl ?_
   rintro _ w12 ⟨s12,rfl,m12,hw12⟩
   have zw12:=hw12.size
   refine ZM ?_
   refine Za y_extract ?_
   refine Za y_extract ?_
   refine ZA ?_
   refine ZAn [0,3,4,5,7,8] ?_
   refine ZrM ?_
   refine ZM ?_
   cases bi
   ·refine Zt 48 y_move ?_
    refine Zt 48 y_move ?_
    refine Zt 50 y_move ?_
    have h:=h.below (hw12.mono (by omega))
    have u:=Un u hw12
    refine Zct 50 (namedO_any (h.more (B':=w12.heap.size) (by omega)) (Nat.le_refl _) (rg.up u)) rfl rfl ?_
    rintro u13 w13 ⟨e13,hw13⟩
    have zw13:=hw13.size
    obtain rfl:u13=.bool true:=e13.trans (congrArg Value.bool (decide_eq_true (show namedL (trAs Ls) from (named_none htr fun x hx q=>by cases fi.2 ⟨x,by omega,q⟩))))
    refine Zt 48 (y_pick false) ?_
    refine Za (y_pick true) ?_
    refine ZM ?_
    refine Zt 55 y_move ?_
    by_cases c14:(growE Ls)=0
    ·have ng:=named_grow htr c14
     refine Zt 55 (yb (nd_f c14) yi_neq) ?_
     refine Zt 55 y_move ?_
     refine Zt 58 y_move ?_
     have m12:=m12.below (hw13.mono (by omega))
     have u:=Un u hw13
     refine Zct 58 (namedO_any (m12.more (B':=w13.heap.size) (by omega)) (Nat.le_refl _) (rg.up u)) rfl rfl ?_
     rintro u15 w15 ⟨e15,hw15⟩
     have zw15:=hw15.size
     obtain rfl:u15=.bool true:=e15.trans (congrArg Value.bool (decide_eq_true (show namedL (trAs (growL Ls)) from (ng.2 (named_none htr fun x hx q=>by cases fi.2 ⟨x,by omega,q⟩)))))
     refine Zt 58 y_move ?_
     have h:=(h.below (hw13.mono (by omega))).below (hw15.mono (by omega))
     have u:=Un u hw15
     refine Zct 58 (namedO_any (h.more (B':=w15.heap.size) (by omega)) (Nat.le_refl _) (rg.up u)) rfl rfl ?_
     rintro u16 w16 ⟨e16,hw16⟩
     have zw16:=hw16.size
     obtain rfl:u16=.bool true:=e16.trans (congrArg Value.bool (decide_eq_true (show namedL (trAs Ls) from (named_none htr fun x hx q=>by cases fi.2 ⟨x,by omega,q⟩))))
     refine Zt 58 (yb (b:=(true == true)) (show (true == true)=true from rfl) (y_beq (a:=true) (b:=true) hubo)) ?_
     refine Zt 55 (y_pick false) ?_
     refine Za (y_pick true) ?_
     refine ZM ?_
     refine Zt 66 y_move ?_
     refine Zt 66 y_move ?_
     have h:=h.below (hw16.mono (by omega))
     have g0:=own_below g0 hw12
     have g0:=own_below g0 hw13
     have g0:=own_below g0 hw15
     have g0:=own_below g0 hw16
     refine Zct 66 (drop_any (h.more (B':=w16.heap.size) (by omega)) ((own_num g0).more (B':=w16.heap.size) (by omega)) (Nat.le_refl _) (by first | omega | (simp only [List.length_append,List.length_cons,List.length_nil,numOct_length,flagOct_length];omega))) rfl rfl ?_
     rintro _ w17 ⟨s17,rfl,m17,hw17⟩
     have zw17:=hw17.size
     have u:=Un (Un u hw16) hw17
     refine Zct 66 (namedO_any (m17.more (B':=w17.heap.size) (by omega)) (Nat.le_refl _) (rg.up u)) rfl rfl ?_
     rintro u18 w18 ⟨e18,hw18⟩
     have zw18:=hw18.size
     obtain rfl:u18=.bool true:=e18.trans (congrArg Value.bool (decide_eq_true (show namedL (trAs (dropL (namL (Ls.take t)) (trAs Ls))) from (by rw [hte,List.take_length];exact named_drop htr))))
     refine Za (y_pick true) ?_
     refine ZAnr [2] ?_
     have u:=Un u hw18
     exact Qa rfl rfl ⟨_,rfl,rfl,u⟩
    refine Zt 55 (yb (nd_t c14) yi_neq) ?_
    refine Zt 55 y_move ?_
    refine Zf 58 ?_
    refine Zf 58 ?_
    refine Zf 58 ?_
    refine Zf 58 ?_
    refine Zf 58 ?_
    refine Zt 55 (y_pick true) ?_
    refine Za (y_pick true) ?_
    refine ZM ?_
    refine Zt 66 y_move ?_
    refine Zt 66 y_move ?_
    have h:=h.below (hw13.mono (by omega))
    have g0:=own_below g0 hw12
    have g0:=own_below g0 hw13
    refine Zct 66 (drop_any (h.more (B':=w13.heap.size) (by omega)) ((own_num g0).more (B':=w13.heap.size) (by omega)) (Nat.le_refl _) (by first | omega | (simp only [List.length_append,List.length_cons,List.length_nil,numOct_length,flagOct_length];omega))) rfl rfl ?_
    rintro _ w19 ⟨s19,rfl,m19,hw19⟩
    have zw19:=hw19.size
    have u:=Un (Un u hw13) hw19
    refine Zct 66 (namedO_any (m19.more (B':=w19.heap.size) (by omega)) (Nat.le_refl _) (rg.up u)) rfl rfl ?_
    rintro u20 w20 ⟨e20,hw20⟩
    have zw20:=hw20.size
    obtain rfl:u20=.bool true:=e20.trans (congrArg Value.bool (decide_eq_true (show namedL (trAs (dropL (namL (Ls.take t)) (trAs Ls))) from (by rw [hte,List.take_length];exact named_drop htr))))
    refine Za (y_pick true) ?_
    refine ZAnr [2] ?_
    have u:=Un u hw20
    exact Qa rfl rfl ⟨_,rfl,rfl,u⟩
   refine Zt 48 y_move ?_
   refine Zt 48 y_move ?_
   refine Zf 50 ?_
   refine Zf 50 ?_
   refine Zt 48 (y_pick true) ?_
   refine Za (y_pick true) ?_
   refine ZM ?_
   refine Zt 55 y_move ?_
   by_cases c21:(growE Ls)=0
   ·have ng:=named_grow htr c21
    refine Zt 55 (yb (nd_f c21) yi_neq) ?_
    refine Zt 55 y_move ?_
    refine Zt 58 y_move ?_
    have u:=Un u hw12
    by_cases c22:namedL (trAs (growL Ls))
    ·refine Zct 58 (namedO_any (m12.more (B':=w12.heap.size) (by omega)) (Nat.le_refl _) (rg.up u)) rfl rfl ?_
     rintro u23 w23 ⟨e23,hw23⟩
     have zw23:=hw23.size
     obtain rfl:u23=.bool true:=e23.trans (congrArg Value.bool (decide_eq_true c22))
     refine Zt 58 y_move ?_
     have h:=(h.below (hw12.mono (by omega))).below (hw23.mono (by omega))
     have u:=Un u hw23
     refine Zct 58 (namedO_any (h.more (B':=w23.heap.size) (by omega)) (Nat.le_refl _) (rg.up u)) rfl rfl ?_
     rintro u24 w24 ⟨e24,hw24⟩
     have zw24:=hw24.size
     obtain rfl:u24=.bool true:=e24.trans (congrArg Value.bool (decide_eq_true (show namedL (trAs Ls) from (ng.1 c22))))
     refine Zt 58 (yb (b:=(true == true)) (show (true == true)=true from rfl) (y_beq (a:=true) (b:=true) hubo)) ?_
     refine Zt 55 (y_pick false) ?_
     refine Za (y_pick true) ?_
     refine ZM ?_
     refine Zt 66 y_move ?_
     refine Zt 66 y_move ?_
     have h:=h.below (hw24.mono (by omega))
     have g0:=own_below g0 hw12
     have g0:=own_below g0 hw23
     have g0:=own_below g0 hw24
     refine Zct 66 (drop_any (h.more (B':=w24.heap.size) (by omega)) ((own_num g0).more (B':=w24.heap.size) (by omega)) (Nat.le_refl _) (by first | omega | (simp only [List.length_append,List.length_cons,List.length_nil,numOct_length,flagOct_length];omega))) rfl rfl ?_
     rintro _ w25 ⟨s25,rfl,m25,hw25⟩
     have zw25:=hw25.size
     have u:=Un (Un u hw24) hw25
     refine Zct 66 (namedO_any (m25.more (B':=w25.heap.size) (by omega)) (Nat.le_refl _) (rg.up u)) rfl rfl ?_
     rintro u26 w26 ⟨e26,hw26⟩
     have zw26:=hw26.size
     obtain rfl:u26=.bool true:=e26.trans (congrArg Value.bool (decide_eq_true (show namedL (trAs (dropL (namL (Ls.take t)) (trAs Ls))) from (by rw [hte,List.take_length];exact named_drop htr))))
     refine Za (y_pick true) ?_
     refine ZAnr [2] ?_
     have u:=Un u hw26
     exact Qa rfl rfl ⟨_,rfl,rfl,u⟩
    refine Zct 58 (namedO_any (m12.more (B':=w12.heap.size) (by omega)) (Nat.le_refl _) (rg.up u)) rfl rfl ?_
    rintro u27 w27 ⟨e27,hw27⟩
    have zw27:=hw27.size
    obtain rfl:u27=.bool false:=e27.trans (congrArg Value.bool (decide_eq_false c22))
    refine Zt 58 y_move ?_
    have h:=(h.below (hw12.mono (by omega))).below (hw27.mono (by omega))
    have u:=Un u hw27
    refine Zct 58 (namedO_any (h.more (B':=w27.heap.size) (by omega)) (Nat.le_refl _) (rg.up u)) rfl rfl ?_
    rintro u28 w28 ⟨e28,hw28⟩
    have zw28:=hw28.size
    obtain rfl:u28=.bool false:=e28.trans (congrArg Value.bool (decide_eq_false (show ¬(namedL (trAs Ls)) from (fun q=>c22 (ng.2 q)))))
    refine Zt 58 (yb (b:=(false == false)) (show (false == false)=true from rfl) (y_beq (a:=false) (b:=false) hubo)) ?_
    refine Zt 55 (y_pick false) ?_
    refine Za (y_pick true) ?_
    refine ZM ?_
    refine Zt 66 y_move ?_
    refine Zt 66 y_move ?_
    have h:=h.below (hw28.mono (by omega))
    have g0:=own_below g0 hw12
    have g0:=own_below g0 hw27
    have g0:=own_below g0 hw28
    refine Zct 66 (drop_any (h.more (B':=w28.heap.size) (by omega)) ((own_num g0).more (B':=w28.heap.size) (by omega)) (Nat.le_refl _) (by first | omega | (simp only [List.length_append,List.length_cons,List.length_nil,numOct_length,flagOct_length];omega))) rfl rfl ?_
    rintro _ w29 ⟨s29,rfl,m29,hw29⟩
    have zw29:=hw29.size
    have u:=Un (Un u hw28) hw29
    refine Zct 66 (namedO_any (m29.more (B':=w29.heap.size) (by omega)) (Nat.le_refl _) (rg.up u)) rfl rfl ?_
    rintro u30 w30 ⟨e30,hw30⟩
    have zw30:=hw30.size
    obtain rfl:u30=.bool true:=e30.trans (congrArg Value.bool (decide_eq_true (show namedL (trAs (dropL (namL (Ls.take t)) (trAs Ls))) from (by rw [hte,List.take_length];exact named_drop htr))))
    refine Za (y_pick true) ?_
    refine ZAnr [2] ?_
    have u:=Un u hw30
    exact Qa rfl rfl ⟨_,rfl,rfl,u⟩
   refine Zt 55 (yb (nd_t c21) yi_neq) ?_
   refine Zt 55 y_move ?_
   refine Zf 58 ?_
   refine Zf 58 ?_
   refine Zf 58 ?_
   refine Zf 58 ?_
   refine Zf 58 ?_
   refine Zt 55 (y_pick true) ?_
   refine Za (y_pick true) ?_
   refine ZM ?_
   refine Zt 66 y_move ?_
   refine Zt 66 y_move ?_
   have h:=h.below (hw12.mono (by omega))
   have g0:=own_below g0 hw12
   refine Zct 66 (drop_any (h.more (B':=w12.heap.size) (by omega)) ((own_num g0).more (B':=w12.heap.size) (by omega)) (Nat.le_refl _) (by first | omega | (simp only [List.length_append,List.length_cons,List.length_nil,numOct_length,flagOct_length];omega))) rfl rfl ?_
   rintro _ w31 ⟨s31,rfl,m31,hw31⟩
   have zw31:=hw31.size
   have u:=Un (Un u hw12) hw31
   refine Zct 66 (namedO_any (m31.more (B':=w31.heap.size) (by omega)) (Nat.le_refl _) (rg.up u)) rfl rfl ?_
   rintro u32 w32 ⟨e32,hw32⟩
   have zw32:=hw32.size
   obtain rfl:u32=.bool true:=e32.trans (congrArg Value.bool (decide_eq_true (show namedL (trAs (dropL (namL (Ls.take t)) (trAs Ls))) from (by rw [hte,List.take_length];exact named_drop htr))))
   refine Za (y_pick true) ?_
   refine ZAnr [2] ?_
   have u:=Un u hw32
   exact Qa rfl rfl ⟨_,rfl,rfl,u⟩
  refine Zct 13 (sane_any (h.more (B':=w3.heap.size) (by omega)) (Nat.le_refl _)) rfl rfl ?_
  rintro u33 w33 ⟨e33,hw33⟩
  have zw33:=hw33.size
  obtain rfl:u33=.bool false:=e33.trans (congrArg Value.bool (decide_eq_false c4))
  refine Zt 13 y_bnot ?_
  refine Zan (y_pick false) [0,2,3,17] ?_
  refine cg_ct rfl ?_
  refine ZrM ?_
  refine ZAnr [0,3,2] ?_
  refine Qc ?_
  have u:=Un (Un (Un u hw1) hw3) hw33
  exact Qa rfl rfl ⟨_,rfl,rfl,u⟩
 refine Zc (fewR_any (h.more (B':=w1.heap.size) (by omega)) (Nat.le_refl _)) rfl rfl ?_
 rintro u34 w34 ⟨e34,hw34⟩
 have zw34:=hw34.size
 obtain rfl:u34=.bool false:=e34.trans (congrArg Value.bool (decide_eq_false c2))
 refine Za y_bnot ?_
 refine ZM ?_
 refine Zf 13 ?_
 refine Zf 13 ?_
 refine Zf 13 ?_
 refine Zan (y_pick true) [0,2,3,17] ?_
 refine cg_ct rfl ?_
 refine ZrM ?_
 refine ZAnr [0,3,2] ?_
 refine Qc ?_
 have u:=Un (Un u hw1) hw34
 exact Qa rfl rfl ⟨_,rfl,rfl,u⟩
end Go.Proofs.YtognnnjdoemgfaaGreatDoor
