/-
  Trees: what the document answers.
-/
import Derived.Test.YtjjdcnkbibkmkaaGreatDoorKitT
import Derived.Test.YtjjdcnkbibkmkaaGreatDoorKitQ
namespace Go.Proofs.YtjjdcnkbibkmkaaGreatDoor
open Go.Proofs.Tryz
open Go.ChangeShapes Go.WideShapes Go.ChangeAt Go.RowKit
set_option linter.unusedVariables false
variable {B:Nat} {Ls Ms:List Nd} {W:World} {s:SlV}

theorem isN_of {a:List Nd} {x:Int} (h:trIs a) (h0:0<=x) (h1:x<(a.length:Int)):isN x (a.length:Int):=by
 have hl:=trIs_len h;exact ⟨by unfold isW;omega,h0,h1⟩
theorem OwnNd.cast [Lo] {w:World} {base:Nat} {v:Value} (h:OwnNd w base B v Ls) (e:Ls=Ms):OwnNd w base B v Ms:=e▸h
theorem sameR_any [Lo] {r:SlV} (h:RwNd W B s Ls) (h2:RwNd W B r Ms) (hB:B<=W.heap.size):Calls prog 25 #[s.v,r.v] W fun e W'=>∃ v,e=.returned v/\v=.bool (decide (trSame Ls Ms))/\Bw W W':=by
 refine Ze func25 ntmps25 ?_;have u:=Br W;have h:=h.more hB;have h2:=h2.more hB;have q1:=h.len;have q2:=h.cap;have q3:=h2.len;refine ZrAn [0,1,4] ?_;refine Qd<|ZrM ?_
 refine Za (y_lenM (el:=81) h.len) ?_;refine ZM ?_;refine Za (y_lenM (el:=81) h2.len) ?_;refine Zj yi_neq (fun c1=>?_) fun c1=>?_
 ·refine Zn [0,1,4,10] ?_;refine Zcf [0,1,4] ?_;refine Qd<|ZrAn [0,1,4,5] ?_
  refine Qj<|Qr (fun t a v=>Holds 27 [(0,s.v),(1,r.v),(5,nv ((t:Nat):Int))] a/\RwNd v W.heap.size s Ls/\RwNd v W.heap.size r Ms/\Bw W v/\(∀ i,i<t->NdSame (atN Ls i) (atN Ms i))) (Ls.length+1) (fun a ha=>⟨ha.keep kz,h,h2,u,(fun i hi=>absurd hi (by omega))⟩) ?_
  rintro t a v ht ⟨ha,h,h2,u,hk⟩;refine cg_at ha ?_;clear ha a;have zv:=u.size;have q1:=h.len;have q2:=h.cap;have q3:=h2.len;refine Qd<|ZrM ?_
  refine ZM ?_;refine Za (y_lenM (el:=81) h.len) ?_;refine Zi yi_lss (fun c2=>?_) fun c2=>?_
  ·refine Znt [0,1,5,14] ?_;refine Zki [0,1,5] ?_;refine Qd<|Qj<|Qd<|cg_held (by kernel_rfl) fun W3 eW3=>?_
   have dW3:=below_drew _ _ eW3;have zW3:=size_drew _ _ eW3;clear eW3;refine Zh 0 (fun q hq=>y_move rfl rfl) ?_;refine Zh 1 (fun q hq=>y_move rfl rfl) ?_;have h:=h.below (Bm dW3);obtain ⟨eb4,eo4,el4,eL4,eA4,eB4,eg4,eh4,ec4⟩:=h.at (t) (by have:=h.len;omega);refine Zh 2 (fun q hq=>y_ixR (s:=s) (el:=81) (k:=8) (i:=t) (iI:=((t:Nat):Int)) eA4 (by kernel_rfl) (by kernel_rfl) (by omega) (by have:=h.len;omega) rfl rfl rfl) ?_;refine Zh 3 (fun q hq=>y_loadC (cs:=el4.cs eL4) (fun k u e=>(hq.cell (p:=⟨eb4,_,none⟩) (show eb4<_ by omega)).trans (ec4 k u e)) (by kernel_rfl) (by kernel_rfl) rfl rfl) ?_;refine Zh 4 (fun q hq=>y_move rfl rfl) ?_;refine Zh 5 (fun q hq=>y_move rfl rfl) ?_;have h2:=h2.below (Bm dW3);obtain ⟨eb5,eo5,el5,eL5,eA5,eB5,eg5,eh5,ec5⟩:=h2.at (t) (by have:=h2.len;omega);refine Zh 6 (fun q hq=>y_ixR (s:=r) (el:=81) (k:=8) (i:=t) (iI:=((t:Nat):Int)) eA5 (by kernel_rfl) (by kernel_rfl) (by omega) (by have:=h2.len;omega) rfl rfl rfl) ?_;refine Zh 7 (fun q hq=>y_loadC (cs:=el5.cs eL5) (fun k u e=>(hq.cell (p:=⟨eb5,_,none⟩) (show eb5<_ by omega)).trans (ec5 k u e)) (by kernel_rfl) (by kernel_rfl) rfl rfl) ?_;by_cases c6:NdSame eL4 eL5
   ·refine Zo 8 ?_;refine Zd (rsameN_any (eh4.mW W3) (eh5.mW W3) Lr) ?_;rintro u7 w7 ⟨e7,hw7⟩;have zw7:=hw7.size;obtain rfl:u7=.bool true:=e7.trans (congrArg Value.bool (decide_eq_true c6));refine hg_next hw7 ?_;refine hg_up hw7 ?_;refine Zh 9 (fun q hq=>y_bnot rfl rfl) ?_;refine hg_done (by kernel_rfl) ?_;refine Nx [0,1,5,26] ?_;refine cg_cf rfl<|cg_skip<|Qi<|Nx [0,1,5] ?_
    refine Qe<|ZM ?_
    refine Za Yj ?_;refine ZA ?_;refine Qk ?_;have h:=h.below (Bm hw7);have h2:=h2.below (Bm hw7);have u:=Un (Un u dW3) hw7;exact fun a ha=>(show t<(Ls.length+1)/\_ from ⟨(by omega),ha.keep kz,h,h2,u,(fun i hi=>by by_cases q:i=t;subst q;rw [atN_some eg4,atN_some eg5];exact c6;exact hk i (by omega))⟩)
   refine Zo 8 ?_;refine Zd (rsameN_any (eh4.mW W3) (eh5.mW W3) Lr) ?_;rintro u8 w8 ⟨e8,hw8⟩;have zw8:=hw8.size;obtain rfl:u8=.bool false:=e8.trans (congrArg Value.bool (decide_eq_false c6));refine hg_next hw8 ?_;refine hg_up hw8 ?_;refine Zh 9 (fun q hq=>y_bnot rfl rfl) ?_;refine hg_done (by kernel_rfl) ?_;refine Nx [0,1,5,26] ?_;refine cg_ct rfl<|ZrAr [0,1,5,4] ?_
   refine Qg<|Qc<|Qc<|Qg<|Qc ?_
   exact Qt (dF (fun q=>c6 (by have h3:=q.2 t (by omega);rwa [atN_some eg4,atN_some eg5] at h3))).symm (Un (Un u dW3) hw8)
  refine Xc 0 [0,1,5,14] ?_;refine cg_exit<|Qh<|Qh<|Ql<|nx (E':=[]) fn ?_
  refine ZrAr [4] ?_;exact Qt (dT ⟨(by omega),fun i hi=>hk i (by omega)⟩).symm u
 refine Znt [0,1,4,10] ?_;refine ZrAr [0,1,4] ?_;refine Qc ?_;exact Qt (dF (fun q=>by have:=q.1;omega)).symm u
theorem fewR_any [Lo] (h:RwNd W B s Ls) (hB:B<=W.heap.size):Calls prog 28 #[s.v] W fun e W'=>∃ v,e=.returned v/\v=.bool (decide (trFew Ls))/\Bw W W':=by
 refine Ze func28 ntmps28 ?_;have u:=Br W;have h:=h.more hB;have q1:=h.len;have q2:=h.cap;refine ZrAn [0,2] ?_;refine Qd<|ZrAn [0,2,3] ?_
 refine Qj<|Qr (fun t a v=>Holds 19 [(0,s.v),(3,nv ((t:Nat):Int))] a/\RwNd v W.heap.size s Ls/\Bw W v/\(∀ i,i<t->ndFew (atN Ls i))) (Ls.length+1) (fun a ha=>⟨ha.keep kz,h,u,(fun i hi=>absurd hi (by omega))⟩) ?_
 rintro t a v ht ⟨ha,h,u,hk⟩;refine cg_at ha ?_;clear ha a;have zv:=u.size;have q1:=h.len;have q2:=h.cap;refine Qd<|ZrM ?_
 refine ZM ?_;refine Za (y_lenM (el:=81) h.len) ?_;refine Zi yi_lss (fun c1=>?_) fun c1=>?_
 ·refine Znt [0,3,7] ?_;refine Zki [0,3] ?_;refine Qd<|Qj<|ZrM ?_
  refine ZM ?_;obtain ⟨eb2,eo2,el2,eL2,eA2,eB2,eg2,eh2,ec2⟩:=h.at (t) (by have:=h.len;omega);refine Za (Yx s 81 8 t eA2 (by have:=h.len;omega) rfl rfl rfl) ?_;refine Za (y_loadC (cs:=el2.cs eL2) ec2) ?_;by_cases c3:ndFew eL2
  ·refine Zd (fewN_any (eh2.mW v) Lr) ?_;rintro u4 w4 ⟨e4,hw4⟩;have zw4:=hw4.size;obtain rfl:u4=.bool true:=e4.trans (congrArg Value.bool (decide_eq_true c3));refine Xn 1 [0,3,15] ?_;refine cg_cf rfl<|cg_skip<|Qi<|Nx [0,3] ?_
   refine Qe<|ZM ?_
   refine Za Yj ?_;refine ZA ?_;refine Qk ?_;exact fun a ha=>(show t<(Ls.length+1)/\_ from ⟨(by omega),ha.keep kz,h.below (Bm hw4),Un u hw4,(ok_step (p:=fun _ L=>ndFew L) hk eg2 c3)⟩)
  refine Zd (fewN_any (eh2.mW v) Lr) ?_;rintro u5 w5 ⟨e5,hw5⟩;have zw5:=hw5.size;obtain rfl:u5=.bool false:=e5.trans (congrArg Value.bool (decide_eq_false c3));refine Xn 1 [0,3,15] ?_;refine cg_ct rfl<|ZrAr [0,3,2] ?_
  refine Qg<|Qc<|Qc<|Qg<|Qc ?_
  exact Qt (dF (fun q=>c3 (by have h3:=q.1 t (by omega);rwa [atN_some eg2] at h3))).symm (Un u hw5)
 refine Xc 0 [0,3,7] ?_;refine cg_exit<|Qh<|Qh<|Ql<|Nx [0] ?_
 refine ZrM ?_;refine Za (y_lenM (el:=81) h.len) ?_;refine Zi yi_leq (fun c6=>?_) fun c6=>?_
 ·refine ZAnr [2] ?_;exact Qt (dT ⟨fun i hi=>hk i (by omega),(by omega)⟩).symm u
 refine ZAnr [2] ?_;exact Qt (dF (fun q=>by have:=q.2;omega)).symm u
end Go.Proofs.YtjjdcnkbibkmkaaGreatDoor
