/-
  Trees as octets: the document.
-/
import Derived.Test.YtognnnjdoemgfaaGreatDoorOcGet
import Derived.Test.YtognnnjdoemgfaaGreatDoorTrRef
import Derived.Test.YtognnnjdoemgfaaGreatDoorKitQ
namespace Go.Proofs.YtognnnjdoemgfaaGreatDoor
open Go.ChangeShapes Go.WideShapes Go.ChangeAt Go.RowKit
set_option linter.unusedVariables false

theorem rnamed1_any {W:World} {B:Nat} {s:SlV} {Ls:List Nd} (h:RwNd W B s Ls) (i x:Int) (hB:B≤W.heap.size) (hi:0≤i∧i<64) (ho:x % 2=1) (rg:Tb W):Calls Tryz.prog 27 #[s.v,nv x,nv i] W fun e W'=>∃ v,e=.returned v∧v=.bool (decide (nmP Ls i x))∧Below W.heap.size W W':=by
 refine Qf (n:=53) Tryz.func27 rfl Tryz.ntmps27 (by simp) ?_
 show CG _ _ _ [(0,s.v),(1,nv x),(2,nv i)] _ _
 have u:=Below.refl W.heap.size W
 have h:=h.more hB
 have q1:=h.len
 have q2:=h.cap
 refine ZrA ?_
 refine Zn [0,1,2,6] ?_
 refine Qd ?_
 refine ZrM ?_
 refine Za (yi_mul rfl rfl rfl (by omega) (by omega)) ?_
 refine ZM ?_
 refine ZM ?_
 refine Za (y_lenM (el:=38) h.len) ?_
 by_cases c1:undI (2*i) x (Ls.length:Int)
 ·have hu:=c1
  have hin:=hu.1.le
  have hun:=hu.1
  have hto:=wayO_to hu ho
  have ham:=ahead_mem hto
  have haw:=wayO_par hun
  have h0:0<(dirI (2*i) (Ls.length:Int)).length:=by omega
  refine Zc (runder_any (2*i) x (Ls.length:Int) _ (rg.up u)) rfl rfl ?_
  rintro u2 w2 ⟨e2,hw2⟩
  have zw2:=hw2.size
  obtain rfl:u2=.bool true:=e2.trans (congrArg Value.bool (decide_eq_true c1))
  refine Za y_bnot ?_
  refine ZM ?_
  refine Zt 15 y_move ?_
  refine Zt 15 y_move ?_
  refine Zt 15 (yi_mul rfl rfl rfl (by omega) (by omega)) ?_
  have h:=h.below (hw2.mono (by omega))
  obtain ⟨eb3,eo3,el3,eL3,eA3,eB3,eg3,eh3,ec3⟩:=h.at ((2*i).toNat) (by have:=h.len;omega)
  refine Zt 15 (y_ixR (s:=s) (el:=38) (k:=8) (i:=(2*i).toNat) (iI:=(2*i)) eA3 (by kernel_rfl) (by kernel_rfl) (by omega) (by have:=h.len;omega) rfl rfl rfl) ?_
  refine Zt 15 (y_fld (off:=0)) ?_
  refine Zt 15 (y_celld (ec3 0 _ rfl)) ?_
  by_cases c4:eL3.kind=0
  ·refine Zt 15 (yb (dT c4) yi_eql) ?_
   refine Zan (y_pick false) [0,1,2,6,23] ?_
   refine cg_ct rfl ?_
   refine ZrA ?_
   refine Znr [0,1,2,6] ?_
   refine Qc ?_
   have u:=Un u hw2
   exact Qa rfl rfl ⟨_,rfl,congrArg Value.bool (dF (fun q=>q.2.1 (by rw [atN_some eg3];exact c4))).symm,u⟩
  refine Zt 15 (yb (dF c4) yi_eql) ?_
  refine Zan (y_pick false) [0,1,2,6,23] ?_
  refine Zcf [0,1,2,6] ?_
  refine Qd ?_
  refine ZrM ?_
  refine Za (yi_mul rfl rfl rfl (by omega) (by omega)) ?_
  refine ZM ?_
  refine Za (y_lenM (el:=38) h.len) ?_
  have u:=Un u hw2
  refine Za (yv (congrArg nv (haw.1 h0)) (Qp (rparent_any (2*i) (Ls.length:Int) _ (rg.up u)))) ?_
  refine ZAn [0,1,2,6,7] ?_
  refine Qj ?_
  refine Qr (fun t a v=>Holds 53 [(0,s.v),(1,nv x),(2,nv i),(7,nv ((dirI (2*i) (Ls.length:Int)).getD t 0))] a∧RwNd v W.heap.size s Ls∧Below W.heap.size W v∧t≤ahead x (dirI (2*i) (Ls.length:Int))∧(∀ j,j<t→¬badN Ls i ((dirI (2*i) (Ls.length:Int)).getD j 0))) ((dirI (2*i) (Ls.length:Int)).length+1) (fun a ha=>⟨ha.keep (fk rfl (fk rfl (fk rfl (fk rfl fn)))),h,u,(Nat.zero_le _),(fun j hj=>absurd hj (by omega))⟩) ?_
  rintro t a v ht ⟨ha,h,u,ta,hk⟩
  refine cg_at ha ?_
  clear ha a
  have zv:=u.size
  have q1:=h.len
  have q2:=h.cap
  have htn:t<(dirI (2*i) (Ls.length:Int)).length:=by omega
  have hdn:=(wayO_in hun _ (getD_in htn)).1.le
  refine Qd ?_
  refine ZrM ?_
  refine ZM ?_
  by_cases c5:((dirI (2*i) (Ls.length:Int)).getD t 0)=x
  ·refine Zan (yb (nd_f c5) yi_neq) [0,1,2,7,31] ?_
   refine cg_cf rfl ?_
   refine cg_exit ?_
   refine Qh ?_
   refine Qh ?_
   refine Ql ?_
   refine nx (E':=[]) fn ?_
   refine ZrA ?_
   refine Znr [6] ?_
   exact Qa rfl rfl ⟨_,rfl,congrArg Value.bool (dT ⟨hu,by rw [atN_some eg3];exact c4,fun j hj=>hk j (by rw [ahead_is ta c5 htn] at hj;exact hj)⟩).symm,u⟩
  refine Zan (yb (nd_t c5) yi_neq) [0,1,2,7,31] ?_
  refine cg_ct rfl ?_
  refine Zki [0,1,2,7] ?_
  refine Qd ?_
  refine Qj ?_
  refine ZrM ?_
  refine ZM ?_
  obtain ⟨eb6,eo6,el6,eL6,eA6,eB6,eg6,eh6,ec6⟩:=h.at (((dirI (2*i) (Ls.length:Int)).getD t 0).toNat) (by have:=h.len;omega)
  refine Za (y_ixR (s:=s) (el:=38) (k:=8) (i:=((dirI (2*i) (Ls.length:Int)).getD t 0).toNat) (iI:=((dirI (2*i) (Ls.length:Int)).getD t 0)) eA6 (by kernel_rfl) (by kernel_rfl) (by omega) (by have:=h.len;omega) rfl rfl rfl) ?_
  refine Za (y_fld (off:=0)) ?_
  refine Za (y_celld (ec6 0 _ rfl)) ?_
  by_cases c7:eL6.kind=2
  ·refine Za (yb (dT c7) yi_eql) ?_
   refine ZM ?_
   refine Zt 42 y_move ?_
   refine Zt 42 y_move ?_
   obtain ⟨eb8,eo8,el8,eL8,eA8,eB8,eg8,eh8,ec8⟩:=h.at (((dirI (2*i) (Ls.length:Int)).getD t 0).toNat) (by have:=h.len;omega)
   obtain rfl:eL6=eL8:=Option.some.inj (eg6.symm.trans eg8)
   refine Zt 42 (y_ixR (s:=s) (el:=38) (k:=8) (i:=((dirI (2*i) (Ls.length:Int)).getD t 0).toNat) (iI:=((dirI (2*i) (Ls.length:Int)).getD t 0)) eA8 (by kernel_rfl) (by kernel_rfl) (by omega) (by have:=h.len;omega) rfl rfl rfl) ?_
   refine Zt 42 (y_fld (off:=5)) ?_
   refine Zt 42 (y_fld (off:=2)) ?_
   refine Zt 42 (y_celld (ec8 7 _ rfl)) ?_
   refine Zt 42 y_move ?_
   by_cases c9:i∈eL6.inner.unm
   ·refine Zt 42 (yb (dT c9) (Qp (has_any eh8.inner.unm i))) ?_
    refine Zt 42 y_bnot ?_
    refine Zan (y_pick true) [0,1,2,7,52] ?_
    refine cg_cf rfl ?_
    refine cg_skip ?_
    refine Qi ?_
    refine Nx [0,1,2,7] ?_
    have hta:=ahead_next ta c5 htn
    have hnx:=haw.2 t (by omega)
    refine Qe ?_
    refine ZM ?_
    refine ZM ?_
    refine Za (y_lenM (el:=38) h.len) ?_
    refine Za (yv (congrArg nv hnx) (Qp (rparent_any ((dirI (2*i) (Ls.length:Int)).getD t 0) (Ls.length:Int) _ (rg.up u)))) ?_
    refine ZA ?_
    refine Qk ?_
    have nb:¬badN Ls i ((dirI (2*i) (Ls.length:Int)).getD t 0):=(fun q=>q.2 (by rw [atN_some eg6];exact c9))
    exact fun a ha=>(show t<((dirI (2*i) (Ls.length:Int)).length+1)∧_ from ⟨(by omega),ha.keep (fk rfl (fk rfl (fk rfl (fk rfl fn)))),h,u,hta,(fun j hj=>if q:j<t then hk j q else (show j=t by omega)▸nb)⟩)
   refine Zt 42 (yb (dF c9) (Qp (has_any eh8.inner.unm i))) ?_
   refine Zt 42 y_bnot ?_
   refine Zan (y_pick true) [0,1,2,7,52] ?_
   refine cg_ct rfl ?_
   refine ZrA ?_
   refine Znr [0,1,2,7,6] ?_
   refine Qg ?_
   refine Qc ?_
   refine Qc ?_
   refine Qg ?_
   refine Qc ?_
   exact Qa rfl rfl ⟨_,rfl,congrArg Value.bool (dF (fun q=>q.2.2 t (ahead_next ta c5 htn) ⟨by rw [atN_some eg6];exact c7,by rw [atN_some eg6];exact c9⟩)).symm,u⟩
  refine Za (yb (dF c7) yi_eql) ?_
  refine ZM ?_
  refine Zf 42 ?_
  refine Zf 42 ?_
  refine Zf 42 ?_
  refine Zf 42 ?_
  refine Zf 42 ?_
  refine Zf 42 ?_
  refine Zf 42 ?_
  refine Zf 42 ?_
  refine Zf 42 ?_
  refine Zan (y_pick false) [0,1,2,7,52] ?_
  refine cg_cf rfl ?_
  refine cg_skip ?_
  refine Qi ?_
  refine Nx [0,1,2,7] ?_
  have hta:=ahead_next ta c5 htn
  have hnx:=haw.2 t (by omega)
  refine Qe ?_
  refine ZM ?_
  refine ZM ?_
  refine Za (y_lenM (el:=38) h.len) ?_
  refine Za (yv (congrArg nv hnx) (Qp (rparent_any ((dirI (2*i) (Ls.length:Int)).getD t 0) (Ls.length:Int) _ (rg.up u)))) ?_
  refine ZA ?_
  refine Qk ?_
  have nb:¬badN Ls i ((dirI (2*i) (Ls.length:Int)).getD t 0):=(fun q=>c7 (by have z:=q.1;rwa [atN_some eg6] at z))
  exact fun a ha=>(show t<((dirI (2*i) (Ls.length:Int)).length+1)∧_ from ⟨(by omega),ha.keep (fk rfl (fk rfl (fk rfl (fk rfl fn)))),h,u,hta,(fun j hj=>if q:j<t then hk j q else (show j=t by omega)▸nb)⟩)
 refine Zc (runder_any (2*i) x (Ls.length:Int) _ (rg.up u)) rfl rfl ?_
 rintro u10 w10 ⟨e10,hw10⟩
 have zw10:=hw10.size
 obtain rfl:u10=.bool false:=e10.trans (congrArg Value.bool (decide_eq_false c1))
 refine Za y_bnot ?_
 refine ZM ?_
 refine Zf 15 ?_
 refine Zf 15 ?_
 refine Zf 15 ?_
 refine Zf 15 ?_
 refine Zf 15 ?_
 refine Zf 15 ?_
 refine Zf 15 ?_
 refine Zan (y_pick true) [0,1,2,6,23] ?_
 refine cg_ct rfl ?_
 refine ZrA ?_
 refine Znr [0,1,2,6] ?_
 refine Qc ?_
 have u:=Un u hw10
 exact Qa rfl rfl ⟨_,rfl,congrArg Value.bool (dF (fun q=>c1 q.1)).symm,u⟩
theorem rnamedO_any {W:World} {B:Nat} {s:SlV} {Ls:List Nd} (h:RwNd W B s Ls) (hB:B≤W.heap.size) (rg:Tb W):Calls Tryz.prog 11 #[s.v] W fun e W'=>∃ v,e=.returned v∧v=.bool (decide (namedL (trAs Ls)))∧Below W.heap.size W W':=by
 refine Qf (n:=35) Tryz.func11 rfl Tryz.ntmps11 (by simp) ?_
 show CG _ _ _ [(0,s.v)] _ _
 have u:=Below.refl W.heap.size W
 have h:=h.more hB
 have q1:=h.len
 have q2:=h.cap
 have hti:=trAs_is Ls
 have hll:=trAs_le Ls
 refine ZrA ?_
 refine Zn [0,2] ?_
 refine ZrM ?_
 refine Zc (as_any h (by omega)) rfl rfl ?_
 rintro _ w1 ⟨s1,rfl,m1,hw1⟩
 have zw1:=hw1.size
 have tl1:=trAs_le Ls
 refine ZAn [2,3] ?_
 refine Qd ?_
 refine ZrA ?_
 refine Zn [2,3,4] ?_
 refine Qj ?_
 have u:=Un u hw1
 refine Qr (fun t a v=>∃ (sa:SlV),Holds 35 [(3,sa.v),(4,nv ((t:Nat):Int))] a∧RwNd v v.heap.size sa (trAs Ls)∧Below W.heap.size W v∧t≤(trAs Ls).length∧(∀ y,y<t→∀ k,k<(atN (trAs Ls) y).inner.unm.length→nmP (trAs Ls) ((atN (trAs Ls) y).inner.unm.getD k 0) (y:Int))) ((trAs Ls).length+1) (fun a ha=>⟨s1,ha.keep (fk rfl (fk rfl fn)),(m1.more (by omega)),u,(Nat.zero_le _),(fun y hy=>absurd hy (Nat.not_lt_zero _))⟩) ?_
 rintro t a v ht ⟨sa,ha,hra,u,tle,hx⟩
 refine cg_at ha ?_
 clear ha a
 have zv:=u.size
 have q1:=hra.len
 have q2:=hra.cap
 refine Qd ?_
 refine ZrM ?_
 refine ZM ?_
 refine Za (y_lenM (el:=38) hra.len) ?_
 by_cases c2:((t:Nat):Int)<((trAs Ls).length:Int)
 ·refine Zan (yb (dT c2) yi_lss) [3,4,12] ?_
  refine cg_ct rfl ?_
  refine Zki [3,4] ?_
  refine Qd ?_
  refine Qj ?_
  refine Qd ?_
  have htn:t<(trAs Ls).length:=by omega
  obtain ⟨um,ul,uo⟩:=unmT_ok hti t
  obtain ⟨ebz3,eoz3,elz3,eLz3,eAz3,eBz3,egz3,ehz3,ecz3⟩:=hra.at (t) (by have:=hra.len;omega)
  have enz3:eLz3=atN (trAs Ls) (t):=(atN_some egz3).symm
  subst enz3
  refine Qe ?_
  refine ZM ?_
  refine ZM ?_
  obtain ⟨eb4,eo4,el4,eL4,eA4,eB4,eg4,eh4,ec4⟩:=hra.at (t) (by have:=hra.len;omega)
  obtain rfl:(atN (trAs Ls) t)=eL4:=Option.some.inj (egz3.symm.trans eg4)
  refine Za (y_ixR (s:=sa) (el:=38) (k:=8) (i:=t) (iI:=((t:Nat):Int)) eA4 (by kernel_rfl) (by kernel_rfl) (by omega) (by have:=hra.len;omega) rfl rfl rfl) ?_
  refine Za (y_fld (off:=5)) ?_
  refine Za (y_fld (off:=2)) ?_
  refine Za (y_celld (ec4 7 _ rfl)) ?_
  refine ZAn [3,4,5] ?_
  refine ZrA ?_
  refine Zn [3,4,5,6] ?_
  refine Qj ?_
  refine Qr (fun k a v=>∃ (sb:SlV) (sn:SlV),Holds 35 [(3,sb.v),(4,nv ((t:Nat):Int)),(5,sn.v),(6,nv ((k:Nat):Int))] a∧RwNd v v.heap.size sb (trAs Ls)∧SlN v v.heap.size sn (atN (trAs Ls) t).inner.unm∧Below W.heap.size W v∧k≤(atN (trAs Ls) t).inner.unm.length∧(∀ j,j<k→nmP (trAs Ls) ((atN (trAs Ls) t).inner.unm.getD j 0) (t:Int))) ((atN (trAs Ls) t).inner.unm.length+1) (fun a ha=>⟨sa,el4.inner.unm,ha.keep (fk rfl (fk rfl (fk rfl (fk rfl fn)))),(hra.more (by omega)),(eh4.inner.unm.more (by omega)),u,(Nat.zero_le _),(fun j hj=>absurd hj (Nat.not_lt_zero _))⟩) ?_
  rintro k a v ht ⟨sb,sn,ha,hra,hn,u,kle,hy⟩
  refine cg_at ha ?_
  clear ha a
  have zv:=u.size
  have q1:=hra.len
  have q2:=hra.cap
  have qn:=hn.len
  refine Qd ?_
  refine ZrM ?_
  refine ZM ?_
  refine Za (y_lenM (el:=3) hn.len) ?_
  by_cases c5:((k:Nat):Int)<(((atN (trAs Ls) t).inner.unm).length:Int)
  ·refine Zan (yb (dT c5) yi_lss) [3,4,5,6,24] ?_
   refine cg_ct rfl ?_
   refine Zki [3,4,5,6] ?_
   refine Qd ?_
   refine Qj ?_
   refine Qd ?_
   have hkn:k<(atN (trAs Ls) t).inner.unm.length:=by omega
   have hi:=unmT_at hti hkn
   have ho:((t:Nat):Int) % 2=1:=by have:=uo (by omega);omega
   refine Qe ?_
   refine ZM ?_
   refine ZM ?_
   refine ZM ?_
   refine ZM ?_
   refine Za (y_ixT (i:=k) (iI:=((k:Nat):Int)) hn (by omega) (by first | omega | (simp only [List.length_append,List.length_cons,List.length_nil];omega)) rfl rfl rfl) ?_
   refine Za (y_ldT (i:=k) hn (by first | omega | (simp only [List.length_append,List.length_cons,List.length_nil];omega)) rfl rfl) ?_
   by_cases c6:nmP (trAs Ls) (((atN (trAs Ls) t).inner.unm).getD k 0) ((t:Nat):Int)
   ·refine Zc (rnamed1_any (hra.more (B':=v.heap.size) (by omega)) (((atN (trAs Ls) t).inner.unm).getD k 0) ((t:Nat):Int) (Nat.le_refl _) hi ho (rg.up u)) rfl rfl ?_
    rintro u7 w7 ⟨e7,hw7⟩
    have zw7:=hw7.size
    obtain rfl:u7=.bool true:=e7.trans (congrArg Value.bool (decide_eq_true c6))
    refine Zan y_bnot [3,4,5,6,34] ?_
    refine cg_cf rfl ?_
    refine cg_skip ?_
    refine Qi ?_
    refine Nx [3,4,5,6] ?_
    refine Qe ?_
    refine ZM ?_
    refine Za (yv (congrArg nv (show ((k:Nat):Int)+1=((k+1:Nat):Int) by omega)) (yi_add rfl rfl rfl (by omega) (by omega))) ?_
    refine ZA ?_
    refine Qk ?_
    have hra:=hra.below (hw7.mono (by omega))
    have hn:=hn.below (hw7.mono (by omega))
    have u:=Un u hw7
    exact fun a ha=>(show k<((atN (trAs Ls) t).inner.unm.length+1)∧_ from ⟨(by omega),sb,sn,ha.keep (fk rfl (fk rfl (fk rfl (fk rfl fn)))),(hra.more (by omega)),(hn.more (by omega)),u,(by omega),(fun j hj=>if q:j<k then hy j q else (show j=k by omega)▸c6)⟩)
   refine Zc (rnamed1_any (hra.more (B':=v.heap.size) (by omega)) (((atN (trAs Ls) t).inner.unm).getD k 0) ((t:Nat):Int) (Nat.le_refl _) hi ho (rg.up u)) rfl rfl ?_
   rintro u8 w8 ⟨e8,hw8⟩
   have zw8:=hw8.size
   obtain rfl:u8=.bool false:=e8.trans (congrArg Value.bool (decide_eq_false c6))
   refine Zan y_bnot [3,4,5,6,34] ?_
   refine cg_ct rfl ?_
   refine ZrA ?_
   refine Znr [3,4,5,6,2] ?_
   refine Qg ?_
   refine Qc ?_
   refine Qc ?_
   refine Qg ?_
   refine Qg ?_
   refine Qc ?_
   refine Qc ?_
   refine Qg ?_
   refine Qc ?_
   have u:=Un u hw8
   exact Qa rfl rfl ⟨_,rfl,congrArg Value.bool (dF (fun q=>c6 (q t htn k hkn))).symm,u⟩
  refine Zan (yb (dF c5) yi_lss) [3,4,5,6,24] ?_
  refine cg_cf rfl ?_
  refine cg_exit ?_
  refine Qh ?_
  refine Qh ?_
  refine Ql ?_
  refine Qi ?_
  refine Nx [3,4] ?_
  refine Qe ?_
  refine ZM ?_
  refine Za (yv (congrArg nv (show ((t:Nat):Int)+1=((t+1:Nat):Int) by omega)) (yi_add rfl rfl rfl (by omega) (by omega))) ?_
  refine ZA ?_
  refine Qk ?_
  exact fun a ha=>(show t<((trAs Ls).length+1)∧_ from ⟨(by omega),sb,ha.keep (fk rfl (fk rfl fn)),(hra.more (by omega)),u,(by omega),(fun y hy'=>if q:y<t then hx y q else (show y=t by omega)▸fun j hj=>hy j (by omega))⟩)
 refine Zan (yb (dF c2) yi_lss) [3,4,12] ?_
 refine cg_cf rfl ?_
 refine cg_exit ?_
 refine Qh ?_
 refine Qh ?_
 refine Ql ?_
 refine nx (E':=[]) fn ?_
 refine ZrA ?_
 refine Znr [2] ?_
 exact Qa rfl rfl ⟨_,rfl,congrArg Value.bool (dT (fun y hy k hk=>hx y (by omega) k hk)).symm,u⟩
theorem rputO_any {W:World} {B:Nat} {s:SlV} {Ls:List Nd} (h:RwNd W B s Ls) (hB:B≤W.heap.size):Calls Tryz.prog 13 #[s.v] W fun e W'=>∃ v,e=.returned v∧PutS W (opL (trAs Ls)) v W':=by
 refine Qf (n:=22) Tryz.func13 rfl Tryz.ntmps13 (by simp) ?_
 show CG _ _ _ [(0,s.v)] _ _
 have u:=Below.refl W.heap.size W
 have h:=h.more hB
 have q1:=h.len
 have q2:=h.cap
 obtain ⟨n1,n2⟩:=numO_le (trAs Ls)
 have n3:=trAs_le Ls
 refine ZrA ?_
 refine Zn [0,2] ?_
 refine ZrM ?_
 refine Zc (as_any h (by omega)) rfl rfl ?_
 rintro _ w1 ⟨s1,rfl,m1,hw1⟩
 have zw1:=hw1.size
 have tl1:=trAs_le Ls
 refine ZAn [2,3] ?_
 refine ZrA ?_
 refine Zn [2,3,4] ?_
 refine Qd ?_
 refine ZrA ?_
 refine Zn [2,3,4,5] ?_
 refine Qj ?_
 have u:=Un u hw1
 refine Qr (fun t a v=>∃ (sa:SlV) (qr:SlV),Holds 22 [(3,sa.v),(4,qr.v),(5,nv ((t:Nat):Int))] a∧RwNd v v.heap.size sa (trAs Ls)∧Sl v v.heap.size qr (putT ((trAs Ls).take t))∧Below W.heap.size W v∧t≤(numO (trAs Ls))) ((numO (trAs Ls))+1) (fun a ha=>⟨s1,nilS,ha.keep (fk rfl (fk rfl (fk rfl fn))),(m1.more (by omega)),(Sl.nil _ _),u,(Nat.zero_le _)⟩) ?_
 rintro t a v ht ⟨sa,qr,ha,hra,hq,u,tle⟩
 refine cg_at ha ?_
 clear ha a
 have zv:=u.size
 have q1:=hra.len
 have q2:=hra.cap
 have pl:=putT_le ((trAs Ls).take t)
 have pt:((trAs Ls).take t).length≤127:=by rw [List.length_take];omega
 refine Qd ?_
 refine ZrM ?_
 refine ZM ?_
 refine Zc ((by have z:=rlast_any (hra.more (B':=v.heap.size) (by omega)) (Nat.le_refl _);rwa [trAs_as] at z)) rfl rfl ?_
 rintro _ w2 ⟨rfl,hw2⟩
 have zw2:=hw2.size
 by_cases c3:((t:Nat):Int)≤(lastA (trAs Ls))
 ·refine Zan (yb (dT c3) yi_leq) [3,4,5,11] ?_
  refine cg_ct rfl ?_
  refine Zki [3,4,5] ?_
  refine Qd ?_
  refine Qj ?_
  have htn:t<(trAs Ls).length:=by omega
  have hra:=hra.below (hw2.mono (by omega))
  obtain ⟨ebz4,eoz4,elz4,eLz4,eAz4,eBz4,egz4,ehz4,ecz4⟩:=hra.at (t) (by have:=hra.len;omega)
  have enz4:eLz4=atN (trAs Ls) (t):=(atN_some egz4).symm
  subst enz4
  refine Qe ?_
  refine ZM ?_
  refine ZM ?_
  refine ZM ?_
  obtain ⟨eb5,eo5,el5,eL5,eA5,eB5,eg5,eh5,ec5⟩:=hra.at (t) (by have:=hra.len;omega)
  obtain rfl:(atN (trAs Ls) t)=eL5:=Option.some.inj (egz4.symm.trans eg5)
  refine Za (y_ixR (s:=sa) (el:=38) (k:=8) (i:=t) (iI:=((t:Nat):Int)) eA5 (by kernel_rfl) (by kernel_rfl) (by omega) (by have:=hra.len;omega) rfl rfl rfl) ?_
  refine Za (y_loadC (cs:=el5.cs (atN (trAs Ls) t)) ec5) ?_
  have hq:=hq.below (hw2.mono (by omega))
  refine Zc (rputN_any (hq.more (B':=w2.heap.size) (by omega)) (eh5.more (B':=w2.heap.size) (by omega)) (Nat.le_refl _) (by first | omega | (simp only [List.length_append,List.length_cons,List.length_nil,numOct_length,flagOct_length];omega))) rfl rfl ?_
  rintro _ w6 ⟨r6,rfl,m6,hw6⟩
  have zw6:=hw6.size
  have lp6:=ndPut_le (atN (trAs Ls) t)
  refine ZA ?_
  refine Qk ?_
  refine Qi ?_
  refine Nx [3,5,4] ?_
  refine Qe ?_
  refine ZM ?_
  refine Za (yv (congrArg nv (show ((t:Nat):Int)+1=((t+1:Nat):Int) by omega)) (yi_add rfl rfl rfl (by omega) (by omega))) ?_
  refine ZA ?_
  refine Qk ?_
  have hra:=hra.below (hw6.mono (by omega))
  have u:=Un (Un u hw2) hw6
  exact fun a ha=>(show t<((numO (trAs Ls))+1)∧_ from ⟨(by omega),sa,r6,ha.keep (fk rfl (fk rfl (fk rfl fn))),(hra.more (by omega)),(by rw [putT_step htn];exact m6.more (by omega)),u,(by omega)⟩)
 refine Zan (yb (dF c3) yi_leq) [3,4,5,11] ?_
 refine cg_cf rfl ?_
 refine cg_exit ?_
 refine Qh ?_
 refine Qh ?_
 refine Ql ?_
 refine Nx [4] ?_
 refine ZrM ?_
 have hq:=hq.below (hw2.mono (by omega))
 refine Zc (rputBytes_S (Sl.nil _ 0) hq (by omega) (by omega) (by first | omega | (simp only [List.length_nil];omega)) (by first | omega | (simp only [List.length_nil];omega))) rfl rfl ?_
 rintro _ w7 ⟨r7,rfl,m7,hw7⟩
 have zw7:=hw7.size
 rw [List.nil_append] at m7
 have lb7:=bytesOct_le (putT ((trAs Ls).take t))
 refine ZAnr [2] ?_
 have u:=Un (Un u hw2) hw7
 obtain rfl:t=(numO (trAs Ls)):=by omega
 exact Qa rfl rfl ⟨_,rfl,r7,rfl,(m7.more (by omega)),u⟩
set_option maxHeartbeats 2000000 in
theorem rgetO_any {W:World} {B:Nat} {s:SlV} {xs:List Int} (h:Sl W B s xs) (hB:B≤W.heap.size) (rg:Tb W):Calls Tryz.prog 8 #[s.v] W fun e W'=>∃ v,e=.returned v∧∃ s':SlV,v=.tuple #[s'.v,nv (ogE xs)]∧RwNd W' W'.heap.size s' (ogT xs)∧Below W.heap.size W W':=by
 have h:=h.more hB
 refine Qf (n:=86) Tryz.func8 rfl Tryz.ntmps8 (by simp) ?_
 show CG _ _ _ [(0,s.v)] _ _
 have u:=Below.refl W.heap.size W
 refine ZrA ?_
 refine ZAn [0,2,3] ?_
 refine ZrM ?_
 refine Zc (rgetBytes_S h (by omega)) rfl rfl ?_
 rintro _ w1 ⟨p1,r1,rfl,m1,l1,hw1⟩
 have zw1:=hw1.size
 refine ZM ?_
 refine Za y_extract ?_
 refine Za y_extract ?_
 refine Za y_extract ?_
 refine ZA ?_
 refine ZA ?_
 refine ZAn [2,3,4,5,6] ?_
 refine Qd ?_
 refine ZrM ?_
 by_cases c2:(bytesE xs)=0
 ·refine Zan (yb (nd_f c2) yi_neq) [2,3,4,5,6,18] ?_
  refine Zcf [2,3,4,5] ?_
  refine Qd ?_
  refine ZrM ?_
  refine Za (y_lenS (el:=5) l1) ?_
  by_cases c3:0<((bytesR xs).length:Int)
  ·refine Zan (yb (dT c3) yi_gtr) [2,3,4,22] ?_
   refine cg_ct rfl ?_
   refine ZrA ?_
   refine ZAnr [4,2,3] ?_
   refine Qc ?_
   have hIe:ogI xs=2:=by rw [ogI,if_neg (not_not_intro c2),if_pos (by have:=c3;omega)]
   have hG:ogE xs=2:=(ogE_in (by rw [hIe];decide)).trans hIe
   have u:=Un u hw1
   exact eg_ret_tmp2 rfl rfl rfl ⟨_,rfl,nilS,congrArg (fun q=>Value.tuple #[_,nv q]) hG.symm,((RwNd.nil _ _).cast (ogT_no (by rw [hG];decide)).symm),u⟩
  refine Zan (yb (dF c3) yi_gtr) [2,3,4,22] ?_
  refine Zcf [2,3,4] ?_
  refine Qd ?_
  refine ZrM ?_
  refine Za (y_lenS (el:=5) m1) ?_
  by_cases c4:((bytesP xs).length:Int)=0
  ·refine Zan (yb (dT c4) yi_eql) [2,3,4,25] ?_
   refine cg_ct rfl ?_
   refine ZrA ?_
   refine ZAnr [4,2,3] ?_
   refine Qc ?_
   have hIe:ogI xs=5:=by rw [ogI,if_neg (not_not_intro c2),if_neg (by have:=c3;omega),if_pos (by have:=c4;omega)]
   have hG:ogE xs=5:=(ogE_in (by rw [hIe];decide)).trans hIe
   have u:=Un u hw1
   exact eg_ret_tmp2 rfl rfl rfl ⟨_,rfl,nilS,congrArg (fun q=>Value.tuple #[_,nv q]) hG.symm,((RwNd.nil _ _).cast (ogT_no (by rw [hG];decide)).symm),u⟩
  refine Zan (yb (dF c4) yi_eql) [2,3,4,25] ?_
  refine Zcf [2,3,4] ?_
  refine Qd ?_
  have hI:ogI xs=0:=by rw [ogI,if_neg (not_not_intro c2),if_neg (by have:=c3;omega),if_neg (by have:=c4;omega)]
  have hP:=ogP_ok hI
  obtain ⟨bs,hbs⟩:∃ q,q=w1.heap.size:=⟨_,rfl⟩
  refine Qe ?_
  refine ZAn [2,3,4,7] ?_
  refine Qd ?_
  refine Qj ?_
  have u:=Un u hw1
  refine Qr (fun t a v=>∃ (M:Nat→Prop) (pre:List (Nd × Int)) (qr:SlV) (sl:SlV) (left:List Int),Holds 86 [(4,sl.v),(7,qr.v)] a∧Sl v W.heap.size sl left∧OwnNx M v bs qr.v (pre.map Prod.fst)∧Below W.heap.size W v∧RunO (ogP xs) pre left∧pre.length=t∧(∀ k,M k→k<W.heap.size∨bs≤k)∧bs≤v.heap.size∧W.heap.size≤bs) 128 (fun a ha=>⟨(fun _=>False),[],nilS,p1,(ogP xs),ha.keep (fk rfl (fk rfl fn)),(m1.cast hP.symm),(OwnNx.nil _ _),u,(RunO.start _),rfl,(fun k q=>q.elim),(by omega),(by have:=(u).size;omega)⟩) ?_
  rintro t a v ht ⟨M,pre,qr,sl,left,ha,hl,g0,u,hr,hpl,hM,cB,cW⟩
  refine cg_at ha ?_
  clear ha a
  have zv:=u.size
  have q1:=hl.len
  have q2:=hl.cap
  have q3:=g0.row.len
  have q4:=g0.row.cap
  have hml:(pre.map Prod.fst).length=t:=by rw [List.length_map];exact hpl
  have hle:=hr.le
  have gv:=g0
  have seven:¬(7:Int)=0:=by decide
  refine Qd ?_
  refine ZrM ?_
  refine Za (y_lenS (el:=5) hl) ?_
  by_cases c5:0<(left.length:Int)
  ·refine Zan (yb (dT c5) yi_gtr) [4,7,28] ?_
   refine cg_ct rfl ?_
   refine Zki [4,7] ?_
   refine Qj ?_
   refine Qd ?_
   refine ZrM ?_
   refine Za (yv (congrArg nv (congrArg Nat.cast hml)) (y_lenM (el:=38) (g0.row).len)) ?_
   by_cases c6:127≤((t:Nat):Int)
   ·refine Zan (yb (dT c6) yi_geq) [4,7,31] ?_
    refine cg_ct rfl ?_
    refine ZrA ?_
    refine ZAnr [4,7,2,3] ?_
    refine Qc ?_
    refine Qg ?_
    refine Qc ?_
    refine Qg ?_
    refine Qc ?_
    obtain rfl:t=127:=by omega
    have hoc:(ocAt 127 left)=(10,Nd.zero,[]):=by rw [ocAt,if_pos rfl]
    have hee:errO (ocT 128 0 (ogP xs))=10:=by rw [hr.errE (by omega) (by rw [hpl,hoc];decide),hpl,hoc]
    have hG:ogE xs=10:=(ogE_err hI (by rw [hee];decide)).trans hee
    exact eg_ret_tmp2 rfl rfl rfl ⟨_,rfl,nilS,congrArg (fun q=>Value.tuple #[_,nv q]) hG.symm,((RwNd.nil _ _).cast (ogT_no (by rw [hG];decide)).symm),u⟩
   refine Zan (yb (dF c6) yi_geq) [4,7,31] ?_
   refine Zcf [4,7] ?_
   refine ZrM ?_
   refine Zc (rgetN_anyO hl (by omega)) rfl rfl ?_
   rintro _ w7 ⟨l7,r7,rfl,m7,n7,f7,o7,hw7⟩
   have zw7:=hw7.size
   refine ZM ?_
   refine Za y_extract ?_
   refine Za y_extract ?_
   refine Za y_extract ?_
   refine lg_allocw (cs:=NdV.zero.cs Nd.zero) Wn rfl (by kernel_rfl) rfl (by decide) fun b8 w8 n8=>?_
   have r8:=n8.row
   have k8:=n8.blk
   have z8:=n8.size
   have lt8:b8<w8.heap.size:=by omega
   have o9:=r8
   refine lg_stw Wn r8 rfl rfl rfl (by kernel_rfl) (by kernel_rfl) rfl rfl fun w9 s9=>?_
   have r8:=s9.row
   have z9:=s9.size
   refine ZA ?_
   refine ZAn [4,7,8,9,10] ?_
   refine Qd ?_
   refine ZrM ?_
   by_cases c10:(ndGet left).1=0
   ·refine Zan (yb (nd_f c10) yi_neq) [4,7,8,9,10,39] ?_
    refine Zcf [4,7,8,9] ?_
    refine Qd ?_
    refine ZrM ?_
    have g0:=g0.below hw7
    have nxg0n8:=g0.newb n8
    have g0:=(g0.below n8.below).alt s9.alt nxg0n8.1 nxg0n8.2
    refine Za (yv (congrArg nv (congrArg Nat.cast hml)) (y_lenM (el:=38) (g0.row).len)) ?_
    refine Za (yi_rem rfl rfl rfl (by omega) (by omega)) ?_
    by_cases c11:(((t:Nat):Int) % 2)=0
    ·refine Za (yb (dT c11) yi_eql) ?_
     refine ZM ?_
     refine Zt 45 (y_fld (off:=0)) ?_
     refine Zt 45 (Qo (v:=nv ((ndGet left).2.1.kind)) r8 rfl (by kernel_rfl) rfl rfl) ?_
     by_cases c12:(ndGet left).2.1.kind=2
     ·refine Zt 45 (yb (dT c12) yi_eql) ?_
      refine Za (y_pick true) ?_
      refine ZM ?_
      refine Zf 50 ?_
      refine Zf 50 ?_
      refine Zf 50 ?_
      refine Zf 50 ?_
      refine Zf 50 ?_
      refine Zu 55 ?_
      refine Zu 55 ?_
      refine Zu 55 ?_
      refine Zf 50 ?_
      refine Zan (y_pick true) [4,7,8,9,60] ?_
      refine cg_ct rfl ?_
      refine ZrA ?_
      refine ZAnr [4,7,8,9,2,3] ?_
      refine Qc ?_
      refine Qg ?_
      refine Qc ?_
      refine Qg ?_
      refine Qc ?_
      have hfit:¬fitK t (ndGet left).2.1.kind:=by unfold fitK;omega
      have hoc:(ocAt t left)=(7,Nd.zero,[]):=by rw [ocAt,if_neg (by omega),if_neg (not_not_intro c10),if_pos hfit]
      have hee:errO (ocT 128 0 (ogP xs))=7:=by rw [hr.errE (by omega) (by rw [hpl,hoc];decide),hpl,hoc]
      have hG:ogE xs=7:=(ogE_err hI (by rw [hee];decide)).trans hee
      have u:=Un (Un u hw7) n8.below
      have u:=u.trans (s9.below _ (by omega))
      exact eg_ret_tmp2 rfl rfl rfl ⟨_,rfl,nilS,congrArg (fun q=>Value.tuple #[_,nv q]) hG.symm,((RwNd.nil _ _).cast (ogT_no (by rw [hG];decide)).symm),u⟩
     refine Zt 45 (yb (dF c12) yi_eql) ?_
     refine Za (y_pick true) ?_
     refine ZM ?_
     refine Zt 50 y_move ?_
     refine Zt 50 (yv (congrArg nv (congrArg Nat.cast hml)) (y_lenM (el:=38) (g0.row).len)) ?_
     refine Zt 50 (yi_rem rfl rfl rfl (by omega) (by omega)) ?_
     by_cases c13:(((t:Nat):Int) % 2)=1
     ·refine Zt 50 (yb (dT c13) yi_eql) ?_
      refine Zt 50 y_move ?_
      refine Zt 55 (y_fld (off:=0)) ?_
      refine Zt 55 (Qo (v:=nv ((ndGet left).2.1.kind)) r8 rfl (by kernel_rfl) rfl rfl) ?_
      by_cases c14:(ndGet left).2.1.kind=1
      ·refine Zt 55 (yb (dT c14) yi_eql) ?_
       refine Zt 50 (y_pick true) ?_
       refine Zan (y_pick false) [4,7,8,9,60] ?_
       refine cg_ct rfl ?_
       refine ZrA ?_
       refine ZAnr [4,7,8,9,2,3] ?_
       refine Qc ?_
       refine Qg ?_
       refine Qc ?_
       refine Qg ?_
       refine Qc ?_
       have hfit:¬fitK t (ndGet left).2.1.kind:=by unfold fitK;omega
       have hoc:(ocAt t left)=(7,Nd.zero,[]):=by rw [ocAt,if_neg (by omega),if_neg (not_not_intro c10),if_pos hfit]
       have hee:errO (ocT 128 0 (ogP xs))=7:=by rw [hr.errE (by omega) (by rw [hpl,hoc];decide),hpl,hoc]
       have hG:ogE xs=7:=(ogE_err hI (by rw [hee];decide)).trans hee
       have u:=Un (Un u hw7) n8.below
       have u:=u.trans (s9.below _ (by omega))
       exact eg_ret_tmp2 rfl rfl rfl ⟨_,rfl,nilS,congrArg (fun q=>Value.tuple #[_,nv q]) hG.symm,((RwNd.nil _ _).cast (ogT_no (by rw [hG];decide)).symm),u⟩
      refine Zt 55 (yb (dF c14) yi_eql) ?_
      refine Zt 50 (y_pick true) ?_
      refine Zan (y_pick false) [4,7,8,9,60] ?_
      refine Zcf [4,7,8,9] ?_
      refine Qd ?_
      have m7:=(m7.below (n8.below.mono (by omega))).below (s9.below _ (by omega))
      have hfit:fitK t (ndGet left).2.1.kind:=by unfold fitK;omega
      have hoc:(ocAt t left)=(0,(ndGet left).2.1,(ndGet left).2.2):=by rw [ocAt,if_neg (by omega),if_neg (not_not_intro c10),if_neg (not_not_intro hfit)]
      obtain ⟨Mx,hMx⟩:∃ q:Nat→Prop,q=fun k=>M k∨k<W.heap.size∨(v.heap.size≤k∧k<w9.heap.size):=⟨_,rfl⟩
      have gx:OwnNx Mx w9 bs qr.v (pre.map Prod.fst):=by
       subst hMx
       refine g0.mono (fun k q=>.inl q) (fun k q=>?_) (fun k q z=>?_)
       ·rcases q with q | q | q
        ·exact g0.lt k q
        ·omega
        exact q.2
       have q1:=gv.blk q
       rcases z with z | z | z
       ·exact gv.no k q z
       ·omega
       omega
      have hin:InNd Mx l7:=by
       subst hMx
       exact ((InNd.got o7 f7).and (InNd.of (m7.more (B':=w9.heap.size) (by omega)) fun _ z=>z)).mono fun k z=>z.1.elim (fun q=>.inr (.inl q)) fun q=>.inr (.inr ⟨q,z.2⟩)
      have hMr:∀ k,Mx k→k<W.heap.size∨bs≤k:=by
       subst hMx
       intro k q
       rcases q with q | q | q
       ·exact hM k q
       ·exact .inl q
       exact .inr (by omega)
      refine Qe ?_
      refine ZM ?_
      refine Za (y_loadA r8) ?_
      refine lg_bs1R (l:=l7) (L:=(ndGet left).2.1) Wn rfl rfl rfl (by decide) fun b15 w15 n15=>?_
      have r15:=n15.row
      have k15:=n15.blk
      have z15:=n15.size
      have lt15:b15<w15.heap.size:=by omega
      have hr:=hr
      have hr:=hr
      have hr:=hr
      have hr:=hr
      have nxgxn15:=gx.newb n15
      have gx:=gx.below n15.below
      have m7:=m7.below (n15.below.mono (by omega))
      have ox16:=gx
      refine lg_appX ox16 r15 (m7.more (B':=w15.heap.size) (by omega)) hin (by first | omega | (simp only [List.length_append,List.length_cons,List.length_nil,List.length_take,List.length_drop,List.length_set,List.length_replicate,clr_len];omega)) (by omega) Wn rfl rfl rfl rfl rfl (by decide) fun r16 w16 g16 k16 l16 e16=>?_
      have z16:=k16.size
      refine ZAn [4,9,7] ?_
      refine Qe ?_
      refine ZM ?_
      refine ZA ?_
      refine Qk ?_
      refine Qi ?_
      have n7:=(n7.below (n8.below.mono (by omega))).set o9 rfl s9
      have n7:=(n7.below (n15.below.mono (by omega))).below (l16.mono (by omega))
      have u:=Un (Un u hw7) n8.below
      have u:=u.trans (s9.below _ (by omega))
      have u:=Un u n15.below
      have u:=u.trans (l16.mono (by omega))
      exact fun a ha=>(show t<128∧_ from ⟨(by omega),Mx,(pre++[((ndGet left).2.1,0)]),r16,r7,(ndGet left).2.2,ha.keep (fk rfl (fk rfl fn)),(n7),(g16.cast (by rw [List.map_append];rfl)),u,(by have z:=hr.next (by omega) (by rw [hpl,hoc]);rw [hpl,hoc] at z;exact z),(by rw [List.length_append,hpl];rfl),hMr,(by omega),cW⟩)
     refine Zt 50 (yb (dF c13) yi_eql) ?_
     refine Zt 50 y_move ?_
     refine Zf 55 ?_
     refine Zf 55 ?_
     refine Zf 55 ?_
     refine Zt 50 (y_pick false) ?_
     refine Zan (y_pick false) [4,7,8,9,60] ?_
     refine Zcf [4,7,8,9] ?_
     refine Qd ?_
     have m7:=(m7.below (n8.below.mono (by omega))).below (s9.below _ (by omega))
     have hfit:fitK t (ndGet left).2.1.kind:=by unfold fitK;omega
     have hoc:(ocAt t left)=(0,(ndGet left).2.1,(ndGet left).2.2):=by rw [ocAt,if_neg (by omega),if_neg (not_not_intro c10),if_neg (not_not_intro hfit)]
     obtain ⟨Mx,hMx⟩:∃ q:Nat→Prop,q=fun k=>M k∨k<W.heap.size∨(v.heap.size≤k∧k<w9.heap.size):=⟨_,rfl⟩
     have gx:OwnNx Mx w9 bs qr.v (pre.map Prod.fst):=by
      subst hMx
      refine g0.mono (fun k q=>.inl q) (fun k q=>?_) (fun k q z=>?_)
      ·rcases q with q | q | q
       ·exact g0.lt k q
       ·omega
       exact q.2
      have q1:=gv.blk q
      rcases z with z | z | z
      ·exact gv.no k q z
      ·omega
      omega
     have hin:InNd Mx l7:=by
      subst hMx
      exact ((InNd.got o7 f7).and (InNd.of (m7.more (B':=w9.heap.size) (by omega)) fun _ z=>z)).mono fun k z=>z.1.elim (fun q=>.inr (.inl q)) fun q=>.inr (.inr ⟨q,z.2⟩)
     have hMr:∀ k,Mx k→k<W.heap.size∨bs≤k:=by
      subst hMx
      intro k q
      rcases q with q | q | q
      ·exact hM k q
      ·exact .inl q
      exact .inr (by omega)
     refine Qe ?_
     refine ZM ?_
     refine Za (y_loadA r8) ?_
     refine lg_bs1R (l:=l7) (L:=(ndGet left).2.1) Wn rfl rfl rfl (by decide) fun b17 w17 n17=>?_
     have r17:=n17.row
     have k17:=n17.blk
     have z17:=n17.size
     have lt17:b17<w17.heap.size:=by omega
     have hr:=hr
     have hr:=hr
     have hr:=hr
     have hr:=hr
     have nxgxn17:=gx.newb n17
     have gx:=gx.below n17.below
     have m7:=m7.below (n17.below.mono (by omega))
     have ox18:=gx
     refine lg_appX ox18 r17 (m7.more (B':=w17.heap.size) (by omega)) hin (by first | omega | (simp only [List.length_append,List.length_cons,List.length_nil,List.length_take,List.length_drop,List.length_set,List.length_replicate,clr_len];omega)) (by omega) Wn rfl rfl rfl rfl rfl (by decide) fun r18 w18 g18 k18 l18 e18=>?_
     have z18:=k18.size
     refine ZAn [4,9,7] ?_
     refine Qe ?_
     refine ZM ?_
     refine ZA ?_
     refine Qk ?_
     refine Qi ?_
     have n7:=(n7.below (n8.below.mono (by omega))).set o9 rfl s9
     have n7:=(n7.below (n17.below.mono (by omega))).below (l18.mono (by omega))
     have u:=Un (Un u hw7) n8.below
     have u:=u.trans (s9.below _ (by omega))
     have u:=Un u n17.below
     have u:=u.trans (l18.mono (by omega))
     exact fun a ha=>(show t<128∧_ from ⟨(by omega),Mx,(pre++[((ndGet left).2.1,0)]),r18,r7,(ndGet left).2.2,ha.keep (fk rfl (fk rfl fn)),(n7),(g18.cast (by rw [List.map_append];rfl)),u,(by have z:=hr.next (by omega) (by rw [hpl,hoc]);rw [hpl,hoc] at z;exact z),(by rw [List.length_append,hpl];rfl),hMr,(by omega),cW⟩)
    refine Za (yb (dF c11) yi_eql) ?_
    refine ZM ?_
    refine Zf 45 ?_
    refine Zf 45 ?_
    refine Zf 45 ?_
    refine Za (y_pick false) ?_
    refine ZM ?_
    refine Zt 50 y_move ?_
    refine Zt 50 (yv (congrArg nv (congrArg Nat.cast hml)) (y_lenM (el:=38) (g0.row).len)) ?_
    refine Zt 50 (yi_rem rfl rfl rfl (by omega) (by omega)) ?_
    by_cases c19:(((t:Nat):Int) % 2)=1
    ·refine Zt 50 (yb (dT c19) yi_eql) ?_
     refine Zt 50 y_move ?_
     refine Zt 55 (y_fld (off:=0)) ?_
     refine Zt 55 (Qo (v:=nv ((ndGet left).2.1.kind)) r8 rfl (by kernel_rfl) rfl rfl) ?_
     by_cases c20:(ndGet left).2.1.kind=1
     ·refine Zt 55 (yb (dT c20) yi_eql) ?_
      refine Zt 50 (y_pick true) ?_
      refine Zan (y_pick false) [4,7,8,9,60] ?_
      refine cg_ct rfl ?_
      refine ZrA ?_
      refine ZAnr [4,7,8,9,2,3] ?_
      refine Qc ?_
      refine Qg ?_
      refine Qc ?_
      refine Qg ?_
      refine Qc ?_
      have hfit:¬fitK t (ndGet left).2.1.kind:=by unfold fitK;omega
      have hoc:(ocAt t left)=(7,Nd.zero,[]):=by rw [ocAt,if_neg (by omega),if_neg (not_not_intro c10),if_pos hfit]
      have hee:errO (ocT 128 0 (ogP xs))=7:=by rw [hr.errE (by omega) (by rw [hpl,hoc];decide),hpl,hoc]
      have hG:ogE xs=7:=(ogE_err hI (by rw [hee];decide)).trans hee
      have u:=Un (Un u hw7) n8.below
      have u:=u.trans (s9.below _ (by omega))
      exact eg_ret_tmp2 rfl rfl rfl ⟨_,rfl,nilS,congrArg (fun q=>Value.tuple #[_,nv q]) hG.symm,((RwNd.nil _ _).cast (ogT_no (by rw [hG];decide)).symm),u⟩
     refine Zt 55 (yb (dF c20) yi_eql) ?_
     refine Zt 50 (y_pick true) ?_
     refine Zan (y_pick false) [4,7,8,9,60] ?_
     refine Zcf [4,7,8,9] ?_
     refine Qd ?_
     have m7:=(m7.below (n8.below.mono (by omega))).below (s9.below _ (by omega))
     have hfit:fitK t (ndGet left).2.1.kind:=by unfold fitK;omega
     have hoc:(ocAt t left)=(0,(ndGet left).2.1,(ndGet left).2.2):=by rw [ocAt,if_neg (by omega),if_neg (not_not_intro c10),if_neg (not_not_intro hfit)]
     obtain ⟨Mx,hMx⟩:∃ q:Nat→Prop,q=fun k=>M k∨k<W.heap.size∨(v.heap.size≤k∧k<w9.heap.size):=⟨_,rfl⟩
     have gx:OwnNx Mx w9 bs qr.v (pre.map Prod.fst):=by
      subst hMx
      refine g0.mono (fun k q=>.inl q) (fun k q=>?_) (fun k q z=>?_)
      ·rcases q with q | q | q
       ·exact g0.lt k q
       ·omega
       exact q.2
      have q1:=gv.blk q
      rcases z with z | z | z
      ·exact gv.no k q z
      ·omega
      omega
     have hin:InNd Mx l7:=by
      subst hMx
      exact ((InNd.got o7 f7).and (InNd.of (m7.more (B':=w9.heap.size) (by omega)) fun _ z=>z)).mono fun k z=>z.1.elim (fun q=>.inr (.inl q)) fun q=>.inr (.inr ⟨q,z.2⟩)
     have hMr:∀ k,Mx k→k<W.heap.size∨bs≤k:=by
      subst hMx
      intro k q
      rcases q with q | q | q
      ·exact hM k q
      ·exact .inl q
      exact .inr (by omega)
     refine Qe ?_
     refine ZM ?_
     refine Za (y_loadA r8) ?_
     refine lg_bs1R (l:=l7) (L:=(ndGet left).2.1) Wn rfl rfl rfl (by decide) fun b21 w21 n21=>?_
     have r21:=n21.row
     have k21:=n21.blk
     have z21:=n21.size
     have lt21:b21<w21.heap.size:=by omega
     have hr:=hr
     have hr:=hr
     have hr:=hr
     have hr:=hr
     have nxgxn21:=gx.newb n21
     have gx:=gx.below n21.below
     have m7:=m7.below (n21.below.mono (by omega))
     have ox22:=gx
     refine lg_appX ox22 r21 (m7.more (B':=w21.heap.size) (by omega)) hin (by first | omega | (simp only [List.length_append,List.length_cons,List.length_nil,List.length_take,List.length_drop,List.length_set,List.length_replicate,clr_len];omega)) (by omega) Wn rfl rfl rfl rfl rfl (by decide) fun r22 w22 g22 k22 l22 e22=>?_
     have z22:=k22.size
     refine ZAn [4,9,7] ?_
     refine Qe ?_
     refine ZM ?_
     refine ZA ?_
     refine Qk ?_
     refine Qi ?_
     have n7:=(n7.below (n8.below.mono (by omega))).set o9 rfl s9
     have n7:=(n7.below (n21.below.mono (by omega))).below (l22.mono (by omega))
     have u:=Un (Un u hw7) n8.below
     have u:=u.trans (s9.below _ (by omega))
     have u:=Un u n21.below
     have u:=u.trans (l22.mono (by omega))
     exact fun a ha=>(show t<128∧_ from ⟨(by omega),Mx,(pre++[((ndGet left).2.1,0)]),r22,r7,(ndGet left).2.2,ha.keep (fk rfl (fk rfl fn)),(n7),(g22.cast (by rw [List.map_append];rfl)),u,(by have z:=hr.next (by omega) (by rw [hpl,hoc]);rw [hpl,hoc] at z;exact z),(by rw [List.length_append,hpl];rfl),hMr,(by omega),cW⟩)
    refine Zt 50 (yb (dF c19) yi_eql) ?_
    refine Zt 50 y_move ?_
    refine Zf 55 ?_
    refine Zf 55 ?_
    refine Zf 55 ?_
    refine Zt 50 (y_pick false) ?_
    refine Zan (y_pick false) [4,7,8,9,60] ?_
    refine Zcf [4,7,8,9] ?_
    refine Qd ?_
    have m7:=(m7.below (n8.below.mono (by omega))).below (s9.below _ (by omega))
    have hfit:fitK t (ndGet left).2.1.kind:=by unfold fitK;omega
    have hoc:(ocAt t left)=(0,(ndGet left).2.1,(ndGet left).2.2):=by rw [ocAt,if_neg (by omega),if_neg (not_not_intro c10),if_neg (not_not_intro hfit)]
    obtain ⟨Mx,hMx⟩:∃ q:Nat→Prop,q=fun k=>M k∨k<W.heap.size∨(v.heap.size≤k∧k<w9.heap.size):=⟨_,rfl⟩
    have gx:OwnNx Mx w9 bs qr.v (pre.map Prod.fst):=by
     subst hMx
     refine g0.mono (fun k q=>.inl q) (fun k q=>?_) (fun k q z=>?_)
     ·rcases q with q | q | q
      ·exact g0.lt k q
      ·omega
      exact q.2
     have q1:=gv.blk q
     rcases z with z | z | z
     ·exact gv.no k q z
     ·omega
     omega
    have hin:InNd Mx l7:=by
     subst hMx
     exact ((InNd.got o7 f7).and (InNd.of (m7.more (B':=w9.heap.size) (by omega)) fun _ z=>z)).mono fun k z=>z.1.elim (fun q=>.inr (.inl q)) fun q=>.inr (.inr ⟨q,z.2⟩)
    have hMr:∀ k,Mx k→k<W.heap.size∨bs≤k:=by
     subst hMx
     intro k q
     rcases q with q | q | q
     ·exact hM k q
     ·exact .inl q
     exact .inr (by omega)
    refine Qe ?_
    refine ZM ?_
    refine Za (y_loadA r8) ?_
    refine lg_bs1R (l:=l7) (L:=(ndGet left).2.1) Wn rfl rfl rfl (by decide) fun b23 w23 n23=>?_
    have r23:=n23.row
    have k23:=n23.blk
    have z23:=n23.size
    have lt23:b23<w23.heap.size:=by omega
    have hr:=hr
    have hr:=hr
    have hr:=hr
    have hr:=hr
    have nxgxn23:=gx.newb n23
    have gx:=gx.below n23.below
    have m7:=m7.below (n23.below.mono (by omega))
    have ox24:=gx
    refine lg_appX ox24 r23 (m7.more (B':=w23.heap.size) (by omega)) hin (by first | omega | (simp only [List.length_append,List.length_cons,List.length_nil,List.length_take,List.length_drop,List.length_set,List.length_replicate,clr_len];omega)) (by omega) Wn rfl rfl rfl rfl rfl (by decide) fun r24 w24 g24 k24 l24 e24=>?_
    have z24:=k24.size
    refine ZAn [4,9,7] ?_
    refine Qe ?_
    refine ZM ?_
    refine ZA ?_
    refine Qk ?_
    refine Qi ?_
    have n7:=(n7.below (n8.below.mono (by omega))).set o9 rfl s9
    have n7:=(n7.below (n23.below.mono (by omega))).below (l24.mono (by omega))
    have u:=Un (Un u hw7) n8.below
    have u:=u.trans (s9.below _ (by omega))
    have u:=Un u n23.below
    have u:=u.trans (l24.mono (by omega))
    exact fun a ha=>(show t<128∧_ from ⟨(by omega),Mx,(pre++[((ndGet left).2.1,0)]),r24,r7,(ndGet left).2.2,ha.keep (fk rfl (fk rfl fn)),(n7),(g24.cast (by rw [List.map_append];rfl)),u,(by have z:=hr.next (by omega) (by rw [hpl,hoc]);rw [hpl,hoc] at z;exact z),(by rw [List.length_append,hpl];rfl),hMr,(by omega),cW⟩)
   refine Zan (yb (nd_t c10) yi_neq) [4,7,8,9,10,39] ?_
   refine cg_ct rfl ?_
   refine ZrM ?_
   refine ZA ?_
   refine ZAnr [4,7,8,9,2,3] ?_
   refine Qc ?_
   refine Qg ?_
   refine Qc ?_
   refine Qg ?_
   refine Qc ?_
   have hoc:(ocAt t left)=((ndGet left).1,Nd.zero,[]):=by rw [ocAt,if_neg (by omega),if_pos c10]
   have hee:errO (ocT 128 0 (ogP xs))=(ndGet left).1:=by rw [hr.errE (by omega) (by rw [hpl,hoc];exact c10),hpl,hoc]
   have hG:ogE xs=(ndGet left).1:=(ogE_err hI (by rw [hee];exact c10)).trans hee
   have u:=Un (Un u hw7) n8.below
   have u:=u.trans (s9.below _ (by omega))
   exact eg_ret_tmp2 rfl rfl rfl ⟨_,rfl,nilS,congrArg (fun q=>Value.tuple #[_,nv q]) hG.symm,((RwNd.nil _ _).cast (ogT_no (by rw [hG];exact c10)).symm),u⟩
  refine Zan (yb (dF c5) yi_gtr) [4,7,28] ?_
  refine cg_cf rfl ?_
  refine cg_exit ?_
  refine Qh ?_
  refine Qh ?_
  refine Ql ?_
  refine Nx [7] ?_
  refine Qd ?_
  refine Qd ?_
  have hE:=hr.okE (by omega)
  have hn:=hr.nodes (by omega)
  have g0:=g0.cast hn.symm
  have hpos:=ocT_pos (ogI_pos hI)
  have hl127:=ocN_le hE
  refine Qe ?_
  refine ZM ?_
  refine ZM ?_
  refine Za (y_lenM (el:=38) (g0.row).len) ?_
  refine Za (yv (congrArg nv (show ((ocN (ogP xs)).length:Int)-1=(((ocN (ogP xs)).length-1:Nat):Int) by omega)) (yi_sub rfl rfl rfl (by omega) (by omega))) ?_
  obtain ⟨eb25,eo25,el25,eL25,eA25,eB25,eg25,eh25,ec25⟩:=(g0.row).at ((((ocN (ogP xs)).length-1))) (by have:=(g0.row).len;omega)
  refine Za (y_ixR (s:=qr) (el:=38) (k:=8) (i:=(((ocN (ogP xs)).length-1))) (iI:=((((ocN (ogP xs)).length-1):Nat):Int)) eA25 (by kernel_rfl) (by kernel_rfl) (by omega) (by have:=(g0.row).len;omega) rfl rfl rfl) ?_
  refine Za (y_fld (off:=0)) ?_
  refine Za (y_celld (ec25 0 _ rfl)) ?_
  by_cases c26:eL25.kind=0
  ·refine Zan (yb (dT c26) yi_eql) [7,73] ?_
   refine cg_ct rfl ?_
   refine ZrA ?_
   refine ZAnr [7,2,3] ?_
   refine Qc ?_
   have hG:ogE xs=6:=ogE_trail hI hE (by rw [atN_some eg25];exact c26)
   exact eg_ret_tmp2 rfl rfl rfl ⟨_,rfl,nilS,congrArg (fun q=>Value.tuple #[_,nv q]) hG.symm,((RwNd.nil _ _).cast (ogT_no (by rw [hG];decide)).symm),u⟩
  refine Zan (yb (dF c26) yi_eql) [7,73] ?_
  refine Zcf [7] ?_
  refine Qd ?_
  refine Qj ?_
  refine Qr (fun t2 a v=>∃ (qr2:SlV),Holds 86 [(7,qr2.v)] a∧OwnNx M v bs qr2.v (ocN (ogP xs)++List.replicate t2 Nd.zero)∧Below W.heap.size W v∧t2≤gapO (ocN (ogP xs)).length∧bs≤v.heap.size) (gapO (ocN (ogP xs)).length+1) (fun a ha=>⟨qr,ha.keep (fk rfl fn),(g0.cast (List.append_nil _).symm),u,(Nat.zero_le _),(by omega)⟩) ?_
  rintro t2 a v ht ⟨qr2,ha,g1,u,tle,cB⟩
  refine cg_at ha ?_
  clear ha a
  have zv:=u.size
  have q3:=g1.row.len
  have q4:=g1.row.cap
  have hg:=gap_is (n:=(ocN (ogP xs)).length) (k:=t2) hl127 tle
  have hl2:(ocN (ogP xs)++List.replicate t2 Nd.zero).length=(ocN (ogP xs)).length+t2:=by rw [List.length_append,List.length_replicate]
  have gl:=gap_le hl127
  refine Qd ?_
  refine ZrM ?_
  refine Za (yv (congrArg nv (congrArg Nat.cast hl2)) (y_lenM (el:=38) (g1.row).len)) ?_
  by_cases c27:isW ((((ocN (ogP xs)).length+t2):Nat):Int)
  ·refine Za (yb (dT c27) (Qp (rwholeL ((((ocN (ogP xs)).length+t2):Nat):Int) _))) ?_
   refine Zan y_bnot [7,77] ?_
   refine cg_cf rfl ?_
   refine cg_exit ?_
   refine Qh ?_
   refine Qh ?_
   refine Ql ?_
   refine Nx [7] ?_
   refine Qd ?_
   refine Qd ?_
   obtain rfl:t2=gapO (ocN (ogP xs)).length:=hg.1 c27
   refine Qe ?_
   refine ZM ?_
   by_cases c28:namedL (trAs (widO (ocN (ogP xs))))
   ·refine Zc (rnamedO_any ((g1.row).more (B':=v.heap.size) (by omega)) (Nat.le_refl _) (rg.up u)) rfl rfl ?_
    rintro u29 w29 ⟨e29,hw29⟩
    have zw29:=hw29.size
    obtain rfl:u29=.bool true:=e29.trans (congrArg Value.bool (decide_eq_true c28))
    refine Zan y_bnot [7,84] ?_
    refine Zcf [7] ?_
    refine ZrM ?_
    refine ZA ?_
    refine ZAnr [2,3] ?_
    have hG:ogE xs=0:=ogE_ok hI hE (by rw [atN_some eg25];exact c26) c28
    have g1:=g1.below hw29
    have u:=Un u hw29
    exact eg_ret_tmp2 rfl rfl rfl ⟨_,rfl,qr2,congrArg (fun q=>Value.tuple #[_,nv q]) hG.symm,(g1.row.cast (ogT_ok hG).symm),u⟩
   refine Zc (rnamedO_any ((g1.row).more (B':=v.heap.size) (by omega)) (Nat.le_refl _) (rg.up u)) rfl rfl ?_
   rintro u30 w30 ⟨e30,hw30⟩
   have zw30:=hw30.size
   obtain rfl:u30=.bool false:=e30.trans (congrArg Value.bool (decide_eq_false c28))
   refine Zan y_bnot [7,84] ?_
   refine cg_ct rfl ?_
   refine ZrA ?_
   refine ZAnr [7,2,3] ?_
   refine Qc ?_
   have hG:ogE xs=8:=ogE_unm hI hE (by rw [atN_some eg25];exact c26) c28
   have u:=Un u hw30
   exact eg_ret_tmp2 rfl rfl rfl ⟨_,rfl,nilS,congrArg (fun q=>Value.tuple #[_,nv q]) hG.symm,((RwNd.nil _ _).cast (ogT_no (by rw [hG];decide)).symm),u⟩
  refine Za (yb (dF c27) (Qp (rwholeL ((((ocN (ogP xs)).length+t2):Nat):Int) _))) ?_
  refine Zan y_bnot [7,77] ?_
  refine cg_ct rfl ?_
  refine Zki [7] ?_
  refine Qj ?_
  refine Qe ?_
  refine ZM ?_
  refine Za (y_build (cs:=NdV.zero.cs Nd.zero)) ?_
  refine lg_bs1R (l:=NdV.zero) (L:=Nd.zero) Wn rfl rfl rfl (by decide) fun b31 w31 n31=>?_
  have r31:=n31.row
  have k31:=n31.blk
  have z31:=n31.size
  have lt31:b31<w31.heap.size:=by omega
  have nxg1n31:=g1.newb n31
  have g1:=g1.below n31.below
  have ox32:=g1
  refine lg_appX ox32 r31 ((IsNd.zero _ 0).more (B':=w31.heap.size) (by omega)) (InNd.zero _) (by first | omega | (simp only [List.length_append,List.length_cons,List.length_nil,List.length_take,List.length_drop,List.length_set,List.length_replicate,clr_len];omega)) (by omega) Wn rfl rfl rfl rfl rfl (by decide) fun r32 w32 g32 k32 l32 e32=>?_
  have z32:=k32.size
  refine ZA ?_
  refine Qk ?_
  refine Qi ?_
  have u:=Un u n31.below
  have u:=u.trans (l32.mono (by omega))
  exact fun a ha=>(show t2<(gapO (ocN (ogP xs)).length+1)∧_ from ⟨(by omega),r32,ha.keep (fk rfl fn),(g32.cast (by rw [List.append_assoc,←List.replicate_succ'])),u,(by have:¬t2=gapO (ocN (ogP xs)).length:=fun q=>c27 (hg.2 q);omega),(by omega)⟩)
 refine Zan (yb (nd_t c2) yi_neq) [2,3,4,5,6,18] ?_
 refine cg_ct rfl ?_
 refine ZrM ?_
 refine ZA ?_
 refine ZAnr [4,5,2,3] ?_
 refine Qc ?_
 have hIe:ogI xs=(bytesE xs):=by rw [ogI,if_pos c2]
 have hG:ogE xs=(bytesE xs):=(ogE_in (by rw [hIe];assumption)).trans hIe
 have u:=Un u hw1
 exact eg_ret_tmp2 rfl rfl rfl ⟨_,rfl,nilS,congrArg (fun q=>Value.tuple #[_,nv q]) hG.symm,((RwNd.nil _ _).cast (ogT_no (by rw [hG];assumption)).symm),u⟩
end Go.Proofs.YtognnnjdoemgfaaGreatDoor
