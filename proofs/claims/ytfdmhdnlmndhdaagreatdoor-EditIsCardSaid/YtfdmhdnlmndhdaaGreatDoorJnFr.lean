/-
  The document's Join: the least first, one by one; it lies in memory of its own.
-/
import Derived.Test.YtfdmhdnlmndhdaaGreatDoorKitD
namespace Go.Proofs.YtfdmhdnlmndhdaaGreatDoor
open Go.ChangeShapes Go.WideShapes Go.ChangeAt Go.RowKit
set_option linter.unusedVariables false

/-- The numbers picked so far: they rise, they are of the list, and each that is not picked is greater than all of them. -/
def SelUpto (al out:List Int):Prop:=Rising out∧(∀ x∈out,x∈al)∧∀ x∈al,x∉out→∀ y∈out,y<x
/-- The least of the first t that is not picked, if there is one. -/
def LeastUpto (al out:List Int) (t:Nat) (sm:Bool) (m:Int):Prop :=
 (sm=false→∀ j,j<t→al.getD j 0∈out)∧(sm=true→m∈al∧m∉out∧∀ j,j<t→al.getD j 0∉out→m≤al.getD j 0)
theorem least_start (al out:List Int):LeastUpto al out 0 false 0:=⟨fun _ j hj=>absurd hj (Nat.not_lt_zero _),fun h=>by cases h⟩
section
variable {al out:List Int} {t:Nat} {sm:Bool} {m:Int}
theorem least_in (h:LeastUpto al out t sm m) (hi:al.getD t 0∈out):LeastUpto al out (t+1) sm m :=
 ⟨fun e j hj=>if q:j<t then h.1 e j q else (show j=t by omega)▸hi,fun e=>⟨(h.2 e).1,(h.2 e).2.1,fun j hj hn=>if q:j<t then (h.2 e).2.2 j q hn else absurd ((show j=t by omega)▸hi) hn⟩⟩
theorem least_first (ht:t<al.length) (h:LeastUpto al out t false m) (hi:¬al.getD t 0∈out):LeastUpto al out (t+1) true (al.getD t 0) :=
 ⟨fun e=>(by cases e),fun _=>⟨getD_mem ht,hi,fun j hj hn=>if q:j<t then absurd (h.1 rfl j q) hn else (show j=t by omega)▸Int.le_refl _⟩⟩
theorem least_less (ht:t<al.length) (h:LeastUpto al out t true m) (hi:¬al.getD t 0∈out) (hl:al.getD t 0<m):LeastUpto al out (t+1) true (al.getD t 0) :=
 ⟨fun e=>(by cases e),fun _=>⟨getD_mem ht,hi,fun j hj hn=>if q:j<t then by have:=(h.2 rfl).2.2 j q hn;omega else (show j=t by omega)▸Int.le_refl _⟩⟩
theorem least_keep (h:LeastUpto al out t true m) (hl:¬al.getD t 0<m):LeastUpto al out (t+1) true m :=
 ⟨fun e=>(by cases e),fun _=>⟨(h.2 rfl).1,(h.2 rfl).2.1,fun j hj hn=>if q:j<t then (h.2 rfl).2.2 j q hn else by
  obtain rfl:j=t:=by omega
  omega⟩⟩
theorem sel_start (al:List Int):SelUpto al []:=⟨List.Pairwise.nil,fun x hx=>(by cases hx),fun x _ _ y hy=>(by cases hy)⟩
theorem sel_step (h:SelUpto al out) (hl:LeastUpto al out al.length true m):SelUpto al (out++[m]):=by
 obtain ⟨h1,h2,h3⟩:=hl.2 rfl
 refine ⟨List.pairwise_append.2 ⟨h.1,by simp,fun a ha b hb=>?_⟩,fun x hx=>?_,fun x hx hn y hy=>?_⟩
 ·rw [List.mem_singleton] at hb
  subst hb
  exact h.2.2 b h1 h2 a ha
 ·rcases List.mem_append.1 hx with hx | hx
  ·exact h.2.1 x hx
  rw [List.mem_singleton] at hx
  subst hx
  exact h1
 rw [List.mem_append,List.mem_singleton] at hn
 have hn1:x∉out:=fun q=>hn (.inl q)
 rcases List.mem_append.1 hy with hy | hy
 ·exact h.2.2 x hx hn1 y hy
 rw [List.mem_singleton] at hy
 subst hy
 obtain ⟨j,hj,e⟩:=mem_getD hx
 have:=h3 j hj (by rw [e];exact hn1)
 have hne:¬x=y:=fun q=>hn (.inr q)
 omega
theorem sel_all (h:SelUpto al out) (hal:∀ x∈al,x∈out):out=riseU al:=rising_ext h.1 (riseU_rising al) fun x=>by
 rw [riseU_mem]
 exact ⟨h.2.1 x,hal x⟩
theorem sel_none (h:SelUpto al out) (hl:LeastUpto al out al.length false m):out=riseU al:=sel_all h fun x hx=>by
 obtain ⟨j,hj,e⟩:=mem_getD hx
 rw [←e]
 exact hl.1 rfl j hj
theorem rising_sub {l m:List Int} (hl:Rising l) (hm:Rising m) (h:∀ x∈l,x∈m):l.length≤m.length:=by
 have e:l=m.filter fun x=>decide (x∈l):=rising_ext hl (List.Pairwise.filter _ hm) fun x=>by
  rw [List.mem_filter]
  exact ⟨fun hx=>⟨h x hx,decide_eq_true hx⟩,fun hx=>of_decide_eq_true hx.2⟩
 have:=List.length_filter_le (fun x=>decide (x∈l)) m
 rw [←e] at this
 exact this
theorem sel_full (h:SelUpto al out) (hl:al.length≤out.length):out=riseU al:=sel_all h fun x hx=>by
 refine Decidable.byContradiction fun hn=>?_
 have hr:Rising (out++[x]):=List.pairwise_append.2 ⟨h.1,by simp,fun a ha b hb=>by
  rw [List.mem_singleton] at hb
  subst hb
  exact h.2.2 b hx hn a ha⟩
 have h1:=rising_sub hr (riseU_rising al) fun y hy=>by
  rw [riseU_mem]
  rcases List.mem_append.1 hy with hy | hy
  ·exact h.2.1 y hy
  rw [List.mem_singleton] at hy
  subst hy
  exact hx
 have h2:=riseU_length al
 rw [List.length_append,List.length_cons,List.length_nil] at h1
 omega
end
section
variable {w W:World} {B B2:Nat} {s s2:SlV} {xs ys:List Int}
theorem rjoinF_any (i:Int) (h:SlN W B s xs) (hB:B≤W.heap.size) (hn:xs.length≤900000):Calls Tryz.prog 45 #[s.v,nv i] W fun e w'=>∃ v,e=.returned v∧PutNF W (joinK xs i) v w':=by
 refine Qf (n:=59) Tryz.func45 rfl Tryz.ntmps45 (by simp) ?_
 show CG _ _ _ [(0,s.v),(1,nv i)] _ _
 have u:=Below.refl W.heap.size W
 have le_h:=h.len;have ca_h:=h.cap
 refine ZrA ?_
 refine Zn [0,1,4] ?_
 refine Zr ?_
 obtain ⟨bs2,hbs2⟩:∃ q,q=W.heap.size:=⟨_,rfl⟩
 refine lg_bs0T Wn rfl rfl (by decide) fun v1 w1 g1 l1=>?_
 rw [←hbs2] at g1
 have z1:=l1.size
 refine ZM ?_
 have h:=h.below (l1.mono (by omega))
 refine lg_appT g1 h (by first | omega | (simp only [List.length_nil];omega)) (by omega) Wn rfl rfl rfl rfl rfl (by decide) fun r3 w3 m3 g3 l3 z3=>?_
 simp only [List.nil_append] at m3 g3
 refine ZAn [1,4,5] ?_
 refine ZrM ?_
 refine ZM ?_
 refine lg_bsliceW (el:=3) (z:=nv 0) (cs:=#[nv i]) Wn huIs (by kernel_rfl) (by decide) (by decide) rfl rfl (by kernel_rfl) rfl (by decide) fun b4 w4 n4=>?_
 have r4:=n4.row
 have k4:=n4.blk
 have z4:=n4.size
 have m4:SlN w4 (b4+1) ⟨some ⟨b4,0,none⟩,1,1⟩ [i]:=new_SlN (xs:=[i]) r4 rfl (of_decide_eq_true (by kernel_rfl))
 have og4:w4.ownsRow b4 3 1 (.slice (some ⟨b4,0,none⟩) 1 1) ([i]:List Int).length (([i]:List Int).map (Value.int .i64)):=new_ownN (xs:=[i]) n4 rfl (of_decide_eq_true (by kernel_rfl))
 have g3:=own_below g3 n4.below
 refine lg_appT g3 m4 (by first | omega | (simp only [List.length_cons,List.length_nil];omega)) (by omega) Wn rfl rfl rfl rfl rfl (by decide) fun r5 w5 m5 g5 l5 z5=>?_
 refine ZAn [4,5] ?_
 refine ZrA ?_
 refine Zn [4,5,6] ?_
 refine Qd ?_
 refine Qj ?_
 obtain ⟨C,hC⟩:∃ q,q=w5.heap.size:=⟨_,rfl⟩
 obtain ⟨sa,esa⟩:∃ q:SlV,q=r5:=⟨_,rfl⟩
 obtain ⟨al,eal⟩:∃ q,q=(xs++([i]:List Int)):=⟨_,rfl⟩
 have hal:=m5
 rw [←esa,←eal,←hC] at hal
 have lal:al.length=xs.length+1:=by rw [eal];simp
 show CG _ _ _ [(4,_),(5,r5.v),(6,_)] _ _
 rw [←esa]
 have u:=Un u l1
 have u:=u.trans (l3.mono (by omega))
 have u:=Un u n4.below
 have u:=u.trans (l5.mono (by omega))
 refine Qr (fun t a v=>∃ (r:SlV) (out:List Int),Holds 59 [(5,sa.v),(6,r.v)] a∧SlN v C sa al∧SlN v v.heap.size r out∧v.ownsRow C 3 1 r.v out.length (out.map (Value.int .i64))∧Below W.heap.size W v∧C≤v.heap.size∧SelUpto al out∧out.length=t) al.length (fun a ha=>⟨nilS,[],ha.keep (fk rfl (fk rfl fn)),hal,(SlN.nil _ _),(own_nilN _ _),u,(by omega),(sel_start _),rfl⟩) ?_
 rintro t a v ht ⟨r,out,ha,hal,hr,own,u,cC,sel,hl⟩
 refine cg_at ha ?_
 clear ha a
 have zv:=u.size
 have le_a:=hal.len;have ca_a:=hal.cap
 have le_r:=hr.len;have ca_r:=hr.cap
 refine Qd ?_
 refine ZrM ?_
 refine Za (y_lenM (el:=3) hr.len) ?_
 refine ZM ?_
 refine Za (y_lenM (el:=3) hal.len) ?_
 by_cases c6:(out.length:Int)<(al.length:Int)
 ·refine Zan (yb (dT c6) yi_lss) [5,6,17,18,19,20,21] ?_
  refine cg_ct rfl ?_
  refine Zki [5,6,17,18,19,20,21] ?_
  refine Qj ?_
  refine ZrA ?_
  refine Zn [5,6,17,18,19,20,21,7] ?_
  refine ZrA ?_
  refine Zn [5,6,17,18,19,20,21,7,8] ?_
  refine Qd ?_
  refine ZrA ?_
  refine Zn [5,6,17,18,19,20,21,7,8,9] ?_
  refine Qj ?_
  obtain ⟨D,hD⟩:∃ q,q=v.heap.size:=⟨_,rfl⟩
  have hr:=hr
  rw [←hD] at hr
  refine Qr (fun k a v=>∃ (m:Int) (sm:Bool),Holds 59 [(5,sa.v),(6,r.v),(7,nv m),(8,.bool sm),(9,nv ((k:Nat):Int))] a∧SlN v C sa al∧SlN v D r out∧v.ownsRow C 3 1 r.v out.length (out.map (Value.int .i64))∧Below W.heap.size W v∧C≤v.heap.size∧D≤v.heap.size∧LeastUpto al out k sm m∧k≤al.length) al.length (fun a ha=>⟨0,false,ha.keep (fk rfl (fk rfl (fk rfl (fk rfl (fk rfl fn))))),hal,hr,own,u,(by omega),(by omega),(least_start _ _),(Nat.zero_le _)⟩) ?_
  rintro k a v ht ⟨m,sm,ha,hal,hr,own,u,cC,cD,hle,jle⟩
  refine cg_at ha ?_
  clear ha a
  have zv:=u.size
  refine Qd ?_
  refine ZrM ?_
  refine ZM ?_
  refine Za (y_lenM (el:=3) hal.len) ?_
  by_cases c7:((k:Nat):Int)<(al.length:Int)
  ·refine Zan (yb (dT c7) yi_lss) [5,6,7,8,9,22,23,24,25] ?_
   refine cg_ct rfl ?_
   refine Zki [5,6,7,8,9,22,23,24,25] ?_
   refine Qd ?_
   refine Qj ?_
   refine ZrM ?_
   refine ZM ?_
   refine ZM ?_
   refine Za (y_ixT (i:=k) (iI:=((k:Nat):Int)) hal (by omega) (by omega) rfl rfl rfl) ?_
   refine Za (y_ldT (i:=k) hal (by omega) rfl rfl) ?_
   by_cases c8:(al.getD k 0)∈out
   ·refine Za (yb (dT c8) (Qp (has_any hr (al.getD k 0)))) ?_
    refine Za y_bnot ?_
    refine ZM ?_
    refine Zf 35 ?_
    refine Zf 35 ?_
    refine Zf 35 ?_
    refine Zu 38 ?_
    refine Zu 38 ?_
    refine Zu 38 ?_
    refine Zu 38 ?_
    refine Zu 38 ?_
    refine Zu 38 ?_
    refine Zf 35 ?_
    refine Zan (y_pick false) [5,6,7,8,9,22,23,24,25,28,29,30,31,32,33,34,35,46] ?_
    refine cg_cf rfl ?_
    refine cg_skip ?_
    refine Qi ?_
    refine Nx [5,6,7,8,9,22,23,24,25,28,29,30,31,32,33,34,35,46] ?_
    refine Qe ?_
    refine ZM ?_
    refine Za (yv (congrArg nv (show ((k:Nat):Int)+1=((k+1:Nat):Int) by omega)) (yi_add rfl rfl rfl (by omega) (by omega))) ?_
    refine ZA ?_
    refine Qk ?_
    exact fun a ha=>(show k<al.length∧_ from ⟨(by omega),m,sm,ha.keep (fk rfl (fk rfl (fk rfl (fk rfl (fk rfl fn))))),hal,hr,own,u,(by omega),(by omega),(least_in hle c8),(by omega)⟩)
   refine Za (yb (dF c8) (Qp (has_any hr (al.getD k 0)))) ?_
   refine Za y_bnot ?_
   refine ZM ?_
   cases sm
   ·refine Zt 35 y_move ?_
    refine Zt 35 y_bnot ?_
    refine Zt 35 y_move ?_
    refine Zf 38 ?_
    refine Zf 38 ?_
    refine Zf 38 ?_
    refine Zf 38 ?_
    refine Zf 38 ?_
    refine Zf 38 ?_
    refine Zt 35 (y_pick true) ?_
    refine Zan (y_pick true) [5,6,7,8,9,22,23,24,25,28,29,30,31,32,33,34,35,36,37,38,45,46] ?_
    refine cg_ct rfl ?_
    refine ZrM ?_
    refine ZM ?_
    refine Za (y_ixT (i:=k) (iI:=((k:Nat):Int)) hal (by omega) (by omega) rfl rfl rfl) ?_
    refine Za (y_ldT (i:=k) hal (by omega) rfl rfl) ?_
    refine ZAn [5,6,8,9,22,23,24,25,28,29,30,31,32,33,34,35,36,37,38,45,46,47,48,49,50,7] ?_
    refine Qe ?_
    refine ZA ?_
    refine Qk ?_
    refine Qi ?_
    refine Nx [5,6,9,22,23,24,25,28,29,30,31,32,33,34,35,36,37,38,45,46,47,48,49,50,7,8] ?_
    refine Qe ?_
    refine ZM ?_
    refine Za (yv (congrArg nv (show ((k:Nat):Int)+1=((k+1:Nat):Int) by omega)) (yi_add rfl rfl rfl (by omega) (by omega))) ?_
    refine ZA ?_
    refine Qk ?_
    exact fun a ha=>(show k<al.length∧_ from ⟨(by omega),(al.getD k 0),true,ha.keep (fk rfl (fk rfl (fk rfl (fk rfl (fk rfl fn))))),hal,hr,own,u,(by omega),(by omega),(least_first (by omega) hle c8),(by omega)⟩)
   refine Zt 35 y_move ?_
   refine Zt 35 y_bnot ?_
   refine Zt 35 y_move ?_
   refine Zt 38 y_move ?_
   refine Zt 38 y_move ?_
   refine Zt 38 (y_ixT (i:=k) (iI:=((k:Nat):Int)) hal (by omega) (by omega) rfl rfl rfl) ?_
   refine Zt 38 (y_ldT (i:=k) hal (by omega) rfl rfl) ?_
   refine Zt 38 y_move ?_
   by_cases c9:(al.getD k 0)<m
   ·refine Zt 38 (yb (dT c9) yi_lss) ?_
    refine Zt 35 (y_pick false) ?_
    refine Zan (y_pick true) [5,6,7,8,9,22,23,24,25,28,29,30,31,32,33,34,35,36,37,38,39,40,41,42,43,44,45,46] ?_
    refine cg_ct rfl ?_
    refine ZrM ?_
    refine ZM ?_
    refine Za (y_ixT (i:=k) (iI:=((k:Nat):Int)) hal (by omega) (by omega) rfl rfl rfl) ?_
    refine Za (y_ldT (i:=k) hal (by omega) rfl rfl) ?_
    refine ZAn [5,6,8,9,22,23,24,25,28,29,30,31,32,33,34,35,36,37,38,39,40,41,42,43,44,45,46,47,48,49,50,7] ?_
    refine Qe ?_
    refine ZA ?_
    refine Qk ?_
    refine Qi ?_
    refine Nx [5,6,9,22,23,24,25,28,29,30,31,32,33,34,35,36,37,38,39,40,41,42,43,44,45,46,47,48,49,50,7,8] ?_
    refine Qe ?_
    refine ZM ?_
    refine Za (yv (congrArg nv (show ((k:Nat):Int)+1=((k+1:Nat):Int) by omega)) (yi_add rfl rfl rfl (by omega) (by omega))) ?_
    refine ZA ?_
    refine Qk ?_
    exact fun a ha=>(show k<al.length∧_ from ⟨(by omega),(al.getD k 0),true,ha.keep (fk rfl (fk rfl (fk rfl (fk rfl (fk rfl fn))))),hal,hr,own,u,(by omega),(by omega),(least_less (by omega) hle c8 c9),(by omega)⟩)
   refine Zt 38 (yb (dF c9) yi_lss) ?_
   refine Zt 35 (y_pick false) ?_
   refine Zan (y_pick true) [5,6,7,8,9,22,23,24,25,28,29,30,31,32,33,34,35,36,37,38,39,40,41,42,43,44,45,46] ?_
   refine cg_cf rfl ?_
   refine cg_skip ?_
   refine Qi ?_
   refine Nx [5,6,7,8,9,22,23,24,25,28,29,30,31,32,33,34,35,36,37,38,39,40,41,42,43,44,45,46] ?_
   refine Qe ?_
   refine ZM ?_
   refine Za (yv (congrArg nv (show ((k:Nat):Int)+1=((k+1:Nat):Int) by omega)) (yi_add rfl rfl rfl (by omega) (by omega))) ?_
   refine ZA ?_
   refine Qk ?_
   exact fun a ha=>(show k<al.length∧_ from ⟨(by omega),m,true,ha.keep (fk rfl (fk rfl (fk rfl (fk rfl (fk rfl fn))))),hal,hr,own,u,(by omega),(by omega),(least_keep hle c9),(by omega)⟩)
  obtain rfl:k=al.length:=by omega
  refine Zan (yb (dF c7) yi_lss) [5,6,7,8,9,22,23,24,25] ?_
  refine cg_cf rfl ?_
  refine cg_exit ?_
  refine Qh ?_
  refine Qh ?_
  refine Ql ?_
  refine Nx [5,6,7,8,9,22,23,24,25] ?_
  refine Qd ?_
  refine Zr ?_
  cases sm
  ·refine ZM ?_
   refine Zan y_bnot [5,6,7,8,9,22,23,24,25,51,52] ?_
   refine cg_ct rfl ?_
   refine ZrM ?_
   refine ZAnr [5,6,7,8,9,22,23,24,25,51,52,53,4] ?_
   refine Qc ?_
   refine Qg ?_
   refine Qc ?_
   refine Qg ?_
   refine Qc ?_
   exact Qa rfl rfl ⟨_,rfl,r,rfl,((hr.more (by omega)).cast ((sel_none sel hle).trans (by rw [eal,joinK]))),own_fr (n:=0) own rfl (by omega),u⟩
  refine ZM ?_
  refine Zan y_bnot [5,6,7,8,9,22,23,24,25,51,52] ?_
  refine Zcf [5,6,7,8,9,22,23,24,25,51,52] ?_
  refine Qe ?_
  refine ZM ?_
  refine ZM ?_
  refine lg_bsliceW (el:=3) (z:=nv 0) (cs:=#[nv m]) Wn huIs (by kernel_rfl) (by decide) (by decide) rfl rfl (by kernel_rfl) rfl (by decide) fun b10 w10 n10=>?_
  have r10:=n10.row
  have k10:=n10.blk
  have z10:=n10.size
  have m10:SlN w10 (b10+1) ⟨some ⟨b10,0,none⟩,1,1⟩ [m]:=new_SlN (xs:=[m]) r10 rfl (of_decide_eq_true (by kernel_rfl))
  have og10:w10.ownsRow b10 3 1 (.slice (some ⟨b10,0,none⟩) 1 1) ([m]:List Int).length (([m]:List Int).map (Value.int .i64)):=new_ownN (xs:=[m]) n10 rfl (of_decide_eq_true (by kernel_rfl))
  have own:=own_below own n10.below
  refine lg_appT own m10 (by first | omega | (simp only [List.length_cons,List.length_nil];omega)) (by omega) Wn rfl rfl rfl rfl rfl (by decide) fun r11 w11 m11 g11 l11 z11=>?_
  refine ZA ?_
  refine Qk ?_
  refine Qi ?_
  have hal:=(hal.below (n10.below.mono (by omega))).below (l11.mono (by omega))
  have u:=Un u n10.below
  have u:=u.trans (l11.mono (by omega))
  exact fun a ha=>(show t<al.length∧_ from ⟨(by omega),r11,_,ha.keep (fk rfl (fk rfl fn)),hal,m11,g11,u,(by omega),(sel_step sel hle),(by rw [List.length_append,hl];rfl)⟩)
 refine Zan (yb (dF c6) yi_lss) [5,6,17,18,19,20,21] ?_
 refine cg_cf rfl ?_
 refine cg_exit ?_
 refine Qh ?_
 refine Qh ?_
 refine Ql ?_
 refine Nx [6] ?_
 refine ZrM ?_
 refine ZAnr [4] ?_
 exact Qa rfl rfl ⟨_,rfl,r,rfl,((hr.more (by omega)).cast ((sel_full sel (by omega)).trans (by rw [eal,joinK]))),own_fr (n:=0) own rfl (by omega),u⟩
end
end Go.Proofs.YtfdmhdnlmndhdaaGreatDoor
