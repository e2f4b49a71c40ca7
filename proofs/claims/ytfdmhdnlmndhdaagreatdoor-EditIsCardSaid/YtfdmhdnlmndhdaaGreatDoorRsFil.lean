/-
  A way up, filtered: what the program answers.
-/
import Derived.Test.YtfdmhdnlmndhdaaGreatDoorRsFork
namespace Go.Proofs.YtfdmhdnlmndhdaaGreatDoor
open Go.ChangeShapes Go.WideShapes Go.ChangeAt Go.RowKit
set_option linter.unusedVariables false

theorem fork_len (a:List Nd) (i:Int):(forkL a i).length≤6:=by
 unfold forkL
 split
 ·refine Nat.le_trans (List.length_filter_le _ _) ?_
  rw [wayP,List.length_zip]
  have:=dirL (2*i) a.length
  omega
 exact Nat.zero_le _
theorem filter_any {W:World} {B:Nat} {s:SlV} {Ls:List Nd} (h:RwNd W B s Ls) (i:Int) (hB:B≤W.heap.size) (rg:Tb W):Calls Tryz.prog 93 #[s.v,nv i] W fun e W'=>∃ v,e=.returned v∧∃ r:SlV,v=r.v∧SlN W' W'.heap.size r ((forkL (trAs Ls) i).map Prod.fst)∧Below W.heap.size W W':=by
 have h:=h.more hB
 have hlt:=rg.lt
 refine calls_cx (n:=17) Tryz.func93 rfl Tryz.ntmps93 (by simp) (fun _ q=>by simp at q) ?_
 show CX none [] _ _ _ [(0,s.v),(1,nv i)] _ _
 have u:=Below.refl W.heap.size W
 refine cx_seq ?_
 refine Qq ?_
 refine ZA ?_
 refine Qk ?_
 refine Nxx [0,1,4] ?_
 refine cx_seq ?_
 refine Qq ?_
 refine lg_allocs (u:=nilS.v) (by kernel_rfl) rfl Wn rfl rfl (by decide) fun b1 w1 n1=>?_
 have r1:=n1.row
 have k1:=n1.blk
 have z1:=n1.size
 have lt1:b1<w1.heap.size:=by omega
 refine Qk ?_
 refine Nxx [0,1,4,5] ?_
 refine cx_seq ?_
 refine cx_seq ?_
 refine Qq ?_
 refine ZM ?_
 refine ZM ?_
 have h:=h.below (n1.below.mono (by omega))
 refine Zc (forks_any s i _ h) rfl rfl ?_
 rintro _ w2 ⟨bx2,bt2,rfl,x2,y2,i2,j2,hw2⟩
 have zw2:=hw2.size
 have lx2:=x2.lt
 have ly2:=y2.lt
 refine Qk ?_
 refine Nxx [4,5,9] ?_
 refine cx_block ?_
 obtain ⟨bs,hbs⟩:∃ q,q=w2.heap.size:=⟨_,rfl⟩
 have h:=h.below (hw2.mono (by omega))
 have u:=Un (Un u n1.below) hw2
 have r1:=RowAt.below hw2 r1.lt r1
 have rg:=(rg.up n1.below).up hw2
 refine cx_told2 (e1:=(fun p:Int × Int=>nv p.1)) (e2:=(fun p:Int × Int=>nv p.2)) (e3:=(fun p:Int × Int=>nv p.1)) (d':=6) (m0:=mine b1 nilS.v) (by kernel_rfl) rfl (forks_tells i bx2 bt2 _ _ _ _ (by omega) hlt h rg x2 y2) (fun k q=>by obtain rfl:k=b1:=mine_nil q;exact ⟨fun z=>by rcases z with z | z | z<;>omega,by omega⟩) (fun k hk z=>by rcases z with z | rfl | rfl<;>omega) (by decide) (by decide) 
  (fun (pre:List (Int × Int)) m X=>∃ r:SlV,m=mine b1 r.v∧RowAt X b1 46 #[r.v]∧X.ownsRow bs 3 1 r.v (pre.map Prod.fst).length ((pre.map Prod.fst).map (Value.int .i64)))
  (fun c (pre:List (Int × Int)) m X=>False)
  (fun s m X Y hX ⟨r,hm,r5,g0⟩ k=>⟨r,hm,k.row (.inl (by rw [hm];exact .inl rfl)) r5,own_kept g0 k fun q e=>.inl (by rw [hm];exact .inr e)⟩)
  (fun c s m X Y hX h k=>h)
  ⟨nilS,rfl,r1,own_nilN _ _⟩
  (fun l x W=>as_take rfl rfl rfl rfl (by decide) rfl l W)
  ?_ ?_ ?_
 ·rintro l3 pre3 k3 v3 m3 d3 hi3 hp3
  obtain ⟨r,rfl,r1,g0⟩:=hi3
  have fl:=fork_len (trAs Ls) i
  have pl:=hp3.length_le
  simp only [List.length_append,List.length_cons,List.length_nil] at pl
  have hr:=Did.refl d3.lt
  have zv3:=d3.kept.size
  have lw3:=r1.lt
  refine cx_block ?_
  refine Qq ?_
  refine Za (Qo (v:=r.v) r1 rfl (by kernel_rfl) rfl rfl) ?_
  refine ZM ?_
  refine lg_bslice (el:=3) (z:=nv 0) (cs:=#[nv k3.1]) huIs (by kernel_rfl) (by decide) (by decide) rfl rfl (by kernel_rfl) rfl rfl (by decide) fun b4 w4 n4=>?_
  have r4:=n4.row
  have k4:=n4.blk
  have z4:=n4.size
  have m4:SlN w4 (b4+1) ⟨some ⟨b4,0,none⟩,1,1⟩ [k3.1]:=new_SlN (xs:=[k3.1]) r4 rfl (of_decide_eq_true (by kernel_rfl))
  have og4:w4.ownsRow b4 3 1 (.slice (some ⟨b4,0,none⟩) 1 1) ([k3.1]:List Int).length (([k3.1]:List Int).map (Value.int .i64)):=new_ownN (xs:=[k3.1]) n4 rfl (of_decide_eq_true (by kernel_rfl))
  have g0:=own_below g0 n4.below
  refine lg_appM (b:=b1) g0 r4 (by first | omega | (simp only [List.length_map];omega)) (by omega) (by omega) Wn rfl rfl rfl rfl rfl (by decide) fun r5 w5 m5 g5 l5 j5=>?_
  have z5:=l5.size
  have r1:=n4.keep r1
  have r1:=RowAt.below l5 (by omega) r1
  have o6:=r1
  refine lg_sts r1 rfl rfl (by kernel_rfl) Wn rfl rfl rfl rfl fun w6 s6=>?_
  have r1:=s6.row
  have z6:=s6.size
  refine Qk ?_
  refine Qs ?_
  have hr:=(hr.call n4.below).trans j5
  have hr:=hr.trans (Did.set s6 o6 (.inl rfl) hr.lt)
  have g5:=own_set g5 s6 o6 (by omega)
  exact fun a ha=>⟨_,hr,_,rfl,r1,own_castN g5 (by simp)⟩
 ·rintro D3 v3d m3 hz3 d3 nD3 hi3 hD3
  obtain ⟨r,rfl,r1,g0⟩:=hi3
  have u:=u.trans (d3.below (n0:=W.heap.size) (by omega) (fun k q=>by obtain rfl:k=b1:=mine_nil q;omega))
  have zv3:=d3.kept.size
  have hKD3:=hD3
  refine Qs ?_
  refine Nxx [4,5] ?_
  refine cx_seq ?_
  refine Qq ?_
  refine Za (Qo (v:=r.v) r1 rfl (by kernel_rfl) rfl rfl) ?_
  refine ZA ?_
  refine Qk ?_
  refine Nxx [4] ?_
  refine cx_ret ?_
  exact xg_ret [D3] ⟨hKD3,trivial⟩ (res_tmp rfl rfl) ⟨_,rfl,r,rfl,own_num (owns_nc g0 (put_grown _ D3 (.deferred none)) (put_nc hKD3)),(below_nc u (B:=D3) (by omega) (Nat.le_refl _) (put_grown _ D3 (.deferred none)) (fun r e=>by cases e;exact Nat.le_refl _))⟩
 rintro D3 c3 pre3 v3s m3 hz3 hp3 d3 nD3 hi3 hD3
 exact hi3.elim
theorem beside_any {W:World} {B:Nat} {s:SlV} {Ls:List Nd} (h:RwNd W B s Ls) (i:Int) (hB:B≤W.heap.size) (rg:Tb W):Calls Tryz.prog 94 #[s.v,nv i] W fun e W'=>∃ v,e=.returned v∧∃ r:SlV,v=r.v∧SlN W' W'.heap.size r ((forkL (trAs Ls) i).map Prod.snd)∧Below W.heap.size W W':=by
 have h:=h.more hB
 have hlt:=rg.lt
 refine calls_cx (n:=18) Tryz.func94 rfl Tryz.ntmps94 (by simp) (fun _ q=>by simp at q) ?_
 show CX none [] _ _ _ [(0,s.v),(1,nv i)] _ _
 have u:=Below.refl W.heap.size W
 refine cx_seq ?_
 refine Qq ?_
 refine ZA ?_
 refine Qk ?_
 refine Nxx [0,1,4] ?_
 refine cx_seq ?_
 refine Qq ?_
 refine lg_allocs (u:=nilS.v) (by kernel_rfl) rfl Wn rfl rfl (by decide) fun b1 w1 n1=>?_
 have r1:=n1.row
 have k1:=n1.blk
 have z1:=n1.size
 have lt1:b1<w1.heap.size:=by omega
 refine Qk ?_
 refine Nxx [0,1,4,5] ?_
 refine cx_seq ?_
 refine cx_seq ?_
 refine Qq ?_
 refine ZM ?_
 refine ZM ?_
 have h:=h.below (n1.below.mono (by omega))
 refine Zc (forks_any s i _ h) rfl rfl ?_
 rintro _ w2 ⟨bx2,bt2,rfl,x2,y2,i2,j2,hw2⟩
 have zw2:=hw2.size
 have lx2:=x2.lt
 have ly2:=y2.lt
 refine Qk ?_
 refine Nxx [4,5,10] ?_
 refine cx_block ?_
 obtain ⟨bs,hbs⟩:∃ q,q=w2.heap.size:=⟨_,rfl⟩
 have h:=h.below (hw2.mono (by omega))
 have u:=Un (Un u n1.below) hw2
 have r1:=RowAt.below hw2 r1.lt r1
 have rg:=(rg.up n1.below).up hw2
 refine cx_told2 (e1:=(fun p:Int × Int=>nv p.1)) (e2:=(fun p:Int × Int=>nv p.2)) (e3:=(fun p:Int × Int=>nv p.2)) (d':=7) (m0:=mine b1 nilS.v) (by kernel_rfl) rfl (forks_tells i bx2 bt2 _ _ _ _ (by omega) hlt h rg x2 y2) (fun k q=>by obtain rfl:k=b1:=mine_nil q;exact ⟨fun z=>by rcases z with z | z | z<;>omega,by omega⟩) (fun k hk z=>by rcases z with z | rfl | rfl<;>omega) (by decide) (by decide) 
  (fun (pre:List (Int × Int)) m X=>∃ r:SlV,m=mine b1 r.v∧RowAt X b1 46 #[r.v]∧X.ownsRow bs 3 1 r.v (pre.map Prod.snd).length ((pre.map Prod.snd).map (Value.int .i64)))
  (fun c (pre:List (Int × Int)) m X=>False)
  (fun s m X Y hX ⟨r,hm,r5,g0⟩ k=>⟨r,hm,k.row (.inl (by rw [hm];exact .inl rfl)) r5,own_kept g0 k fun q e=>.inl (by rw [hm];exact .inr e)⟩)
  (fun c s m X Y hX h k=>h)
  ⟨nilS,rfl,r1,own_nilN _ _⟩
  (fun l x W=>as_take rfl rfl rfl rfl (by decide) rfl l W)
  ?_ ?_ ?_
 ·rintro l3 pre3 k3 v3 m3 d3 hi3 hp3
  obtain ⟨r,rfl,r1,g0⟩:=hi3
  have fl:=fork_len (trAs Ls) i
  have pl:=hp3.length_le
  simp only [List.length_append,List.length_cons,List.length_nil] at pl
  have hr:=Did.refl d3.lt
  have zv3:=d3.kept.size
  have lw3:=r1.lt
  refine cx_block ?_
  refine Qq ?_
  refine Za (Qo (v:=r.v) r1 rfl (by kernel_rfl) rfl rfl) ?_
  refine ZM ?_
  refine lg_bslice (el:=3) (z:=nv 0) (cs:=#[nv k3.2]) huIs (by kernel_rfl) (by decide) (by decide) rfl rfl (by kernel_rfl) rfl rfl (by decide) fun b4 w4 n4=>?_
  have r4:=n4.row
  have k4:=n4.blk
  have z4:=n4.size
  have m4:SlN w4 (b4+1) ⟨some ⟨b4,0,none⟩,1,1⟩ [k3.2]:=new_SlN (xs:=[k3.2]) r4 rfl (of_decide_eq_true (by kernel_rfl))
  have og4:w4.ownsRow b4 3 1 (.slice (some ⟨b4,0,none⟩) 1 1) ([k3.2]:List Int).length (([k3.2]:List Int).map (Value.int .i64)):=new_ownN (xs:=[k3.2]) n4 rfl (of_decide_eq_true (by kernel_rfl))
  have g0:=own_below g0 n4.below
  refine lg_appM (b:=b1) g0 r4 (by first | omega | (simp only [List.length_map];omega)) (by omega) (by omega) Wn rfl rfl rfl rfl rfl (by decide) fun r5 w5 m5 g5 l5 j5=>?_
  have z5:=l5.size
  have r1:=n4.keep r1
  have r1:=RowAt.below l5 (by omega) r1
  have o6:=r1
  refine lg_sts r1 rfl rfl (by kernel_rfl) Wn rfl rfl rfl rfl fun w6 s6=>?_
  have r1:=s6.row
  have z6:=s6.size
  refine Qk ?_
  refine Qs ?_
  have hr:=(hr.call n4.below).trans j5
  have hr:=hr.trans (Did.set s6 o6 (.inl rfl) hr.lt)
  have g5:=own_set g5 s6 o6 (by omega)
  exact fun a ha=>⟨_,hr,_,rfl,r1,own_castN g5 (by simp)⟩
 ·rintro D3 v3d m3 hz3 d3 nD3 hi3 hD3
  obtain ⟨r,rfl,r1,g0⟩:=hi3
  have u:=u.trans (d3.below (n0:=W.heap.size) (by omega) (fun k q=>by obtain rfl:k=b1:=mine_nil q;omega))
  have zv3:=d3.kept.size
  have hKD3:=hD3
  refine Qs ?_
  refine Nxx [4,5] ?_
  refine cx_seq ?_
  refine Qq ?_
  refine Za (Qo (v:=r.v) r1 rfl (by kernel_rfl) rfl rfl) ?_
  refine ZA ?_
  refine Qk ?_
  refine Nxx [4] ?_
  refine cx_ret ?_
  exact xg_ret [D3] ⟨hKD3,trivial⟩ (res_tmp rfl rfl) ⟨_,rfl,r,rfl,own_num (owns_nc g0 (put_grown _ D3 (.deferred none)) (put_nc hKD3)),(below_nc u (B:=D3) (by omega) (Nat.le_refl _) (put_grown _ D3 (.deferred none)) (fun r e=>by cases e;exact Nat.le_refl _))⟩
 rintro D3 c3 pre3 v3s m3 hz3 hp3 d3 nD3 hi3 hD3
 exact hi3.elim
end Go.Proofs.YtfdmhdnlmndhdaaGreatDoor
