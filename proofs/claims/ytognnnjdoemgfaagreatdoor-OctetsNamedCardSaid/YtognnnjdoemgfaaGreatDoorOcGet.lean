/-
  Octets that are read: what the program answers.
-/
import Derived.Test.YtognnnjdoemgfaaGreatDoorOcProg
namespace Go.Proofs.YtognnnjdoemgfaaGreatDoor
open Go.ChangeShapes Go.WideShapes Go.ChangeAt Go.RowKit
set_option linter.unusedVariables false

/-- A node that is told: where it lies, what it says, its error. -/
structure OcV where
 l:NdV
 L:Nd
 e:Int
abbrev OcV.say (p:OcV):Nd × Int:=(p.L,p.e)
section
variable {w w':World} {B B' a n0:Nat} {s:SlV} {l:NdV} {L:Nd} {M M':Nat→Prop}
theorem Old.in (h:Old B s) (g:∀ k,k<B→M k):InS M s:=fun h0 p e=>g _ (h h0 p e)
theorem Fr.in (h:Fr a s) (g:∀ k,a≤k→M k):InS M s:=fun _ p e=>g _ (h p e)
theorem InNd.got (ho:l.old B) (hf:l.fresh a):InNd (fun k=>k<B∨a≤k) l :=
 ⟨ho.1.1.in fun _=>.inl,ho.1.2.1.in fun _=>.inl,ho.1.2.2.in fun _=>.inl,ho.2.1.in fun _=>.inl,ho.2.2.in fun _=>.inl,Fr.in hf fun _=>.inr⟩
theorem InS.and (h:InS M s) (g:InS M' s):InS (fun k=>M k∧M' k) s:=fun h0 p e=>⟨h h0 p e,g h0 p e⟩
theorem InNd.and (h:InNd M l) (g:InNd M' l):InNd (fun k=>M k∧M' k) l:=⟨h.enc.and g.enc,h.cred.and g.cred,h.par.and g.par,h.ienc.and g.ienc,h.hash.and g.hash,h.unm.and g.unm⟩
/-- What is said of a node that is told. -/
def SayO (B:Nat) (n0:Nat) (X:World) (p:OcV):Prop:=IsNd X X.heap.size p.l p.L∧InNd (fun k=>k<B∨n0≤k) p.l
theorem SayO.kept {X Y:World} {p:OcV} {c:Nat} (h:SayO B n0 X p) (k:Kept (fun k=>k<c∨n0≤k) X Y) (hB:B≤c):SayO B n0 Y p :=
 ⟨h.1.inn h.2 (k.mono fun i _ z=>z.imp (fun q=>by omega) id),h.2⟩
theorem SayO.inn {X:World} {p:OcV} (h:SayO B n0 X p) (g:∀ k,(k<B∨n0≤k∧k<X.heap.size)→M k):InNd M p.l :=
 (h.2.and (InNd.of h.1 fun _ z=>z)).mono fun k q=>g k (q.1.imp id fun z=>⟨z,q.2⟩)
theorem Tb.upB {w w':World} {b:Nat} (h:Tb w) (g:Below b w w') (hb:1<b):Tb w':=by
 obtain ⟨tg,r⟩:=h
 exact ⟨tg,RowAt.below g hb r⟩
end
theorem Kept.own {A B C:World} {s q:Value} (h:Kept (fun k=>s.ownBlock≠some k) A B) (e:∀ k,q.ownBlock=some k→s.ownBlock=some k∨A.heap.size≤k) (g:Kept (fun k=>some k≠q.ownBlock) B C):Kept (fun k=>s.ownBlock≠some k) A C :=
 ⟨g.os.trans h.os,g.tape.trans h.tape,g.output.trans h.output,Nat.le_trans h.size g.size,fun k hk hm=>(g.block k (Nat.lt_of_lt_of_le hk h.size) fun z=>(e k z.symm).elim hm fun z=>by omega).trans (h.block k hk hm)⟩
theorem OwnNx.did {M m1:Nat→Prop} {w w':World} {base:Nat} {u:Value} {r:SlV} {Ls:List Nd} (h:OwnNx M w' base r.v Ls) (kp:Kept (fun k=>some k≠u.ownBlock) w w') (hu:∀ k,u.ownBlock=some k→m1 k) (hlt:∀ k,m1 k→k<w.heap.size) (e:∀ k,r.v.ownBlock=some k→u.ownBlock=some k∨w.heap.size≤k):Did m1 (fun k=>m1 k∨r.v.ownBlock=some k) w w' :=
 ⟨kp.mono fun k _ q e2=>q (hu k e2.symm),fun k q=>q.elim .inl fun z=>(e k z).imp (hu k) id,fun k q=>q.elim (fun z=>Nat.lt_of_lt_of_le (hlt k z) kp.size) fun z=>(h.blk z).2⟩
theorem res_cell2 {P:Program} {n:Nat} {E:Env} {v1 v2:Value} {fn:Func} {p q:Tmp} {ty uy tr ur:TypeId} {b c:Nat} {w':World} (h:fn.results=#[.cell p ty,.cell q uy]) (hp:look E p=some (pv b 0)) (hq:look E q=some (pv c 0)) (hr:RowAt w' b tr #[v1]) (hu:aggB P ty=some false) (hr2:RowAt w' c ur #[v2]) (hu2:aggB P uy=some false):∀ a,Holds n E a→(results fn a.tmps).run P w'=.ok (.tuple #[v1,v2]) w':=fun a ha=>by
 have h1:=ha.2.2 p _ hp
 have h2:=ha.2.2 q _ hq
 have c1:w'.cell? ⟨b,0,none⟩=some v1:=by rw [cell_of_row w' b 0 _ tr _ hr];rfl
 have c2:w'.cell? ⟨c,0,none⟩=some v2:=by rw [cell_of_row w' c 0 _ ur _ hr2];rfl
 simp [results,h,h1,h2,asAddr,loadVar,run_isAgg hu,run_isAgg hu2,c1,c2]
theorem errO_app:∀ {l r:List (Nd × Int)},¬errO l=0→errO (l++r)=errO l
 | [],r,h=>absurd rfl h
 | p::l,r,h=>by
  unfold errO at h
  rw [List.cons_append,errO,errO]
  split
  ·rw [if_pos ‹p.2=0›] at h
   exact errO_app h
  rfl
theorem errO_told {T:List (Nd × Int)} {l:List (Nd × Int)} {p:Nd × Int} (h:l++[p] <+: T) (ok:∀ q∈l,q.2=0) (no:¬p.2=0):errO T=p.2:=by
 obtain ⟨r,rfl⟩:=h
 rw [errO_app (by rw [errO_last ok];exact no),errO_last ok]
theorem oc_le:∀ (f x:Nat) (xs:List Int),x+f=128→x≤127→errO (ocT f x xs)=0→x+(ocT f x xs).length≤127
 | 0,x,xs,h,h2,_=>by omega
 | f+1,x,xs,h,h2,e=>by
  rw [ocT] at e ⊢
  split at e
  ·rw [if_pos ‹_›]
   exact h2
  rw [if_neg ‹_›]
  rw [errO] at e
  split at e
  ·rename_i c
   have c:(ocAt x xs).1=0:=c
   rw [if_pos c]
   have e:errO (ocT f (x+1) (ocAt x xs).2.2)=0:=by
    first | exact e | (rw [if_pos c] at e;exact e)
   have hx:x<127:=by
    by_cases q:x=127
    ·rw [q] at c
     exact absurd c oc_full
    omega
   have:=oc_le f (x+1) _ (by omega) (by omega) e
   simp only [List.length_cons]
   omega
  exact absurd e ‹_›
theorem ocN_le {own:List Int} (h:errO (ocT 128 0 own)=0):(ocN own).length≤127:=by
 have:=oc_le 128 0 own rfl (by decide) h
 rw [ocN,List.length_map]
 omega
theorem widened_any {M:Nat→Prop} {W:World} {base:Nat} {s:SlV} {Ls:List Nd} (h:OwnNx M W base s.v Ls) (hb:base≤W.heap.size) (hn:Ls.length≤127):Calls Tryz.prog 20 #[s.v] W fun e W'=>∃ v,e=.returned v∧∃ r:SlV,v=r.v∧OwnNx M W' base r.v (widO Ls)∧Kept (fun k=>s.v.ownBlock≠some k) W W'∧(∀ k,r.v.ownBlock=some k→s.v.ownBlock=some k∨W.heap.size≤k)∧Below base W W':=by
 refine Qf (n:=12) Tryz.func20 rfl Tryz.ntmps20 (by simp) ?_
 show CG _ _ _ [(0,s.v)] _ _
 have u:=Below.refl W.heap.size W
 have ub:=Below.refl base W
 refine ZrA ?_
 refine Zn [0,2] ?_
 refine Qd ?_
 refine Qj ?_
 refine Qr (fun t a v=>∃ (qr:SlV),Holds 12 [(0,qr.v)] a∧OwnNx M v base qr.v (Ls++List.replicate t Nd.zero)∧Below base W v∧t≤gapO Ls.length∧Kept (fun k=>s.v.ownBlock≠some k) W v∧(∀ k,qr.v.ownBlock=some k→s.v.ownBlock=some k∨W.heap.size≤k)) (gapO Ls.length+1) (fun a ha=>⟨s,ha.keep (fk rfl fn),(h.cast (List.append_nil _).symm),ub,(Nat.zero_le _),(Kept.refl _ _),(fun k q=>.inl q)⟩) ?_
 rintro t a v ht ⟨qr,ha,g0,ub,tle,kp,ke⟩
 refine cg_at ha ?_
 clear ha a
 have zv:=ub.size
 have q1:=g0.row.len
 have q2:=g0.row.cap
 have hg:=gap_is (n:=Ls.length) (k:=t) hn tle
 have hl:(Ls++List.replicate t Nd.zero).length=Ls.length+t:=by rw [List.length_append,List.length_replicate]
 have gl:=gap_le hn
 refine Qd ?_
 refine ZrM ?_
 refine Za (yv (congrArg nv (congrArg Nat.cast hl)) (y_lenM (el:=38) (g0.row).len)) ?_
 by_cases c1:isW (((Ls.length+t):Nat):Int)
 ·refine Za (yb (dT c1) (Qp (wholeL (((Ls.length+t):Nat):Int) _))) ?_
  refine Zan y_bnot [0,6] ?_
  refine cg_cf rfl ?_
  refine cg_exit ?_
  refine Qh ?_
  refine Qh ?_
  refine Ql ?_
  refine Nx [0] ?_
  refine ZrM ?_
  refine ZAnr [2] ?_
  obtain rfl:t=gapO Ls.length:=hg.1 c1
  exact Qa rfl rfl ⟨_,rfl,qr,rfl,g0,kp,ke,ub⟩
 refine Za (yb (dF c1) (Qp (wholeL (((Ls.length+t):Nat):Int) _))) ?_
 refine Zan y_bnot [0,6] ?_
 refine cg_ct rfl ?_
 refine Zki [0] ?_
 refine Qj ?_
 refine Qe ?_
 refine ZM ?_
 refine Za (y_build (cs:=NdV.zero.cs Nd.zero)) ?_
 refine lg_bs1R (l:=NdV.zero) (L:=Nd.zero) Wn rfl rfl rfl (by decide) fun b2 w2 n2=>?_
 have r2:=n2.row
 have k2:=n2.blk
 have z2:=n2.size
 have lt2:b2<w2.heap.size:=by omega
 have g0:=g0.below n2.below
 have ox3:=g0
 refine lg_appX ox3 r2 ((IsNd.zero _ 0).more (B':=w2.heap.size) (by omega)) (InNd.zero _) (by first | omega | (simp only [List.length_append,List.length_cons,List.length_nil,List.length_take,List.length_drop,List.length_set,List.length_replicate,clr_len];omega)) (by omega) Wn rfl rfl rfl rfl rfl (by decide) fun r3 w3 g3 k3 l3 e3=>?_
 have z3:=k3.size
 refine ZA ?_
 refine Qk ?_
 refine Qi ?_
 have kp0:=kp.trans (Kept.mono (Below.kept n2.below) fun _ _ _=>trivial)
 have kp1:=Kept.own kp0 (fun k z=>ke k z) k3
 have ub:=(ub.trans (n2.below.mono (by omega))).trans l3
 exact fun a ha=>(show t<(gapO Ls.length+1)∧_ from ⟨(by omega),r3,ha.keep (fk rfl fn),(g3.cast (by rw [List.append_assoc,←List.replicate_succ'])),ub,(by have:¬t=gapO Ls.length:=fun q=>c1 (hg.2 q);omega),kp1,(fun k z=>(e3 k z).elim (ke k) fun z=>.inr (by omega))⟩)
theorem nodesO_any {B:Nat} {xs:List Int} (s:SlV) (W:World) (h:Sl W B s xs):Calls Tryz.prog 19 #[s.v] W fun e W'=>∃ v,e=.returned v∧∃ bx,v=.func (.func 46) #[] #[pv bx 0]∧RowAt W' bx 23 #[s.v]∧W.heap.size≤bx∧Below W.heap.size W W':=by
 refine Qf (n:=4) Tryz.func19 rfl Tryz.ntmps19 (by simp) ?_
 show CG _ _ _ [(0,s.v)] _ _
 have u:=Below.refl W.heap.size W
 refine Zr ?_
 refine lg_boxs rfl Wn rfl rfl rfl (by decide) fun b1 w1 n1=>?_
 have r1:=n1.row
 have k1:=n1.blk
 have z1:=n1.size
 have lt1:b1<w1.heap.size:=by omega
 refine ZAn [1,2] ?_
 refine Zr ?_
 refine Za (y_mkf (xs:=[]) (ys:=[.tmp 1])) ?_
 refine ZAnr [2] ?_
 have u:=Un u n1.below
 exact Qa rfl rfl ⟨_,rfl,b1,rfl,r1,by omega,u⟩
abbrev TG15 (B bx:Nat) (own:List Int) (w:World):Prop:=TellsG Tryz.prog 46 #[pv bx 0] (fun p:OcV=>#[.agg (p.l.cs p.L),nv p.e]) (fun l=>l.map OcV.say <+: ocT 128 0 own) (fun l=>l.map OcV.say=ocT 128 0 own) (SayO B) (fun k=>k<B∨k=bx) w
theorem nodes_tells (bx B:Nat) (s:SlV) (own:List Int) (w0:World) (hB0:B≤w0.heap.size) (h00:Sl w0 B s own) (hb0:RowAt w0 bx 23 #[s.v]) (rg0:Tb w0) (hg0:1<B):TG15 B bx own w0:=by
 intro l J Jx W m0 hW hm0 hJa hJxa hY hJ
 refine callsIn_wide.2 ?_
 have hWB:=hW.below (n0:=B) (fun k hk=>.inl hk) hB0
 have hb:=hW.row (.inr rfl) hb0
 have h:=h00.below hWB
 have rg:=rg0.upB hWB hg0
 have lb:=hb.lt
 have zW:=hW.size
 have hd:Did m0 m0 W W:=Did.refl fun k q=>(hm0 k q).2
 have hlow:∀ {m:Nat→Prop} {v:World},Did m0 m W v→∀ k,(k<B∨k=bx)→¬m k:=fun d k hk q=>(d.new k q).elim (fun q=>(hm0 k q).1 hk) fun q=>by
  rcases hk with hk | rfl<;>omega
 have tbD:∀ {m:Nat→Prop} {v:World},Did m0 m W v→Tb v:=fun d=>rg.upB (d.kept.below (n0:=B) (fun k hk q=>(hm0 k q).1 (.inl hk)) (by omega)) hg0
 have q1:=h.len
 have q2:=h.cap
 show Calls _ _ ([.func (.yield l) #[] #[],pv bx 0]:List Value).toArray W _
 refine calls_cx (n:=31) Tryz.func46 rfl Tryz.ntmps46 (by simp) (fun _ q=>by simp at q) ?_
 show CX none [] _ _ _ [(0,.func (.yield l) #[] #[]),(1,pv bx 0)] _ _
 refine cx_seq ?_
 refine Qq ?_
 refine Za (Qo (v:=s.v) hb rfl (by kernel_rfl) rfl rfl) ?_
 refine ZA ?_
 refine Qk ?_
 refine Nxx [0,3] ?_
 refine cx_seq ?_
 refine Qq ?_
 refine ZA ?_
 refine Qk ?_
 refine Nxx [0,3,4] ?_
 refine cx_block ?_
 refine cx_loopE (fun t a v=>∃ (m:Nat→Prop) (pre:List OcV) (sl:SlV) (left:List Int),Holds 31 [(0,.func (.yield l) #[] #[]),(3,sl.v),(4,nv ((t:Nat):Int))] a∧Did m0 m W v∧J pre m v∧Sl v B sl left∧RunO own (pre.map OcV.say) left∧pre.length=t) 128 (fun a ha=>⟨m0,[],s,own,ha.keep (fk rfl (fk rfl (fk rfl fn))),hd,hJ,h,(RunO.start own),rfl⟩) ?_
 rintro t a v ht ⟨m,pre,sl,left,ha,hd,hJ,hl,hr,hpl⟩
 refine cx_at ha ?_
 clear ha a
 have hml:=hlow hd
 have rg:=tbD hd
 have zv:=hd.kept.size
 have q1:=hl.len
 have q2:=hl.cap
 have htl:t≤127:=by have:=hr.le;rw [List.length_map] at this;omega
 have hsl:(pre.map OcV.say).length=t:=by rw [List.length_map];exact hpl
 have hd0:=hd
 have hJ0:=hJ
 have u0:=Below.refl v.heap.size v
 refine cx_seq ?_
 refine cx_seq ?_
 refine Qq ?_
 refine ZM ?_
 refine Za (y_lenS (el:=5) hl) ?_
 by_cases c1:0<(left.length:Int)
 ·refine Za (yb (dT c1) yi_gtr) ?_
  refine Qk ?_
  refine Nxx [0,3,4,11] ?_
  refine cx_ct rfl ?_
  refine cx_skip ?_
  refine Nxx [0,3,4] ?_
  refine cx_seq ?_
  refine cx_block ?_
  refine cx_seq ?_
  refine Qq ?_
  refine ZM ?_
  refine ZM ?_
  refine Zc (atO_any hl (by omega) htl rg) rfl rfl ?_
  rintro _ w2 ⟨l2,r2,rfl,m2,n2,f2,o2,hw2⟩
  have zw2:=hw2.size
  refine ZM ?_
  refine Za y_extract ?_
  refine Za y_extract ?_
  refine Za y_extract ?_
  refine lg_allocw (cs:=NdV.zero.cs Nd.zero) Wn rfl (by kernel_rfl) rfl (by decide) fun b3 w3 n3=>?_
  have r3:=n3.row
  have k3:=n3.blk
  have z3:=n3.size
  have lt3:b3<w3.heap.size:=by omega
  have o4:=r3
  refine lg_stw Wn r3 rfl rfl rfl (by kernel_rfl) (by kernel_rfl) rfl rfl fun w4 s4=>?_
  have r3:=s4.row
  have z4:=s4.size
  refine ZA ?_
  refine ZA ?_
  refine Qk ?_
  refine Nxx [0,3,4,5,6,7] ?_
  refine cx_seq ?_
  refine cx_seq ?_
  have hne:¬left.length=0:=by omega
  have hmore:=hr.more hne
  rw [hsl] at hmore
  have hok:(pre++[(⟨l2,(ocAt t left).2.1,(ocAt t left).1⟩:OcV)]).map OcV.say <+: ocT 128 0 own:=by rw [hmore,List.map_append];exact ⟨_,by rw [List.append_assoc];rfl⟩
  refine cx_regionx ?_
  refine lxw Wn (y_move rfl rfl) rfl (by decide) ?_
  refine lxw Wn (y_loadA r3 (by kernel_rfl) (by kernel_rfl) rfl rfl) rfl (by decide) ?_
  refine lxw Wn (y_move rfl rfl) rfl (by decide) ?_
  have u0:=u0.trans (hw2.mono u0.size)
  have u0:=(u0.trans (n3.below.mono u0.size)).trans (s4.below _ (by omega))
  have m2:=(m2.below (n3.below.mono (by omega))).below (s4.below _ (by omega))
  refine lx_yields Wn (hY pre ⟨l2,(ocAt t left).2.1,(ocAt t left).1⟩ v w4 m hd0 hJ0 u0 ⟨m2.more (by omega),InNd.got o2 f2⟩ hok) rfl rfl rfl rfl (by decide) ?_ ?_
  ·rintro w5 ⟨m5,j5,g5⟩
   have hd:=(hd0.trans (Did.hand hd0.lt u0)).trans j5
   have zy5:=j5.kept.size
   have zu5:=u0.size
   have n2:=((n2.below (n3.below.mono (by omega))).set o4 rfl s4).below (j5.kept.below (n0:=B) (fun k hk z=>z.elim (hml k (.inl hk)) fun z=>by omega) (by omega))
   have hJ:=g5
   refine lxw Wn (y_bnot rfl rfl) rfl (by decide) ?_
   refine lxw Wn (y_move rfl rfl) rfl (by decide) ?_
   refine lxw (want_t (dj:=26) (by rfl) (by kernel_rfl) rfl) (y_move rfl rfl) rfl (by decide) ?_
   by_cases c6:(ocAt t left).1=0
   ·refine lxw (want_t (dj:=26) (by rfl) (by kernel_rfl) rfl) (yb (nd_f c6) (yi_neq rfl rfl rfl)) rfl (by decide) ?_
    refine lxw Wn (y_pick false rfl rfl rfl) rfl (by decide) ?_
    refine lx_nil ?_
    refine Nxx [0,3,4,6,29] ?_
    refine cx_cf rfl ?_
    refine cx_skip ?_
    refine Nxx [0,3,4,6] ?_
    refine Qq ?_
    refine ZM ?_
    refine ZA ?_
    refine Qk ?_
    refine Qs ?_
    refine Nxx [0,4,3] ?_
    refine Qq ?_
    refine ZM ?_
    refine Za (yv (congrArg nv (show ((t:Nat):Int)+1=((t+1:Nat):Int) by omega)) (yi_add rfl rfl rfl (by omega) (by omega))) ?_
    refine ZA ?_
    refine Qk ?_
    exact fun a ha=>(show t<128∧_ from ⟨(by omega),a,rfl,m5,(pre++[(⟨l2,(ocAt t left).2.1,(ocAt t left).1⟩:OcV)]),r2,(ocAt t left).2.2,ha.keep (fk rfl (fk rfl (fk rfl fn))),hd,hJ,n2,(by have z:=hr.next hne (by rw [hsl];exact c6);rw [hsl] at z;rw [List.map_append];rw [show [(⟨l2,(ocAt t left).2.1,(ocAt t left).1⟩:OcV)].map OcV.say=[((ocAt t left).2.1,0)] from by rw [List.map_cons,OcV.say,c6];rfl];exact z),(by rw [List.length_append,hpl];rfl)⟩)
   refine lxw (want_t (dj:=26) (by rfl) (by kernel_rfl) rfl) (yb (nd_t c6) (yi_neq rfl rfl rfl)) rfl (by decide) ?_
   refine lxw Wn (y_pick false rfl rfl rfl) rfl (by decide) ?_
   refine lx_nil ?_
   refine Nxx [0,3,4,6,29] ?_
   refine cx_ct rfl ?_
   refine cx_ret ?_
   refine xg_seq_ret ?_
   refine xg_block_ret ?_
   refine xg_seq_ret ?_
   refine xg_seq_ret ?_
   refine xg_block_ret ?_
   obtain ⟨op,dd,kp⟩:=Marks.closed (Nat.le_refl _) (Marks.nil _ _ _) hd
   exact xg_ret [] op (res_none rfl) ⟨⟨_,rfl⟩,m5,dd,.inl ⟨_,(by have z:=hr.err hne (by rw [hsl];exact c6);rw [hsl] at z;show List.map OcV.say (_++[_])=_;rw [List.map_append,z];rfl),hJa _ _ _ _ (by omega) hJ kp⟩⟩
  rintro w5 ⟨m5,j5,g5⟩
  have hd:=(hd0.trans (Did.hand hd0.lt u0)).trans j5
  have zy5:=j5.kept.size
  have zu5:=u0.size
  have n2:=((n2.below (n3.below.mono (by omega))).set o4 rfl s4).below (j5.kept.below (n0:=B) (fun k hk z=>z.elim (hml k (.inl hk)) fun z=>by omega) (by omega))
  have hJx:=g5
  refine lxw Wn (y_bnot rfl rfl) rfl (by decide) ?_
  refine lxw Wn (y_move rfl rfl) rfl (by decide) ?_
  refine lxk (want_f (dj:=26) (by rfl) (by kernel_rfl) rfl) rfl (by decide) ?_
  refine lxk (want_f (dj:=26) (by rfl) (by kernel_rfl) rfl) rfl (by decide) ?_
  refine lxw Wn (y_pick true rfl rfl rfl) rfl (by decide) ?_
  refine lx_nil ?_
  refine Nxx [0,3,4,6,29] ?_
  refine cx_ct rfl ?_
  refine cx_ret ?_
  refine xg_seq_ret ?_
  refine xg_block_ret ?_
  refine xg_seq_ret ?_
  refine xg_seq_ret ?_
  refine xg_block_ret ?_
  obtain ⟨op,dd,kp⟩:=Marks.closed (Nat.le_refl _) (Marks.nil _ _ _) hd
  exact xg_ret [] op (res_none rfl) ⟨⟨_,rfl⟩,m5,dd,.inr ⟨_,hJxa _ _ _ _ (by omega) hJx kp⟩⟩
 refine Za (yb (dF c1) yi_gtr) ?_
 refine Qk ?_
 refine Nxx [0,3,4,11] ?_
 refine cx_cf rfl ?_
 refine cx_exit ?_
 refine xg_seq_exit ?_
 refine xg_seq_exit ?_
 refine xg_block_exit ?_
 obtain ⟨op,dd,kp⟩:=Marks.closed (Nat.le_refl _) (Marks.nil _ _ _) hd
 exact xg_end [] op (res_none rfl) ⟨⟨_,rfl⟩,m,dd,.inl ⟨_,(hr.stop (by omega)).symm,hJa _ _ _ _ (by omega) hJ kp⟩⟩
/-- What has been read so far: the boxes of the results, the box of the row, the row. -/
def GotI (B bs b2 b3 b6:Nat) (pre:List OcV) (m:Nat→Prop) (X:World):Prop:=∃ (r:SlV) (M:Nat→Prop),(∀ k,M k→k<B∨(bs≤k∧m k))∧(∀ k,m k→k=b2∨k=b3∨k=b6∨bs≤k)∧(∀ p∈pre,p.e=0)∧(m b2∧m b3∧m b6)∧(∀ k,r.v.ownBlock=some k→m k)∧RowAt X b2 22 #[nilS.v]∧RowAt X b3 26 #[nv 0]∧RowAt X b6 22 #[r.v]∧OwnNx M X bs r.v (pre.map OcV.L)
def GotX (own:List Int) (bs b2 b3 b6:Nat) (c:Code) (m:Nat→Prop) (X:World):Prop:=c=.ret∧m b2∧m b3∧(∀ k,m k→k=b2∨k=b3∨k=b6∨bs≤k)∧∃ e:Int,¬e=0∧errO (ocT 128 0 own)=e∧RowAt X b2 22 #[nilS.v]∧RowAt X b3 26 #[nv e]
theorem GotI.kept {B bs b2 b3 b6:Nat} {pre:List OcV} {m:Nat→Prop} {X Y:World} (h:GotI B bs b2 b3 b6 pre m X) (k:Kept (fun k=>m k∨k<bs) X Y) (hB:B≤bs):GotI B bs b2 b3 b6 pre m Y:=by
 obtain ⟨r,M,i1,i2,i3,⟨i4,i5,i6⟩,i7,r2,r3,r6,g⟩:=h
 exact ⟨r,M,i1,i2,i3,⟨i4,i5,i6⟩,i7,k.row (.inl i4) r2,k.row (.inl i5) r3,k.row (.inl i6) r6,g.kept k (fun q z=>(i1 q z).elim (fun z=>.inr (by omega)) fun z=>.inl z.2) fun q z=>.inl (i7 q z)⟩
theorem GotX.kept {own:List Int} {bs b2 b3 b6:Nat} {c:Code} {m:Nat→Prop} {X Y:World} (h:GotX own bs b2 b3 b6 c m X) (k:Kept (fun k=>m k∨k<bs) X Y):GotX own bs b2 b3 b6 c m Y:=by
 obtain ⟨h0,i4,i5,i2,e,h1,h2,r2,r3⟩:=h
 exact ⟨h0,i4,i5,i2,e,h1,h2,k.row (.inl i4) r2,k.row (.inl i5) r3⟩
set_option maxHeartbeats 2000000 in
theorem getO_any {W:World} {B:Nat} {s:SlV} {xs:List Int} (h:Sl W B s xs) (hB:B≤W.heap.size) (rg:Tb W):Calls Tryz.prog 7 #[s.v] W fun e W'=>∃ v,e=.returned v∧∃ s':SlV,v=.tuple #[s'.v,nv (ogE xs)]∧RwNd W' W'.heap.size s' (ogT xs)∧Below W.heap.size W W':=by
 have h:=h.more hB
 have hlt:=rg.lt
 refine calls_cx (n:=42) Tryz.func7 rfl Tryz.ntmps7 (by simp) (fun _ q=>by simp at q) ?_
 show CX none [] _ _ _ [(0,s.v)] _ _
 have u:=Below.refl W.heap.size W
 refine cx_seq ?_
 refine Qq ?_
 refine lg_allocs (u:=nilS.v) (by kernel_rfl) rfl Wn rfl rfl (by decide) fun b1 w1 n1=>?_
 have r1:=n1.row
 have k1:=n1.blk
 have z1:=n1.size
 have lt1:b1<w1.heap.size:=by omega
 refine lg_allocs (u:=nv 0) (by kernel_rfl) rfl Wn rfl rfl (by decide) fun b2 w2 n2=>?_
 have r2:=n2.row
 have k2:=n2.blk
 have z2:=n2.size
 have lt2:b2<w2.heap.size:=by omega
 refine Qk ?_
 refine Nxx [0,2,3] ?_
 refine cx_seq ?_
 refine Qq ?_
 refine ZM ?_
 have h:=(h.below (n1.below.mono (by omega))).below (n2.below.mono (by omega))
 refine Zc (inside_any h (by omega)) rfl rfl ?_
 rintro _ w3 ⟨p3,rfl,m3,hw3⟩
 have zw3:=hw3.size
 refine ZM ?_
 refine Za y_extract ?_
 refine Za y_extract ?_
 refine ZA ?_
 refine ZA ?_
 refine Qk ?_
 refine Nxx [2,3,4,5] ?_
 refine cx_seq ?_
 refine cx_seq ?_
 refine Qq ?_
 refine ZM ?_
 by_cases c4:(ogI xs)=0
 ·have hIok:=c4
  refine Za (yb (nd_f c4) yi_neq) ?_
  refine Qk ?_
  refine Nxx [2,3,4,5,15] ?_
  refine cx_cf rfl ?_
  refine cx_skip ?_
  refine Nxx [2,3,4] ?_
  refine cx_seq ?_
  refine Qq ?_
  refine lg_allocs (u:=nilS.v) (by kernel_rfl) rfl Wn rfl rfl (by decide) fun b5 w5 n5=>?_
  have r5:=n5.row
  have k5:=n5.blk
  have z5:=n5.size
  have lt5:b5<w5.heap.size:=by omega
  refine Qk ?_
  refine Nxx [2,3,4,6] ?_
  refine cx_seq ?_
  refine cx_seq ?_
  refine Qq ?_
  refine ZM ?_
  have m3:=m3.below (n5.below.mono (by omega))
  refine Zc (nodesO_any p3 _ m3) rfl rfl ?_
  rintro _ w6 ⟨bx6,rfl,x6,i6,hw6⟩
  have zw6:=hw6.size
  have lx6:=x6.lt
  refine Qk ?_
  refine Nxx [2,3,6,18] ?_
  refine cx_block ?_
  obtain ⟨bs,hbs⟩:∃ q,q=w6.heap.size:=⟨_,rfl⟩
  have u:=Un (Un u n1.below) n2.below
  have u:=Un (Un (Un u hw3) n5.below) hw6
  have r1:=n2.keep r1
  have r1:=RowAt.below hw3 r1.lt r1
  have r1:=n5.keep r1
  have r1:=RowAt.below hw6 r1.lt r1
  have r2:=RowAt.below hw3 r2.lt r2
  have r2:=n5.keep r2
  have r2:=RowAt.below hw6 r2.lt r2
  have r5:=RowAt.below hw6 r5.lt r5
  have m3:=m3.below (hw6.mono (by omega))
  refine cx_toldG2 (d1:=7) (d2:=8) (e1:=fun p:OcV=>.agg (p.l.cs p.L)) (e2:=fun p:OcV=>nv p.e) (m0:=(fun k=>k=b1∨k=b2∨k=b5)) 38 (fun p=>p.l.cs p.L) (by kernel_rfl) rfl (nodes_tells bx6 W.heap.size p3 (ogP xs) _ (by omega) m3 x6 (rg.up u) hlt) (fun n0 X Y x h k=>h.kept k (by omega)) (fun k q=>⟨fun z=>by rcases q with rfl | rfl | rfl<;>rcases z with z | z<;>omega,by rcases q with rfl | rfl | rfl<;>omega⟩) (fun k hk z=>by rcases z with z | rfl<;>omega) (by decide) (by decide)
   (fun pre m X=>GotI W.heap.size bs b1 b2 b5 pre m X)
   (fun c pre m X=>GotX (ogP xs) bs b1 b2 b5 c m X)
   (fun s m X Y hX h k=>h.kept (k.mono fun i _ z=>z.imp id fun z=>by omega) (by omega))
   (fun c s m X Y hX h k=>h.kept (k.mono fun i _ z=>z.imp id fun z=>by omega))
   ⟨nilS,fun _=>False,fun k q=>q.elim,fun k q=>by omega,fun p q=>absurd q (by simp),⟨.inl rfl,.inr (.inl rfl),.inr (.inr rfl)⟩,(fun k q=>by cases q),r1,r2,r5,OwnNx.nil _ _⟩
   ?_ ?_ ?_ ?_
  ·intro l x W0
   refine cx_seq ?_
   refine Qq ?_
   refine lg_allocw (cs:=NdV.zero.cs Nd.zero) Wn rfl (by kernel_rfl) rfl (by decide) fun bA wA nA=>?_
   have rA:=nA.row
   have kA:=nA.blk
   have zA:=nA.size
   refine lg_stw Wn rA rfl rfl rfl (by kernel_rfl) (by kernel_rfl) rfl rfl fun wB sB=>?_
   refine Qk ?_
   refine fun a ha=>cx_at ha ?_
   refine Qq ?_
   refine ZA ?_
   refine Qk ?_
   exact fun a ha=>⟨bA,by omega,sB.row,nA.below.trans (sB.below _ (by omega)),(by rw [mkd_nil];exact ha)⟩
  ·rintro l7 pre7 x7 b7 n07 v7 m7 d7 hi7 hmn7 ha7 hz7 rb7 hb7 hs7 hp7
   have hi:=hi7
   unfold GotI at hi
   obtain ⟨r,M,i1,i2,i3,⟨i4,i5,i6⟩,i7,r1,r2,r5,g0⟩:=hi
   obtain ⟨Mx,hMx⟩:∃ q:Nat→Prop,q=fun k=>M k∨k<W.heap.size∨(n07≤k∧k<v7.heap.size):=⟨_,rfl⟩
   have gx:OwnNx Mx v7 bs r.v (pre7.map OcV.L):=by
    subst hMx
    refine g0.mono (fun k q=>.inl q) (fun k q=>?_) (fun k q z=>?_)
    ·rcases q with q | q | q
     ·exact g0.lt k q
     ·omega
     exact q.2
    have q1:=g0.blk q
    have q2:=hmn7 k (i7 k q)
    rcases z with z | z | z
    ·exact g0.no k q z
    ·omega
    omega
   have hMr:∀ k,Mx k→k<W.heap.size∨(bs≤k∧hand m7 n07 v7.heap.size k):=by
    subst hMx
    intro k q
    rcases q with q | q | q
    ·exact (i1 k q).imp id fun z=>⟨z.1,.inl z.2⟩
    ·exact .inl q
    exact .inr ⟨by omega,.inr q⟩
   have hms:=hs7.1
   have hin:InNd Mx x7.l:=by
    subst hMx
    exact hs7.inn fun k q=>q.elim (fun q=>.inr (.inl q)) fun q=>.inr (.inr q)
   have hr:=Did.refl d7.lt
   have zv7:=d7.kept.size
   have hpl:(pre7.map OcV.L).length≤128:=by
    have q1:=hp7.length_le
    have q2:=ocT_len 128 0 (ogP xs)
    rw [List.length_map,List.length_append,List.length_cons] at q1
    rw [List.length_map]
    omega
   have l27:=r1.lt
   have l37:=r2.lt
   have l67:=r5.lt
   have lb7:=rb7.lt
   refine cx_block ?_
   refine cx_seq ?_
   refine cx_seq ?_
   refine Qq ?_
   refine ZM ?_
   by_cases c8:x7.e=0
   ·refine Za (yb (nd_f c8) yi_neq) ?_
    refine Qk ?_
    refine Nxx [2,3,6,7,8,22] ?_
    refine cx_cf rfl ?_
    refine cx_skip ?_
    refine Nxx [2,3,6,7] ?_
    refine Qq ?_
    refine Za (Qo (v:=r.v) r5 rfl (by kernel_rfl) rfl rfl) ?_
    refine Za (y_loadA rb7) ?_
    refine lg_bs1R (l:=x7.l) (L:=x7.L) Wn rfl rfl rfl (by decide) fun b9 w9 n9=>?_
    have r9:=n9.row
    have k9:=n9.blk
    have z9:=n9.size
    have lt9:b9<w9.heap.size:=by omega
    have hr:=hr.call n9.below
    have gx:=gx.below n9.below
    have hms:=hms.below (n9.below.mono (by omega))
    have ox10:=gx
    refine lg_appX ox10 r9 (hms.more (B':=w9.heap.size) (by omega)) hin (by first | omega | (simp only [List.length_append,List.length_cons,List.length_nil,List.length_take,List.length_drop,List.length_set,List.length_replicate,clr_len];omega)) (by omega) Wn rfl rfl rfl rfl rfl (by decide) fun r10 w10 g10 k10 l10 e10=>?_
    have dx10:=OwnNx.did g10 k10 (fun k z=>.inl (i7 k z)) hr.lt e10
    have z10:=k10.size
    have r5:=n9.keep r5
    have r5:=RowAt.below l10 (by omega) r5
    have o11:=r5
    refine lg_sts r5 rfl rfl (by kernel_rfl) Wn rfl rfl rfl rfl fun w11 s11=>?_
    have r5:=s11.row
    have z11:=s11.size
    refine Qk ?_
    refine Qs ?_
    have hr:=hr.trans dx10
    have hr:=hr.trans (Did.set s11 o11 (.inl (.inl i6)) hr.lt)
    have r1:=n9.keep r1
    have r1:=RowAt.below l10 (by omega) r1
    have r1:=s11.keep r1 (by omega)
    have r2:=n9.keep r2
    have r2:=RowAt.below l10 (by omega) r2
    have r2:=s11.keep r2 (by omega)
    have g10:=g10.alt s11.alt (fun q=>by have:=hMr _ q;omega) (fun q=>by have:=g10.blk q;omega)
    exact fun a ha=>⟨_,hr,_,Mx,fun k q=>(hMr k q).imp id fun z=>⟨z.1,.inl z.2⟩,fun k z=>(by rcases z with (z | z) | z;exact i2 k z;omega;have:=(g10.blk z).1;omega),fun p z=>(by rcases List.mem_append.1 z with z | z;exact i3 p z;obtain rfl:p=x7:=(by simpa using z);exact c8),⟨.inl (.inl i4),.inl (.inl i5),.inl (.inl i6)⟩,fun k z=>.inr z,r1,r2,r5,g10.cast (by rw [List.map_append];rfl)⟩
   refine Za (yb (nd_t c8) yi_neq) ?_
   refine Qk ?_
   refine Nxx [2,3,6,7,8,22] ?_
   refine cx_ct rfl ?_
   refine cx_seq ?_
   refine Qq ?_
   refine ZM ?_
   have o12:=r1
   refine lg_sts r1 rfl rfl (by kernel_rfl) Wn rfl rfl rfl rfl fun w12 s12=>?_
   have r1:=s12.row
   have z12:=s12.size
   have r2:=s12.keep r2 (by omega)
   have o13:=r2
   refine lg_sts r2 rfl rfl (by kernel_rfl) Wn rfl rfl rfl rfl fun w13 s13=>?_
   have r2:=s13.row
   have z13:=s13.size
   refine Qk ?_
   refine Nxx [2,3,6,7] ?_
   refine cx_ret ?_
   refine xg_seq_ret ?_
   refine xg_block_ret ?_
   have hr:=hr.trans (Did.set s12 o12 (.inl i4) hr.lt)
   have hr:=hr.trans (Did.set s13 o13 (.inl i5) hr.lt)
   have r1:=s13.keep r1 (by omega)
   have hpm:=hp7
   rw [List.map_append] at hpm
   exact fun a ha=>⟨_,hr,rfl,.inl i4,.inl i5,fun k q=>q.elim (i2 k) fun q=>by omega,_,c8,errO_told hpm (fun q hq=>by obtain ⟨p,hp,rfl⟩:=List.mem_map.1 hq;exact i3 p hp) c8,r1,r2⟩
  ·rintro D7 v7d m7 xs7 hz7 d7 nD7 hf7 hi7 hD7
   have hi:=hi7
   unfold GotI at hi
   obtain ⟨r,M,i1,i2,i3,⟨i4,i5,i6⟩,i7,r1,r2,r5,g0⟩:=hi
   have hf:xs7.map OcV.say=ocT 128 0 (ogP xs):=hf7
   have heq:xs7.map OcV.L=ocN (ogP xs):=by rw [ocN,←hf,List.map_map];rfl
   have hE:errO (ocT 128 0 (ogP xs))=0:=by rw [←hf];exact errO_ok (fun q hq=>by obtain ⟨p,hp,rfl⟩:=List.mem_map.1 hq;exact i3 p hp)
   have g0:=g0.cast heq
   have u:=u.trans (d7.below (n0:=W.heap.size) (by omega) (fun k q=>by rcases q with rfl | rfl | rfl<;>omega))
   have hle:=ocN_le hE
   have hI:=hIok
   have hpos:=ocT_pos (ogI_pos hI)
   have zv7:=d7.kept.size
   have hKD7:=hD7
   have hMD:¬M D7:=fun q=>by rcases i1 _ q with z | z;omega;exact nD7 z.2
   have hoD:r.v.ownBlock≠some D7:=fun q=>nD7 (i7 _ q)
   have hMr:=i1
   have lD:=(Array.getElem?_eq_some_iff.1 hKD7).1
   have l27:=r1.lt
   have l37:=r2.lt
   have l67:=r5.lt
   refine Qs ?_
   refine Nxx [2,3,6] ?_
   refine cx_seq ?_
   refine cx_seq ?_
   refine Qq ?_
   refine Za (Qo (v:=r.v) r5 rfl (by kernel_rfl) rfl rfl) ?_
   refine Za (Qo (v:=r.v) r5 rfl (by kernel_rfl) rfl rfl) ?_
   refine Za (y_lenM (el:=38) (g0.row).len) ?_
   refine Za (yv (congrArg nv (show ((ocN (ogP xs)).length:Int)-1=(((ocN (ogP xs)).length-1:Nat):Int) by omega)) (yi_sub rfl rfl rfl (by omega) (by omega))) ?_
   obtain ⟨eb14,eo14,el14,eL14,eA14,eB14,eg14,eh14,ec14⟩:=(g0.row).at ((((ocN (ogP xs)).length-1))) (by have:=(g0.row).len;omega)
   refine Za (y_ixR (s:=r) (el:=38) (k:=8) (i:=(((ocN (ogP xs)).length-1))) (iI:=((((ocN (ogP xs)).length-1):Nat):Int)) eA14 (by kernel_rfl) (by kernel_rfl) (by omega) (by have:=(g0.row).len;omega) rfl rfl rfl) ?_
   refine Za (y_fld (off:=0)) ?_
   refine Za (y_celld (ec14 0 _ rfl)) ?_
   by_cases c15:eL14.kind=0
   ·refine Za (yb (dT c15) yi_eql) ?_
    refine Qk ?_
    refine Nxx [2,3,6,35] ?_
    refine cx_ct rfl ?_
    refine cx_seq ?_
    refine Qq ?_
    have o16:=r1
    refine lg_sts r1 rfl rfl (by kernel_rfl) Wn rfl rfl rfl rfl fun w16 s16=>?_
    have r1:=s16.row
    have z16:=s16.size
    have r2:=s16.keep r2 (by omega)
    have o17:=r2
    refine lg_sts r2 rfl rfl (by kernel_rfl) Wn rfl rfl rfl rfl fun w17 s17=>?_
    have r2:=s17.row
    have z17:=s17.size
    refine Qk ?_
    refine Nxx [2,3,6] ?_
    refine cx_ret ?_
    refine xg_seq_ret ?_
    have hG:ogE xs=6:=ogE_trail hIok hE (by rw [atN_some eg14];exact c15)
    have r1:=s17.keep r1 (by omega)
    have hKD7:=(s16.other _ (by omega)).trans hKD7
    have hKD7:=(s17.other _ (by omega)).trans hKD7
    have u:=(u.trans (s16.below _ (by omega))).trans (s17.below _ (by omega))
    exact xg_ret [D7] ⟨hKD7,trivial⟩ (res_cell2 rfl rfl rfl (row_nc r1 (put_grown _ D7 (.deferred none)) (put_nc hKD7)) (by kernel_rfl) (row_nc r2 (put_grown _ D7 (.deferred none)) (put_nc hKD7)) (by kernel_rfl)) ⟨_,rfl,nilS,congrArg (fun q=>Value.tuple #[_,nv q]) hG.symm,((RwNd.nil _ _).cast (ogT_no (by rw [hG];decide)).symm),(below_nc u (B:=D7) (by omega) (Nat.le_refl _) (put_grown _ D7 (.deferred none)) (fun r e=>by cases e;exact Nat.le_refl _))⟩
   refine Za (yb (dF c15) yi_eql) ?_
   refine Qk ?_
   refine Nxx [2,3,6,35] ?_
   refine cx_cf rfl ?_
   refine cx_skip ?_
   refine Nxx [2,3,6] ?_
   refine cx_seq ?_
   refine Qq ?_
   refine Za (Qo (v:=r.v) r5 rfl (by kernel_rfl) rfl rfl) ?_
   refine Zc (widened_any g0 (by omega) hle) rfl rfl ?_
   rintro _ w18 ⟨s18,rfl,g18,kp18,e18,hw18⟩
   have zw18:=hw18.size
   have hoD2:s18.v.ownBlock≠some D7:=fun z=>(e18 _ z).elim hoD fun z=>by omega
   have r5:=RowAt.below hw18 (by omega) r5
   have o19:=r5
   refine lg_sts r5 rfl rfl (by kernel_rfl) Wn rfl rfl rfl rfl fun w19 s19=>?_
   have r5:=s19.row
   have z19:=s19.size
   refine Qk ?_
   refine Nxx [2,3,6] ?_
   refine cx_seq ?_
   refine cx_seq ?_
   refine Qq ?_
   refine Za (Qo (v:=s18.v) r5 rfl (by kernel_rfl) rfl rfl) ?_
   have g18:=g18.alt s19.alt (fun q=>by have:=hMr _ q;omega) (fun q=>by have:=g18.blk q;omega)
   have u:=(u.trans (hw18.mono (by omega))).trans (s19.below _ (by omega))
   by_cases c20:namedL (trAs (widO (ocN (ogP xs))))
   ·refine Zc (namedO_any ((g18.row).more (B':=w19.heap.size) (by omega)) (Nat.le_refl _) (rg.up u)) rfl rfl ?_
    rintro u21 w21 ⟨e21,hw21⟩
    have zw21:=hw21.size
    obtain rfl:u21=.bool true:=e21.trans (congrArg Value.bool (decide_eq_true c20))
    refine Za y_bnot ?_
    refine Qk ?_
    refine Nxx [2,3,6,40] ?_
    refine cx_cf rfl ?_
    refine cx_skip ?_
    refine Nxx [2,3,6] ?_
    refine cx_seq ?_
    refine Qq ?_
    have r5:=RowAt.below hw21 r5.lt r5
    refine Za (Qo (v:=s18.v) r5 rfl (by kernel_rfl) rfl rfl) ?_
    have r1:=RowAt.below hw18 (by omega) r1
    have r1:=s19.keep r1 (by omega)
    have r1:=RowAt.below hw21 r1.lt r1
    have o22:=r1
    refine lg_sts r1 rfl rfl (by kernel_rfl) Wn rfl rfl rfl rfl fun w22 s22=>?_
    have r1:=s22.row
    have z22:=s22.size
    have r2:=RowAt.below hw18 (by omega) r2
    have r2:=s19.keep r2 (by omega)
    have r2:=RowAt.below hw21 r2.lt r2
    have r2:=s22.keep r2 (by omega)
    have o23:=r2
    refine lg_sts r2 rfl rfl (by kernel_rfl) Wn rfl rfl rfl rfl fun w23 s23=>?_
    have r2:=s23.row
    have z23:=s23.size
    refine Qk ?_
    refine Nxx [2,3] ?_
    refine cx_ret ?_
    have hG:ogE xs=0:=ogE_ok hIok hE (by rw [atN_some eg14];exact c15) c20
    have g18:=g18.below hw21
    have g18:=g18.alt s22.alt (fun q=>by have:=hMr _ q;omega) (fun q=>by have:=g18.blk q;omega)
    have g18:=g18.alt s23.alt (fun q=>by have:=hMr _ q;omega) (fun q=>by have:=g18.blk q;omega)
    have r1:=s23.keep r1 (by omega)
    have hKD7:=(kp18.block _ (Array.getElem?_eq_some_iff.1 hKD7).1 hoD).trans hKD7
    have hKD7:=(s19.other _ (by omega)).trans hKD7
    have hKD7:=(hw21.block _ (Array.getElem?_eq_some_iff.1 hKD7).1).trans hKD7
    have hKD7:=(s22.other _ (by omega)).trans hKD7
    have hKD7:=(s23.other _ (by omega)).trans hKD7
    have u:=Un u hw21
    have u:=(u.trans (s22.below _ (by omega))).trans (s23.below _ (by omega))
    exact xg_ret [D7] ⟨hKD7,trivial⟩ (res_cell2 rfl rfl rfl (row_nc r1 (put_grown _ D7 (.deferred none)) (put_nc hKD7)) (by kernel_rfl) (row_nc r2 (put_grown _ D7 (.deferred none)) (put_nc hKD7)) (by kernel_rfl)) ⟨_,rfl,s18,congrArg (fun q=>Value.tuple #[_,nv q]) hG.symm,((g18.alt (Kept.putObj _ (.deferred none) fun q=>q rfl) hMD hoD2).row.cast (ogT_ok hG).symm),(below_nc u (B:=D7) (by omega) (Nat.le_refl _) (put_grown _ D7 (.deferred none)) (fun r e=>by cases e;exact Nat.le_refl _))⟩
   refine Zc (namedO_any ((g18.row).more (B':=w19.heap.size) (by omega)) (Nat.le_refl _) (rg.up u)) rfl rfl ?_
   rintro u24 w24 ⟨e24,hw24⟩
   have zw24:=hw24.size
   obtain rfl:u24=.bool false:=e24.trans (congrArg Value.bool (decide_eq_false c20))
   refine Za y_bnot ?_
   refine Qk ?_
   refine Nxx [2,3,6,40] ?_
   refine cx_ct rfl ?_
   refine cx_seq ?_
   refine Qq ?_
   have r1:=RowAt.below hw18 (by omega) r1
   have r1:=s19.keep r1 (by omega)
   have r1:=RowAt.below hw24 r1.lt r1
   have o25:=r1
   refine lg_sts r1 rfl rfl (by kernel_rfl) Wn rfl rfl rfl rfl fun w25 s25=>?_
   have r1:=s25.row
   have z25:=s25.size
   have r2:=RowAt.below hw18 (by omega) r2
   have r2:=s19.keep r2 (by omega)
   have r2:=RowAt.below hw24 r2.lt r2
   have r2:=s25.keep r2 (by omega)
   have o26:=r2
   refine lg_sts r2 rfl rfl (by kernel_rfl) Wn rfl rfl rfl rfl fun w26 s26=>?_
   have r2:=s26.row
   have z26:=s26.size
   refine Qk ?_
   refine Nxx [2,3,6] ?_
   refine cx_ret ?_
   refine xg_seq_ret ?_
   have hG:ogE xs=8:=ogE_unm hIok hE (by rw [atN_some eg14];exact c15) c20
   have r1:=s26.keep r1 (by omega)
   have hKD7:=(kp18.block _ (Array.getElem?_eq_some_iff.1 hKD7).1 hoD).trans hKD7
   have hKD7:=(s19.other _ (by omega)).trans hKD7
   have hKD7:=(hw24.block _ (Array.getElem?_eq_some_iff.1 hKD7).1).trans hKD7
   have hKD7:=(s25.other _ (by omega)).trans hKD7
   have hKD7:=(s26.other _ (by omega)).trans hKD7
   have u:=Un u hw24
   have u:=(u.trans (s25.below _ (by omega))).trans (s26.below _ (by omega))
   exact xg_ret [D7] ⟨hKD7,trivial⟩ (res_cell2 rfl rfl rfl (row_nc r1 (put_grown _ D7 (.deferred none)) (put_nc hKD7)) (by kernel_rfl) (row_nc r2 (put_grown _ D7 (.deferred none)) (put_nc hKD7)) (by kernel_rfl)) ⟨_,rfl,nilS,congrArg (fun q=>Value.tuple #[_,nv q]) hG.symm,((RwNd.nil _ _).cast (ogT_no (by rw [hG];decide)).symm),(below_nc u (B:=D7) (by omega) (Nat.le_refl _) (put_grown _ D7 (.deferred none)) (fun r e=>by cases e;exact Nat.le_refl _))⟩
  rintro D7 c7 pre7 v7s m7 hz7 d7 nD7 hi7 hD7
  have hi:=hi7
  unfold GotX at hi
  obtain ⟨rfl,i4,i5,i2,ee,hne,hE,r1,r2⟩:=hi
  have u:=u.trans (d7.below (n0:=W.heap.size) (by omega) (fun k q=>by rcases q with rfl | rfl | rfl<;>omega))
  have zv7:=d7.kept.size
  have hKD7:=hD7
  refine cx_ret ?_
  refine xg_block_ret ?_
  refine xg_seq_ret ?_
  have hG:ogE xs=ee:=(ogE_err hIok (by rw [hE];exact hne)).trans hE
  exact xg_ret [D7] ⟨hKD7,trivial⟩ (res_cell2 rfl rfl rfl (row_nc r1 (put_grown _ D7 (.deferred none)) (put_nc hKD7)) (by kernel_rfl) (row_nc r2 (put_grown _ D7 (.deferred none)) (put_nc hKD7)) (by kernel_rfl)) ⟨_,rfl,nilS,congrArg (fun q=>Value.tuple #[_,nv q]) hG.symm,((RwNd.nil _ _).cast (ogT_no (by rw [hG];exact hne)).symm),(below_nc u (B:=D7) (by omega) (Nat.le_refl _) (put_grown _ D7 (.deferred none)) (fun r e=>by cases e;exact Nat.le_refl _))⟩
 refine Za (yb (nd_t c4) yi_neq) ?_
 refine Qk ?_
 refine Nxx [2,3,4,5,15] ?_
 refine cx_ct rfl ?_
 refine cx_seq ?_
 refine Qq ?_
 refine ZM ?_
 have r1:=n2.keep r1
 have r1:=RowAt.below hw3 r1.lt r1
 have o27:=r1
 refine lg_sts r1 rfl rfl (by kernel_rfl) Wn rfl rfl rfl rfl fun w27 s27=>?_
 have r1:=s27.row
 have z27:=s27.size
 have r2:=RowAt.below hw3 r2.lt r2
 have r2:=s27.keep r2 (by omega)
 have o28:=r2
 refine lg_sts r2 rfl rfl (by kernel_rfl) Wn rfl rfl rfl rfl fun w28 s28=>?_
 have r2:=s28.row
 have z28:=s28.size
 refine Qk ?_
 refine Nxx [2,3,4] ?_
 refine cx_ret ?_
 refine xg_seq_ret ?_
 have hG:ogE xs=(ogI xs):=ogE_in c4
 have r1:=s28.keep r1 (by omega)
 have u:=Un (Un (Un u n1.below) n2.below) hw3
 have u:=(u.trans (s27.below _ (by omega))).trans (s28.below _ (by omega))
 exact xg_ret [] trivial (res_cell2 rfl rfl rfl r1 (by kernel_rfl) r2 (by kernel_rfl)) ⟨_,rfl,nilS,congrArg (fun q=>Value.tuple #[_,nv q]) hG.symm,(RwNd.nil _ _).cast (ogT_no (by rw [hG];exact c4)).symm,u⟩
end Go.Proofs.YtognnnjdoemgfaaGreatDoor
