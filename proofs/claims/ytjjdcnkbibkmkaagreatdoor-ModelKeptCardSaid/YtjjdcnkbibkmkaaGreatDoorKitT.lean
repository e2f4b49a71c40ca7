/-
  KitT: TrBase, TrWk, TrCat, TrLit, TrMath, TrProg.
-/
import Derived.ArgAppend
import Derived.Test.YtjjdcnkbibkmkaaGreatDoorKitI
import Derived.Test.YtjjdcnkbibkmkaaGreatDoorKitP
namespace Go.Proofs.YtjjdcnkbibkmkaaGreatDoor
open Go.Proofs.Tryz
open Go.ChangeShapes Go.WideShapes Go.ChangeAt Go.RowKit
set_option linter.unusedVariables false
variable {B b j k:Nat} {L:Nd} {Ls a:List Nd} {W:World} {s:SlV}

/- TrBase:
  Rows of nodes: as cells, of one's own, cut, joined, written.
-/
abbrev NdP:=NdV × Nd
def ndc (p:NdP):List Value:=(p.1.cs p.2).toList
def ndCells:List NdP->List Value
 | []=>[]
 | p::ps=>ndc p++ndCells ps
theorem ndc_len (p:NdP):(ndc p).length=8:=rfl
theorem ndCells_len:∀ ps:List NdP,(ndCells ps).length=ps.length*8
 | []=>rfl
 | p::ps=>by rw [ndCells,List.length_append,ndc_len,ndCells_len ps,List.length_cons];omega
theorem ndCells_app:∀ ps qs:List NdP,ndCells (ps++qs)=ndCells ps++ndCells qs
 | [],_=>rfl
 | p::ps,qs=>by rw [List.cons_append,ndCells,ndCells,ndCells_app ps qs,List.append_assoc]
theorem ndCells_at:∀ (ps:List NdP) (i j:Nat) (p:NdP),ps[i]?=some p->j<8->(ndCells ps)[i*8+j]?=(ndc p)[j]?
 | [],_,_,_,h,_=>by simp at h
 | q::ps,0,j,p,h,hj=>by
  obtain rfl:q=p:=by simpa using h
  rw [ndCells,Nat.zero_mul,Nat.zero_add,List.getElem?_append_left (by rw [ndc_len];exact hj)]
 | q::ps,i+1,j,p,h,hj=>by
  rw [ndCells,List.getElem?_append_right (by rw [ndc_len];omega),ndc_len,show (i+1)*8+j-8=i*8+j by omega];exact ndCells_at ps i j p (by simpa using h) hj
theorem ndCells_take (ps:List NdP) (i:Nat) (hi:i<=ps.length):(ndCells ps).take (i*8)=ndCells (ps.take i):=by
 have h:ndCells ps=ndCells (ps.take i)++ndCells (ps.drop i):=by rw [<-ndCells_app,List.take_append_drop]
 rw [h];exact List.take_left' (by rw [ndCells_len,List.length_take];omega)
theorem ndCells_drop (ps:List NdP) (i:Nat) (hi:i<=ps.length):(ndCells ps).drop (i*8)=ndCells (ps.drop i):=by
 have h:ndCells ps=ndCells (ps.take i)++ndCells (ps.drop i):=by rw [<-ndCells_app,List.take_append_drop]
 rw [h];exact List.drop_left' (by rw [ndCells_len,List.length_take];omega)
theorem ndCells_set (ps:List NdP) (i:Nat) (p:NdP) (hi:i<ps.length):(ndCells ps).take (i*8)++ndc p++(ndCells ps).drop (i*8+8)=ndCells (ps.set i p):=by
 rw [ndCells_take ps i (by omega),show i*8+8=(i+1)*8 by omega,ndCells_drop ps (i+1) (by omega),List.set_eq_take_append_cons_drop,if_pos hi,ndCells_app,ndCells,List.append_assoc]
theorem ndCells_one:∀ (ps:List NdP) (u:Value),u∈ndCells ps->u.oneCell'=true
 | [],u,h=>by cases h
 | p::ps,u,h=>(List.mem_append.1 h).elim (fun h=>List.all_eq_true.1 (show (ndc p).all (·.oneCell')=true from rfl) u h) (ndCells_one ps u)
def SrcNd [Lo] (w:World) (B:Nat) (s:SlV) (Ls:List Nd):Prop:=∃ ps:List NdP,ps.map (·.2)=Ls/\ps.length=s.m/\s.m<=s.c/\s.c<=maxLen/\(∀ p∈ps,IsNd w B p.1 p.2)/\(0<s.m->∃ ad,s.A=some ad) /\
 ∀ ad,s.A=some ad->∀ j u,(ndCells ps)[j]?=some u->w.cell? (ad.add j)=some u
def OwnNd [Lo] (w:World) (base B:Nat) (v:Value) (Ls:List Nd):Prop:=∃ ps:List NdP,ps.map (·.2)=Ls/\w.ownsRow base 81 8 v ps.length (ndCells ps)/\∀ p∈ps,IsNd w B p.1 p.2
abbrev zNd:Value:=.agg (NdV.zero.cs Nd.zero)
theorem infoNd:(prog.info? 81).map (fun i=>(i.zero,i.size,i.bytes))=some (some zNd,8,160):=by kernel_rfl
theorem huNd:prog.underlying 22=some (.slice 81):=by kernel_rfl
section
variable {w w':World} {B B' base:Nat} {s:SlV} {v:Value} {Ls Ms:List Nd}
theorem RwNd.src [Lo] (h:RwNd w B s Ls):SrcNd w B s Ls:=by
 by_cases hm:0<s.m
 ·obtain ⟨b,o,e,hB,hc⟩:=h.2.2.2 hm;have key:∀ i:Nat,∃ l:NdV,∀ L,Ls[i]?=some L->IsNd w B l L/\∀ j u,(l.cs L)[j]?=some u->w.cell? ⟨b,o+i*8+j,none⟩=some u:=by
   intro i;cases hL:Ls[i]? with
   | none=>exact ⟨NdV.zero,fun L q=>by cases q⟩
   | some L =>
    obtain ⟨l,hl⟩:=hc i L hL;exact ⟨l,fun M q=>by cases q;exact hl⟩
  obtain ⟨f,hf⟩:=Classical.skolem.1 key;refine ⟨Ls.mapIdx fun i L=>(f i,L),?_,by rw [List.length_mapIdx];exact h.2.2.1,h.1,h.2.1,?_,fun _=>⟨_,e⟩,?_⟩
  ·refine List.ext_getElem? fun i=>?_;rw [List.getElem?_map,List.getElem?_mapIdx];cases Ls[i]?<;>rfl
  ·intro p hp;obtain ⟨i,hi⟩:=List.mem_iff_getElem?.1 hp;rw [List.getElem?_mapIdx,Option.map_eq_some_iff] at hi;obtain ⟨L,hL,rfl⟩:=hi;exact (hf i L hL).1
  intro ad had j u hu;obtain rfl:ad=⟨b,o,none⟩:=Option.some.inj (had.symm.trans e);have hj:=(List.getElem?_eq_some_iff.1 hu).1;rw [ndCells_len,List.length_mapIdx] at hj;have hi:j / 8<Ls.length:=by omega
  have hp:(Ls.mapIdx fun i L=>(f i,L))[j / 8]?=some (f (j / 8),Ls[j / 8]):=by
   rw [List.getElem?_mapIdx,List.getElem?_eq_getElem hi];rfl
  have h1:=ndCells_at _ (j / 8) (j % 8) _ hp (Nat.mod_lt _ (by omega));rw [show j / 8*8+j % 8=j by omega,hu] at h1;have h2:=(hf (j / 8) _ (List.getElem?_eq_getElem hi)).2 (j % 8) u (by rw [<-Array.getElem?_toList];exact h1.symm);rw [show o+j / 8*8+j % 8=o+j by omega] at h2;rw [Addr.add_lit];exact h2
 have e:Ls=[]:=List.eq_nil_of_length_eq_zero (by rw [h.2.2.1];omega);subst e;exact ⟨[],rfl,(by show 0=s.m;omega),h.1,h.2.1,(fun p hp=>by cases hp),(fun q=>absurd q hm),(fun ad _ j u hu=>by simp [ndCells] at hu)⟩
theorem SrcNd.len [Lo] (h:SrcNd w B s Ls):Ls.length=s.m:=by
 obtain ⟨ps,rfl,hl,_⟩:=h;rw [List.length_map,hl]
theorem SrcNd.more [Lo] (h:SrcNd w B s Ls) (g:B<=B'):SrcNd w B' s Ls:=by
 obtain ⟨ps,e,hl,h1,h2,hp,h3,h4⟩:=h;exact ⟨ps,e,hl,h1,h2,fun p q=>(hp p q).more g,h3,h4⟩
theorem SrcNd.mW [Lo] (h:SrcNd w B s Ls) (q:World) (b:B<=q.heap.size:=by omega):SrcNd w q.heap.size s Ls:=h.more b
theorem OwnNd.nil [Lo] (w:World) (base B:Nat):OwnNd w base B nilS.v []:=⟨[],rfl,⟨rfl,.inl ⟨rfl,rfl⟩⟩,fun p hp=>by cases hp⟩
theorem OwnNd.keep [Lo] (h:OwnNd w base B v Ls) (g:Bw w w') (hB:B<=w.heap.size):OwnNd w' base B v Ls:=by
 obtain ⟨ps,e,ho,hp⟩:=h;exact ⟨ps,e,own_below ho g,fun p q=>(hp p q).below (g.mono hB)⟩
theorem OwnNd.more [Lo] (h:OwnNd w base B v Ls) (g:B<=B'):OwnNd w base B' v Ls:=by
 obtain ⟨ps,e,ho,hp⟩:=h;exact ⟨ps,e,ho,fun p q=>(hp p q).more g⟩
theorem OwnNd.mW [Lo] (h:OwnNd w base B v Ls) (q:World) (b:B<=q.heap.size:=by omega):OwnNd w base q.heap.size v Ls:=h.more b
theorem OwnNd.row [Lo] (h:OwnNd w base B v Ls) (hB:B<=w.heap.size):∃ s:SlV,v=s.v/\RwNd w w.heap.size s Ls:=by
 obtain ⟨ps,rfl,ho,hp⟩:=h;rcases ho.2 with ⟨rfl,h0⟩ | ⟨g,cap,cur,rfl,hg,hh,h1,h2,h3,h4⟩
 ·exact ⟨nilS,rfl,Nat.le_refl _,Nat.zero_le _,by simpa using h0,fun q=>absurd q (by simp)⟩
 refine ⟨⟨some ⟨g,0,none⟩,ps.length,cap⟩,rfl,h1,h2,by simp,fun hm=>⟨g,0,rfl,(ho.lt g rfl).2,fun i L hL=>?_⟩⟩;rw [List.getElem?_map,Option.map_eq_some_iff] at hL;obtain ⟨p,hp',rfl⟩:=hL;refine ⟨p.1,(hp p (List.mem_of_getElem? hp')).more hB,fun j u hu=>?_⟩;have hj:j<8:=(Array.getElem?_eq_some_iff.1 hu).1;have:=ho.cells (g:=g) rfl (i*8+j) u (by
  rw [ndCells_at ps i j p hp' hj];rw [<-Array.getElem?_toList] at hu;exact hu)
 rw [Addr.add_lit,<-Nat.add_assoc] at this;exact this
theorem SlV.v_inj {r:SlV} (e:s.v=r.v):s=r:=by
 obtain ⟨A,m,c⟩:=s;obtain ⟨A',m',c'⟩:=r;simp only [SlV.v,Value.slice.injEq] at e;obtain ⟨rfl,rfl,rfl⟩:=e;rfl
theorem OwnNd.rowS [Lo] (h:OwnNd w base B s.v Ls) (hB:B<=w.heap.size):RwNd w w.heap.size s Ls:=by
 obtain ⟨r,e,hr⟩:=h.row hB;rw [SlV.v_inj e];exact hr
theorem OwnNd.addr [Lo] (h:OwnNd w base B s.v Ls) {i:Nat} (hi:i<Ls.length):∃ g,s.A=some ⟨g,0,none⟩/\base<=g/\g<w.heap.size:=by
 obtain ⟨ps,rfl,ho,hp⟩:=h;rcases ho.2 with ⟨e,h0⟩ | ⟨g,cap,cur,e,hg,hh,h1,h2,h3,h4⟩
 ·rw [List.length_map] at hi;omega
 have e2:s=⟨some ⟨g,0,none⟩,ps.length,cap⟩:=SlV.v_inj e;subst e2;exact ⟨g,rfl,hg,(ho.lt g rfl).2⟩
theorem append_nds [Lo] (w:World) (base B:Nat) (v:Value) (Ls Ms:List Nd) (s:SlV) (hown:OwnNd w base B v Ls) (hS:SrcNd w B s Ms) (hBb:B<=base) (hb:Ls.length+Ms.length<=1000000) (hbase:base<=w.heap.size) :
  ∃ v' w',(Builtin.append_ #[22,22] 22 #[v,s.v]).run prog w=.ok v' w'/\OwnNd w' base B v' (Ls++Ms)/\Below base w w'/\w.grownBy w' v.ownBlock:=by
 obtain ⟨i0,hi0,hz0,hz1,hz2⟩:=info_parts infoNd;obtain ⟨ps,rfl,ho,hp⟩:=hown;obtain ⟨qs,rfl,hl,hmc,hcm,hq,hA,hc⟩:=hS;rw [List.length_map,List.length_map] at hb;by_cases h0:s.m=0/\s.A=none
 ·have hy:qs=[]:=List.eq_nil_of_length_eq_zero (by omega);subst hy;refine ⟨v,w,?_,⟨ps,by simp,ho,hp⟩,Below.refl _ _,World.grownBy.refl w _⟩;obtain ⟨A,m,c⟩:=s;obtain ⟨rfl,rfl⟩:=h0;rcases ho.2 with ⟨rfl,_⟩ | ⟨g,cap,cur,rfl,_,_,hnc,_⟩
  ·simp [Builtin.append_,run_underlying huNd,sizeOf,typeInfo,hi0,Builtin.lenOf,Builtin.firstCells]
  simp [Builtin.append_,run_underlying huNd,sizeOf,typeInfo,hi0,Builtin.lenOf,Builtin.firstCells,hnc,storeCells]
 have hA2:∃ ad,s.A=some ad:=by
  by_cases hm0:s.m=0
  ·cases hq:s.A with
   | none=>exact absurd ⟨hm0,hq⟩ h0
   | some ad=>exact ⟨ad,rfl⟩
  exact hA (by omega)
 obtain ⟨ad,hA2⟩:=hA2;have hcc:=hc ad hA2;obtain ⟨A,m,c⟩:=s;simp only at hA2 hl hcc;subst hA2;obtain ⟨v',w',hrun,h1,h2,_,h3⟩:=run_append_own_at (P:=prog) w base 22 22 81 i0 _ 8 160 huNd hi0 hz0 hz1 hz2 rfl (by omega) v _ _ ho ad m c (ndCells qs) (by rw [ndCells_len,hl]) hcc (ndCells_one qs) (by unfold maxLen;omega) (by omega) hbase;have hbel:Below base w w':=(Below.refl _ _).grown h2 hbase (fun k hk=>(ho.lt k hk).1);refine ⟨v',w',hrun,⟨ps++qs,by simp,?_,fun p hpq=>?_⟩,hbel,h2⟩
 ·rw [ndCells_app,List.length_append,hl];exact h1
 rcases List.mem_append.1 hpq with h | h
 ·exact (hp p h).below (hbel.mono hBb)
 exact (hq p h).below (hbel.mono hBb)
theorem append_ndz [Lo] (w:World) (B:Nat) (s:SlV) (Ls:List Nd) (n:Nat) (hS:SrcNd w B s Ls) (hB:B<=w.heap.size) (hfull:s.c=s.m) (h0:0<n) (hb:Ls.length+n<=1000000) (hnil:s.A=none->s.m=0) :
  ∃ v' w',(Builtin.append_ #[22,3] 22 #[s.v,nv (n:Int)]).run prog w=.ok v' w'/\OwnNd w' w.heap.size B v' (Ls++List.replicate n Nd.zero)/\Bw w w':=by
 obtain ⟨i0,hi0,hz0,hz1,hz2⟩:=info_parts infoNd;obtain ⟨qs,rfl,hl,hmc,hcm,hq,hA,hc⟩:=hS;rw [List.length_map] at hb;obtain ⟨A,m,c⟩:=s;simp only at hl hmc hcm hfull hnil hA hc;subst hfull;subst hl;have hw:IntKind.i64.wrap (n:Int)=n:=by rw [IntKind.wrap_i64];omega
 have hneg:¬((n:Int)<0):=by omega
 have h48i:¬(281474976710656<(n:Int)*(i0.bytes:Int)):=by rw [hz2];omega
 have hns:¬(n*i0.size=0):=by rw [hz1];omega
 have hn:¬(qs.length+n<=qs.length):=by omega
 have h63':¬(9223372036854775807<((qs.length:Int)+(n:Int))):=by omega
 have h48':¬(281474976710656<Builtin.nextslicecap (qs.length+n) qs.length*i0.bytes):=by
  have:=nextslicecap_le (need:=qs.length+n) (old:=qs.length) (by omega);rw [hz2];omega
 have hold:(Builtin.firstCells i0.size qs.length (.slice A qs.length qs.length)).run prog w.drew=.ok (ndCells qs).toArray w.drew:=by
  cases A with
  | none =>
   have e:qs=[]:=List.eq_nil_of_length_eq_zero (hnil rfl);subst e;exact run_firstCells_none _ _ _ _ _
  | some b =>
   exact run_firstCells_some (P:=prog) w.drew i0.size qs.length b qs.length qs.length (ndCells qs) (by rw [ndCells_len,hz1]) (by simpa using hc b rfl)
 have hge:=grownCap_ge w (qs.length+n) qs.length 81;have hcm2:grownCap w (qs.length+n) qs.length 81<=maxLen:=grownCap_le_maxLen w (qs.length+n) qs.length 81 (by unfold maxLen;omega);have hr:(Builtin.append_ #[22,3] 22 #[.slice A qs.length qs.length,nv (n:Int)]).run prog w =
   .ok (.slice (some ⟨w.heap.size,0,none⟩) (qs.length+n) (grownCap w (qs.length+n) qs.length 81))
    (w.drew.alloc (.cells ((ndCells qs).toArray++Builtin.zeroCells zNd.cells n++Builtin.zeroCells zNd.cells (grownCap w (qs.length+n) qs.length 81-(qs.length+n))) 81)):=by
  simp [Builtin.append_,run_underlying huNd,run_underlying (show prog.underlying 3=some (.int .i64) by kernel_rfl),sizeOf,typeInfo,zeroValue,hi0,hz0,asInt,asIntOf,hw,hn,hneg,hns,h63',h48',h48i,Question.forced,hold,newRow,grownCap]
 generalize grownCap w (qs.length+n) qs.length 81=G at *;have hzs:∀ k:Nat,(Builtin.zeroCells zNd.cells k).toList=ndCells (List.replicate k (NdV.zero,Nd.zero)):=by
  intro k;refine List.ext_getElem (by rw [Array.length_toList,size_zeroCells,ndCells_len,List.length_replicate];rfl) fun j h1 h2=>?_;have hk:j / 8<k:=by
   rw [ndCells_len,List.length_replicate] at h2;omega
  have h3:=ndCells_at (List.replicate k (NdV.zero,Nd.zero)) (j / 8) (j % 8) (NdV.zero,Nd.zero) (by rw [List.getElem?_replicate,if_pos hk]) (Nat.mod_lt _ (by omega));rw [show j / 8*8+j % 8=j by omega,List.getElem?_eq_getElem h2] at h3;have h4:j % 8<(ndc (NdV.zero,Nd.zero)).length:=Nat.mod_lt _ (by omega);rw [List.getElem?_eq_getElem h4] at h3;rw [Option.some.inj h3];simp only [Builtin.zeroCells,Array.getElem_toList,Array.getElem_map,Array.getElem_range];show (zNd.cells)[j % 8]! = _;have h5:j % 8<8:=Nat.mod_lt _ (by omega);generalize j % 8=r at *
  match r,h5 with
  | 0,_=>rfl
  | 1,_=>rfl
  | 2,_=>rfl
  | 3,_=>rfl
  | 4,_=>rfl
  | 5,_=>rfl
  | 6,_=>rfl
  | 7,_=>rfl
 refine ⟨_,_,hr,⟨qs++List.replicate n (NdV.zero,Nd.zero),by simp,⟨by rw [ndCells_len],.inr ⟨w.heap.size,G,_,by rw [List.length_append,List.length_replicate],Nat.le_refl _,heap_alloc_new w.drew _,by rw [List.length_append,List.length_replicate];exact hge,hcm2,?_,?_⟩⟩,fun p hp=>?_⟩,((Below.refl _ _).drew).alloc Lr _⟩
 ·simp only [Array.size_append,List.size_toArray,size_zeroCells,ndCells_len];show qs.length*8+n*8+(G-(qs.length+n))*8=G*8;omega
 ·simp only [Array.toList_append,hzs,<-ndCells_app];refine (ndCells_take _ _ (by simp)).trans (congrArg ndCells ?_);exact List.take_left
 have hbel:Below w.heap.size w (w.drew.alloc (.cells ((ndCells qs).toArray++Builtin.zeroCells zNd.cells n++Builtin.zeroCells zNd.cells (G-(qs.length+n))) 81)):=((Below.refl _ _).drew).alloc Lr _;rcases List.mem_append.1 hp with h | h
 ·exact (hq p h).below (hbel.mono hB)
 rw [List.eq_of_mem_replicate h];exact IsNd.zero _ _
end
/- TrWk:
  Rules for rows of nodes: pieces, single nodes, appends, stores.
-/
theorem RwNd.nil [Lo] (w:World) (B:Nat):RwNd w B nilS []:=⟨Nat.le_refl _,Nat.zero_le _,rfl,fun q=>absurd q (by simp)⟩
theorem RwNd.cast [Lo] {w:World} {Ms:List Nd} (h:RwNd w B s Ls) (e:Ls=Ms):RwNd w B s Ms:=e▸h
theorem RwNd.cap [Lo] {w:World} (h:RwNd w B s Ls):s.m<=s.c/\s.c<=9223372036854775807:=⟨h.1,by have:=h.2.1;unfold maxLen at this;omega⟩
def cutR (A:Option Addr) (l m:Nat):Option Addr:=if m=l then A else A.map (·.add (l*8))
theorem RwNd.cut [Lo] {w:World} (h:RwNd w B s Ls) (l k m:Nat) (h1:l<=k) (h2:k<=s.m) (h3:k<=m) (h4:m<=s.c):RwNd w B ⟨cutR s.A l m,k-l,m-l⟩ ((Ls.take k).drop l):=by
 refine ⟨by show k-l<=m-l;omega,by have:=h.2.1;show m-l<=maxLen;omega,by rw [List.length_drop,List.length_take,h.len];show min k s.m-l=k-l;omega,fun hm=>?_⟩;have hm:0<k-l:=hm;obtain ⟨b,o,e,hB,hc⟩:=h.2.2.2 (by omega);have hne:¬m=l:=by omega
 refine ⟨b,o+l*8,by show cutR s.A l m=_;rw [cutR,if_neg hne,e];simp [Addr.add],hB,fun i L hL=>?_⟩;rw [List.getElem?_drop,List.getElem?_take] at hL;split at hL
 ·obtain ⟨l',h5,h6⟩:=hc (l+i) L hL;refine ⟨l',h5,fun j u hu=>?_⟩;have:=h6 j u hu;rw [show o+l*8+i*8+j=o+(l+i)*8+j by omega];exact this
 cases hL
theorem run_cutG {w:World} (A:Option Addr) (n c l k m:Nat) (lo hi mx:Option Value) (hb:(Instr.sliceBounds true n c lo hi mx).run prog w=.ok (l,k,m) w) :
  (Instr.sliceAt 22 (.slice A n c) lo hi mx).run prog w=.ok (.slice (cutR A l m) (k-l) (m-l)) w:=by
 obtain ⟨i0,hi0,hz0,hz1,hz2⟩:=info_parts infoNd;simp [Instr.sliceAt,Instr.slice,run_underlying huNd,hb,sizeOf,typeInfo,hi0,hz1,cutR]
section
variable {ops:Array Oper} {Q:Exit->Act->World->Prop} {n d:Nat} {E:Env} {o:Oper} {rest:List Oper} {w w0:World} {v:Value} {x y z q:Operand} {t t':TypeId} {B base:Nat} {s:SlV} {Ls Ms:List Nd}
theorem y_cutR_h (k:Nat) {hi:Int} (e:hi=k) (h:k<=s.c) (ho:o.op=.slice 22 x none (some z) none:=by rfl) (hx:val E x=some s.v:=by rfl) (hz:val E z=some (nv hi):=by rfl):Yields prog E o w (⟨cutR s.A 0 s.c,k-0,s.c-0⟩:SlV).v:=fun n a ha=>.inl (by
 subst e;unfold execOp;rw [ho];simp only [ha.eval hx,Option.map_some,Option.map_none,ha.eval hz];rw [Sem.run_bind,run_cutG s.A s.m s.c 0 k s.c none (some (nv k)) none (by simp [Instr.sliceBounds,run_sliceBound,show (k:Int)<=s.c by omega])];rfl)
theorem y_cutR_hm (k m:Nat) {hi mx:Int} (e:hi=k) (e':mx=m) (h:k<=m) (h':m<=s.c) (ho:o.op=.slice 22 x none (some z) (some q):=by rfl) (hx:val E x=some s.v:=by rfl) (hz:val E z=some (nv hi):=by rfl) (hq:val E q=some (nv mx):=by rfl):Yields prog E o w (⟨cutR s.A 0 m,k-0,m-0⟩:SlV).v:=fun n a ha=>.inl (by
 subst e e';unfold execOp;rw [ho];simp only [ha.eval hx,Option.map_some,Option.map_none,ha.eval hz,ha.eval hq];rw [Sem.run_bind,run_cutG s.A s.m s.c 0 k m none (some (nv k)) (some (nv m)) (by simp [Instr.sliceBounds,run_sliceBound,show (k:Int)<=m by omega,show (m:Int)<=s.c by omega])];rfl)
theorem y_cutR_lhm (l k m:Nat) {lo hi mx:Int} (e0:lo=l) (e:hi=k) (e':mx=m) (h0:l<=k) (h:k<=m) (h':m<=s.c) (ho:o.op=.slice 22 x (some y) (some z) (some q)) (hx:val E x=some s.v) (hy:val E y=some (nv lo)) (hz:val E z=some (nv hi)) (hq:val E q=some (nv mx)):Yields prog E o w (⟨cutR s.A l m,k-l,m-l⟩:SlV).v:=fun n a ha=>.inl (by
 subst e0 e e';unfold execOp;rw [ho];simp only [ha.eval hx,Option.map_some,ha.eval hy,ha.eval hz,ha.eval hq];rw [Sem.run_bind,run_cutG s.A s.m s.c l k m (some (nv l)) (some (nv k)) (some (nv m)) (by simp [Instr.sliceBounds,run_sliceBound,show (l:Int)<=k by omega,show (k:Int)<=m by omega,show (m:Int)<=s.c by omega])];rfl)
theorem lg_bs0R [Lo] (hw:Want ops E o true) (ho:o.op=.buildSlice 22 0 #[]) (hd:o.dst=some d) (hn:d<n)
  (h:∀ u w',OwnNd w' w.heap.size w.heap.size u []->Bw w w'->LG prog ops Q n ((d,u)::E) rest w'):LG prog ops Q n E (o::rest) w:=by
 refine lg_do hw (fun n a ha=>?_) hd hn (h (.slice (some ⟨w.heap.size,0,none⟩) 0 0) (w.alloc (.cells #[] 81)) ⟨[],rfl,⟨rfl,.inr ⟨_,0,#[],rfl,Nat.le_refl _,heap_alloc_new w _,Nat.le_refl _,Nat.zero_le _,rfl,rfl⟩⟩,fun p hp=>by cases hp⟩ ((Below.refl _ _).alloc Lr _));obtain ⟨i0,hi0,hz0,hz1,hz2⟩:=info_parts infoNd;simp [execOp,ho,Instr.buildSlice,run_underlying huNd,sizeOf,typeInfo,hi0,Instr.fill,newRow];have e:Array.map (fun (_:Nat)=>(default:Value)) (Array.range 0)=#[]:=Array.eq_empty_of_size_eq_zero (by simp);rw [e]
theorem fill_one (l:NdV) (L:Nd):Instr.fill (fun i=>some (i*8,8)) ((Array.range 8).map (fun k=>zNd.cells[k % zNd.cells.size]!)) [(0,.agg (l.cs L))]=some (l.cs L):=by kernel_rfl
theorem lg_bs1R {l:NdV} (hw:Want ops E o true) (ho:o.op=.buildSlice 22 1 #[(0,x)]) (hx:val E x=some (.agg (l.cs L))) (hd:o.dst=some d) (hn:d<n)
  (h:∀ b w',New w w' b 81 (l.cs L)->LG prog ops Q n ((d,(⟨some ⟨b,0,none⟩,1,1⟩:SlV).v)::E) rest w'):LG prog ops Q n E (o::rest) w:=by
 refine lg_do hw (fun n a ha=>?_) hd hn (h _ _ (New.of_alloc 81 (l.cs L)));obtain ⟨i0,hi0,hz0,hz1,hz2⟩:=info_parts infoNd;have hf:=fill_one l L;simp [execOp,ho,Instr.buildSlice,ha.eval hx,run_underlying huNd,sizeOf,typeInfo,hi0,hz1,zeroValue,hz0,hf,newRow]
theorem new_row [Lo] {w':World} {tr:TypeId} {l:NdV} (n:New w w' b tr (l.cs L)) (hl:IsNd w B l L) (hB:B<=w.heap.size):RwNd w' w'.heap.size ⟨some ⟨b,0,none⟩,1,1⟩ [L]:=by
 refine ⟨Nat.le_refl _,by show 1<=maxLen;unfold maxLen;omega,rfl,fun _=>⟨b,0,rfl,by have:=n.size;omega,fun i L' hL=>?_⟩⟩;have hi:i=0:=by
  have:=(List.getElem?_eq_some_iff.1 hL).1;simpa using this
 subst hi;obtain rfl:L=L':=by simpa using hL
 refine ⟨l,(hl.below (n.below.mono hB)).more (by have:=n.size;have:=n.blk;omega),fun j u hu=>?_⟩;rw [show 0+0*8+j=j by omega,cell_of_row w' b j _ tr _ n.row];exact hu
theorem lg_appR [Lo] {u:Value} (hown:OwnNd w base B u Ls) (hS:SrcNd w B s Ms) (hBb:B<=base) (hb:Ls.length+Ms.length<=1000000) (hbase:base<=w.heap.size) (hw:Want ops E o true)
  (ho:o.op=.call { callee:=.builtin .append,args:=#[x,y],argTypes:=#[22,22] }) (hty:o.type=22) (hx:val E x=some u) (hy:val E y=some s.v) (hd:o.dst=some d) (hn:d<n)
  (h:∀ (r:SlV) w',OwnNd w' base B r.v (Ls++Ms)->RwNd w' w'.heap.size r (Ls++Ms)->Below base w w'->w.heap.size<=w'.heap.size->LG prog ops Q n ((d,r.v)::E) rest w'):LG prog ops Q n E (o::rest) w:=by
 obtain ⟨v',w',hrun,h1,hg,_⟩:=append_nds w base B u Ls Ms s hown hS hBb hb hbase;obtain ⟨r,rfl,hr⟩:=h1.row (Nat.le_trans (Nat.le_trans hBb hbase) hg.size);refine lg_do hw (fun n a ha=>?_) hd hn (h r w' h1 hr hg hg.size);simp [execOp,ho,hty,resolve,invoke,builtin,ha.eval hx,ha.eval hy,hrun,Result.andThen]
theorem lg_appZ [Lo] {kI:Int} (hR:RwNd w B s Ls) (hB:B<=w.heap.size) (hfull:s.c=s.m) (e:kI=k) (h0:0<k) (hb:Ls.length+k<=1000000) (hw:Want ops E o true)
  (ho:o.op=.call { callee:=.builtin .append,args:=#[x,y],argTypes:=#[22,3] }) (hty:o.type=22) (hx:val E x=some s.v) (hy:val E y=some (nv kI)) (hd:o.dst=some d) (hn:d<n)
  (h:∀ (r:SlV) w',RwNd w' w'.heap.size r (Ls++List.replicate k Nd.zero)->Bw w w'->LG prog ops Q n ((d,r.v)::E) rest w'):LG prog ops Q n E (o::rest) w:=by
 subst e;obtain ⟨v',w',hrun,h1,hg⟩:=append_ndz w B s Ls k hR.src hB hfull h0 hb (fun q=>by
  by_cases hm:0<s.m
  ·obtain ⟨b,o,e,_⟩:=hR.2.2.2 hm;rw [e] at q;cases q
  omega)
 obtain ⟨r,rfl,hr⟩:=h1.row (Nat.le_trans hB hg.size);refine lg_do hw (fun n a ha=>?_) hd hn (h r w' hr hg);simp [execOp,ho,hty,resolve,invoke,builtin,ha.eval hx,ha.eval hy,hrun,Result.andThen]
theorem lg_stR [Lo] {i g:Nat} {l:NdV} (hown:OwnNd w base B s.v Ls) (hl:IsNd w B l L) (hBb:B<=base) (hi:i<Ls.length) (hA:s.A=some ⟨g,0,none⟩) (hw:Want ops E o true)
  (ho:o.op=.store 81 x y) (hx:val E x=some (pv g (0+i*8))) (hy:val E y=some (.agg (l.cs L))) (hd:o.dst=none)
  (h:∀ w' old new,RowAt w g 81 old->Set1 w w' g 81 new->OwnNd w' base B s.v (Ls.set i L)->Below base w w'->w'.heap.size=w.heap.size->LG prog ops Q n E rest w'):LG prog ops Q n E (o::rest) w:=by
 obtain ⟨ps,rfl,ho2,hp⟩:=hown;rw [List.length_map] at hi;rcases ho2.2 with ⟨e,h0⟩ | ⟨g',cap,cur,e,hg,hh,h1,h2,h3,h4⟩
 ·omega
 have e2:s=⟨some ⟨g',0,none⟩,ps.length,cap⟩:=SlV.v_inj e;subst e2;obtain rfl:g'=g:=by simpa using hA
 have hT:cur.toList=ndCells ps++cur.toList.drop (ps.length*8):=by
  conv=>lhs;rw [<-List.take_append_drop (ps.length*8) cur.toList,h4]
 generalize hR:cur.toList.drop (ps.length*8)=R at hT;have hlen:=ndCells_len ps;have hnew:cur.toList.take (0+i*8)++(l.cs L).toList++cur.toList.drop (0+i*8+8)=ndCells (ps.set i (l,L))++R:=by
  rw [<-ndCells_set ps i (l,L) hi,hT,Nat.zero_add,List.take_append_of_le_length (by omega),List.drop_append_of_le_length (by omega)];simp only [List.append_assoc,ndc]
 refine lg_st (j:=0+i*8) hw (show RowAt w g' 81 cur from hh) ho hx hy (by kernel_rfl) (by kernel_rfl) (by rw [h3];show 0+i*8+8<=_;omega) rfl hd fun w' st=>?_;refine h w' cur _ hh st ⟨ps.set i (l,L),by rw [List.map_set],⟨by rw [ndCells_len],.inr ⟨g',cap,_,by rw [List.length_set],hg,st.row,by rw [List.length_set];exact h1,h2,?_,?_⟩⟩,fun p hpq=>?_⟩ (st.below _ hg) st.size
 ·have e3:(ndCells (ps.set i (l,L))++R).length=cap*8:=by
   have hc:cur.toList.length=cap*8:=by
    rw [Array.length_toList];exact h3
   rw [List.length_append,ndCells_len,List.length_set,<-hR,List.length_drop,hc];omega
  show (List.toArray (cur.toList.take (0+i*8)++(l.cs L).toList++cur.toList.drop (0+i*8+8))).size=_;rw [List.size_toArray,hnew,e3]
 ·show (cur.toList.take (0+i*8)++(l.cs L).toList++cur.toList.drop (0+i*8+8)).take _=_;rw [hnew];exact List.take_left' (by rw [ndCells_len])
 rcases List.mem_or_eq_of_mem_set hpq with h | h
 ·exact (hp p h).below st.bl
 rw [h];exact hl.below st.bl
set_option maxRecDepth 20000 in
theorem y_nilR {b:Addr} (hA:s.A=some b) (ho:o.op=.binOp .eql 22 x y t':=by rfl) (hx:val E x=some s.v:=by rfl) (hy:val E y=some (.slice none 0 0):=by rfl):Yields prog E o w (.bool false) :=
 y_bin (fun x y w=>by
  obtain ⟨A,m,c⟩:=s;simp only at hA;subst hA;rfl) ho hx hy
end
/- TrCat:
  Contracts of slices.Grow (of nil) and slices.Concat (of three rows of nodes), which the program takes from Go's library.
-/
def OwnR [Lo] (w:World) (base:Nat) (ys:List Nd) (e:Ending) (w':World):Prop:=∃ v,e=.returned v/\OwnNd w' base base v ys/\Below base w w'/\base<=w'.heap.size
theorem wpList_append_nds [Lo] (w:World) {ops:Array Oper} {rest:List Oper} {o:Oper} {a:Act} {Q:Exit->Act->World->Prop} (hgd:o.guard=none) (s x:Operand)
  (ho:o.op=.call { callee:=.builtin .append,args:=#[s,x],argTypes:=#[22,22] }) (hty:o.type=22) (base:Nat) (v:Value) (xs ys:List Nd) (A:Option Addr) (m c:Nat)
  (hs:a.eval s=v) (hx:a.eval x=.slice A m c) (hown:OwnNd w base base v xs) (hO:SrcNd w base ⟨A,m,c⟩ ys) (hb:xs.length+ys.length<=1000000) (hbase:base<=w.heap.size)
  (h:∀ v' w',OwnNd w' base base v' (xs++ys)->Below base w w'->wpList prog ops Q rest (a.put o.dst v') w'):wpList prog ops Q (o::rest) a w:=by
 refine wpList_plain hgd fun K hK=>?_;obtain ⟨v',w',hrun,h1,h2,_⟩:=append_nds w base base v xs ys ⟨A,m,c⟩ hown hO Lr hb hbase;unfold Oper.wp;simp [execOp,ho,hty,resolve,invoke,builtin,hs,hx,hrun,Result.andThen];exact hK _ _ (h v' w' h1 h2)
set_option maxRecDepth 20000 in
theorem growR_nil [Lo] (n:Nat) (m:Int) (hm:m=n) (w:World) (hn:n<=1000000) :
  Calls prog 298 #[.slice none 0 0,.int .i64 m] w (OwnR w w.heap.size []):=by
 subst hm;obtain ⟨i0,hi0,hz0,hz1,hz2⟩:=info_parts infoNd;by_cases h0:n=0
 ·subst h0
  go_enter func298,ntmps298
  go_wp2
  go_ret
  exact ⟨_,rfl,OwnNd.nil _ _ _,Below.refl _ _,Nat.le_refl _⟩
 have hr:=Lib.run_append_nil_zeros (P:=prog) w 22 3 22 81 i0 _ .i64 .i64 Tryz.underlying22 Tryz.underlying3 hi0 hz0 n (by omega) (by omega) (by omega) (by rw [hz2];omega);have hG:=grownCap_ge w n 0 81;have hG2:=grownCap_le_maxLen w n 0 81 (by unfold maxLen;omega);generalize grownCap w n 0 81=G at *;have HR:=Lib.hid hr;have hpos:0<n:=by omega
 have hG3:G<=9223372036854775807:=hG2;clear hr hG2
 go_enter func298,ntmps298
 go_wp2_with (at_builtin;refine Lib.wpList_append_run _ rfl _ _ _ _ rfl _ _ rfl rfl _ _ HR.out ?_)
 go_ret
 refine ⟨_,rfl,⟨[],rfl,⟨rfl,.inr ⟨w.heap.size,G,_,rfl,Nat.le_refl _,heap_alloc_new w.drew _,Nat.zero_le _,hG3,?_,rfl⟩⟩,fun p hp=>by cases hp⟩,((Below.refl _ _).drew).alloc Lr _,by simp⟩;rw [Array.size_append,size_zeroCells,size_zeroCells];show n*8+(G-n)*8=G*8;omega

def CatSumR (n1 n2 n3:Nat) (s i:Value):Prop :=
 (i=.int .i64 0/\s=.int .i64 0)\/(i=.int .i64 1/\s=.int .i64 n1)\/(i=.int .i64 2/\s=.int .i64 ((n1:Int)+n2))\/(i=.int .i64 3/\s=.int .i64 ((n1:Int)+n2+n3))
def CatRowR [Lo] (w:World) (x1 x2 x3:List Nd) (v i:Value) (w':World):Prop :=
  Bw w w'/\w.heap.size<=w'.heap.size /\
  ((i=.int .i64 0/\OwnNd w' w.heap.size w.heap.size v []) \/
   (i=.int .i64 1/\OwnNd w' w.heap.size w.heap.size v x1) \/
   (i=.int .i64 2/\OwnNd w' w.heap.size w.heap.size v (x1++x2)) \/
   (i=.int .i64 3/\OwnNd w' w.heap.size w.heap.size v (x1++x2++x3)))
theorem concatR [Lo] (b n1 n2 n3 c1 c2 c3:Nat) (A1 A2 A3:Option Addr) (x1 x2 x3:List Nd) (w:World)
    (h1:RwNd w w.heap.size ⟨A1,n1,c1⟩ x1) (h2:RwNd w w.heap.size ⟨A2,n2,c2⟩ x2) (h3:RwNd w w.heap.size ⟨A3,n3,c3⟩ x3) (hb:b<w.heap.size)
    (e1:w.cell? ⟨b,0,none⟩=some (.slice A1 n1 c1)) (e2:w.cell? ⟨b,1,none⟩=some (.slice A2 n2 c2)) (e3:w.cell? ⟨b,2,none⟩=some (.slice A3 n3 c3))
    (hn:n1+n2+n3<=1000000) :
    Calls prog 262 #[.slice (some ⟨b,0,none⟩) 3 3] w (OwnR w w.heap.size (x1++x2++x3)):=by
  have H1:=Lib.hid h1;have H2:=Lib.hid h2;have H3:=Lib.hid h3;have L1:Hid (x1.length=n1):=Lib.hid h1.len;have L2:Hid (x2.length=n2):=Lib.hid h2.len;have L3:Hid (x3.length=n3):=Lib.hid h3.len;have E1:=Lib.hid e1;have E2:=Lib.hid e2;have E3:=Lib.hid e3;clear h1 h2 h3 e1 e2 e3
  go_enter func262,ntmps262
  go_wp2
  go_loop [3,11] (fun s i=>CatSumR n1 n2 n3 s i) (fun _ i=>3-(intOf i).toNat)
  case atStart=>exact .inl ⟨rfl,rfl⟩
  case round =>
    rcases hrel with ⟨rfl,rfl⟩ | ⟨rfl,rfl⟩ | ⟨rfl,rfl⟩ | ⟨rfl,rfl⟩
    · have e:=E1.out
      go_wp2
      go_round
      case rel=>exact .inr (.inl ⟨rfl,rfl⟩)
      case measure=>simp [intOf]
    · have e:=E2.out
      go_wp2
      go_round
      case rel=>exact .inr (.inr (.inl ⟨rfl,rfl⟩))
      case measure=>simp [intOf]
    · have e:=E3.out
      go_wp2
      go_round
      case rel=>exact .inr (.inr (.inr ⟨rfl,rfl⟩))
      case measure=>simp [intOf]
    · go_wp2_with fail
      refine (growR_nil (n1+n2+n3) _ (by omega) _ hn).mono ?_;rintro e w1 ⟨v1,rfl,how1,hb1,hs1⟩;have HOW1:=Lib.hid how1;clear how1
      go_wp2_with fail
      go_loopw [6,27] (fun v i w'=>CatRowR w x1 x2 x3 v i w') (fun _ i _=>3-(intOf i).toNat)
      case atStart=>exact ⟨hb1,hs1,.inl ⟨rfl,HOW1.out⟩⟩
      case round =>
        rcases hrel with ⟨hb2,hs2,⟨rfl,how2⟩ | ⟨rfl,how2⟩ | ⟨rfl,how2⟩ | ⟨rfl,how2⟩⟩
        · have HOW2:=Lib.hid how2
          have e:=(hb2.cell (p:=⟨b,0,none⟩) hb).trans E1.out;clear how2
          go_wp2_with (at_builtin
                       refine wpList_append_nds _ rfl (.tmp 31) (.tmp 32) rfl rfl w.heap.size _ [] x1 A1 n1 c1 rfl rfl ?hown ?hO ?hb ?hbase ?_
                       case hown=>exact HOW2.out
                       case hO=>exact (H1.out.below hb2).src
                       case hb=>simp [L1.out];omega
                       case hbase=>exact hs2
                       intro v4 w4 hj4 hb4;have H4:=Lib.hid hj4;clear hj4)
          go_roundw
          case rel =>
            have h4:=H4.out;exact ⟨hb2.trans hb4,Nat.le_trans hs2 hb4.size,.inr (.inl ⟨rfl,h4⟩)⟩
          case measure=>simp [intOf]
        · have HOW2:=Lib.hid how2
          have e:=(hb2.cell (p:=⟨b,1,none⟩) hb).trans E2.out;clear how2
          go_wp2_with (at_builtin
                       refine wpList_append_nds _ rfl (.tmp 31) (.tmp 32) rfl rfl w.heap.size _ x1 x2 A2 n2 c2 rfl rfl ?hown ?hO ?hb ?hbase ?_
                       case hown=>exact HOW2.out
                       case hO=>exact (H2.out.below hb2).src
                       case hb=>simp [L1.out,L2.out];omega
                       case hbase=>exact hs2
                       intro v4 w4 hj4 hb4;have H4:=Lib.hid hj4;clear hj4)
          go_roundw
          case rel =>
            have h4:=H4.out;exact ⟨hb2.trans hb4,Nat.le_trans hs2 hb4.size,.inr (.inr (.inl ⟨rfl,h4⟩))⟩
          case measure=>simp [intOf]
        · have HOW2:=Lib.hid how2
          have e:=(hb2.cell (p:=⟨b,2,none⟩) hb).trans E3.out;clear how2
          go_wp2_with (at_builtin
                       refine wpList_append_nds _ rfl (.tmp 31) (.tmp 32) rfl rfl w.heap.size _ (x1++x2) x3 A3 n3 c3 rfl rfl ?hown ?hO ?hb ?hbase ?_
                       case hown=>exact HOW2.out
                       case hO=>exact (H3.out.below hb2).src
                       case hb=>simp [L1.out,L2.out,L3.out];omega
                       case hbase=>exact hs2
                       intro v4 w4 hj4 hb4;have H4:=Lib.hid hj4;clear hj4)
          go_roundw
          case rel =>
            have h4:=H4.out;exact ⟨hb2.trans hb4,Nat.le_trans hs2 hb4.size,.inr (.inr (.inr ⟨rfl,h4⟩))⟩
          case measure=>simp [intOf]
        · have HOW2:=Lib.hid how2
          clear how2
          go_wp2
          go_ret
          exact ⟨_,rfl,HOW2.out,hb2,hs2⟩
theorem concatR_S [Lo] {tr:TypeId} {s1 s2 s3:SlV} {x1 x2 x3:List Nd} (r:RowAt W b tr #[s1.v,s2.v,s3.v]) (h1:RwNd W W.heap.size s1 x1) (h2:RwNd W W.heap.size s2 x2) (h3:RwNd W W.heap.size s3 x3) (hn:x1.length+x2.length+x3.length<=1000000) :
  Calls prog 262 #[.slice (some ⟨b,0,none⟩) 3 3] W fun e W'=>∃ v,e=.returned v/\∃ s:SlV,v=s.v/\RwNd W' W'.heap.size s (x1++x2++x3)/\Bw W W':=by
 have l1:=h1.len;have l2:=h2.len;have l3:=h3.len;refine (concatR b s1.m s2.m s3.m s1.c s2.c s3.c s1.A s2.A s3.A x1 x2 x3 W h1 h2 h3 r.lt (by rw [cell_of_row W b 0 _ tr _ r];rfl) (by rw [cell_of_row W b 1 _ tr _ r];rfl) (by rw [cell_of_row W b 2 _ tr _ r];rfl) (by omega)).mono fun e W' hR=>?_;obtain ⟨v,rfl,ho,hb,hs⟩:=hR;obtain ⟨s,rfl,hr⟩:=ho.row hs;exact ⟨_,rfl,s,rfl,hr,hb⟩
/- TrLit:
  Rows of nodes as they are written out, and rows of blank ones that are made.
-/
section
variable {ops:Array Oper} {Q:Exit->Act->World->Prop} {n d:Nat} {E:Env} {o:Oper} {rest:List Oper} {w w0:World} {v:Value} {x y z q:Operand} {t t':TypeId} {B base:Nat} {s:SlV} {Ls Ms:List Nd}
end
/- TrMath:
  Trees as rows of nodes: what the document says of them.
-/
def atN (a:List Nd) (i:Nat):Nd:=a.getD i Nd.zero
theorem atN_some {i:Nat} (h:a[i]?=some L):atN a i=L:=by simp [atN,List.getD_eq_getElem?_getD,h]
theorem atN_none {i:Nat} (h:a.length<=i):atN a i=Nd.zero:=by simp [atN,List.getD_eq_getElem?_getD,h]
theorem atN_eq (a:List Nd) (i:Nat):atN a i=a[i]?.getD Nd.zero:=by simp [atN,List.getD_eq_getElem?_getD]
theorem atN_set {i:Nat} (hi:i<a.length):atN (a.set i L) j=if j=i then L else atN a j:=by
 rw [atN_eq,atN_eq,List.getElem?_set];by_cases e:i=j
 ·subst e;rw [if_pos rfl,if_pos rfl,if_pos hi];rfl
 rw [if_neg e,if_neg (fun q=>e q.symm)]
theorem atN_take {i:Nat} (h:i<k):atN (a.take k) i=atN a i:=by
 rw [atN_eq,atN_eq,List.getElem?_take,if_pos h]
theorem atN_app_l {b:List Nd} {i:Nat} (h:i<a.length):atN (a++b) i=atN a i:=by
 rw [atN_eq,atN_eq,List.getElem?_append_left h]
theorem atN_app_z {i n:Nat}:atN (a++List.replicate n Nd.zero) i=atN a i:=by
 by_cases h:i<a.length
 ·exact atN_app_l h
 rw [atN_none (a:=a) (by omega),atN_eq,List.getElem?_append_right (by omega),List.getElem?_replicate];split<;>rfl
theorem list_atN {b:List Nd} (hl:a.length=b.length) (h:∀ i,i<a.length->atN a i=atN b i):a=b:=by
 refine List.ext_getElem hl fun i h1 h2=>?_;have:=h i h1;rwa [atN_some (List.getElem?_eq_getElem h1),atN_some (List.getElem?_eq_getElem h2)] at this
def fitK (i:Nat) (k:Int):Prop:=(i % 2≠0\/k≠2)/\(i % 2=0\/k≠1)
instance (i:Nat) (k:Int):Decidable (fitK i k):=by unfold fitK;infer_instance
def okAt (i:Nat) (L:Nd):Prop:=ndCheck L=0/\fitK i L.kind
instance (i:Nat) (L:Nd):Decidable (okAt i L):=by unfold okAt;infer_instance
def trIs (a:List Nd):Prop:=(a.length=0\/isW (a.length:Int))/\∀ i,i<a.length->okAt i (atN a i)
instance (a:List Nd):Decidable (trIs a):=by unfold trIs;infer_instance
def trAs (a:List Nd):List Nd:=if trIs a then a else []
theorem trAs_ok (h:trIs a):trAs a=a:=if_pos h
theorem trAs_no (h:¬trIs a):trAs a=[]:=if_neg h
theorem trIs_nil:trIs []:=⟨.inl rfl,fun i h=>absurd h (by simp)⟩
theorem trAs_is (a:List Nd):trIs (trAs a):=by
 by_cases h:trIs a
 ·rw [trAs_ok h];exact h
 rw [trAs_no h];exact trIs_nil
theorem trAs_as (a:List Nd):trAs (trAs a)=trAs a:=trAs_ok (trAs_is a)
theorem trIs_le (h:trIs a):a.length<=127:=by
 rcases h.1 with e | e
 ·omega
 have:=e.le;omega
theorem trAs_le (a:List Nd):(trAs a).length<=127:=trIs_le (trAs_is a)
theorem trIs_len (h:trIs a):a.length=0\/a.length=1\/a.length=3\/a.length=7\/a.length=15\/a.length=31\/a.length=63\/a.length=127:=by
 rcases h.1 with e | e
 ·omega
 unfold isW at e;omega
theorem ok_zero (i:Nat):okAt i Nd.zero:=⟨nd_zero,.inr (by decide),.inr (by decide)⟩
theorem trIs_ok (h:trIs a) (i:Nat):okAt i (atN a i):=by
 by_cases hi:i<a.length
 ·exact h.2 i hi
 rw [atN_none (by omega)];exact ok_zero i
theorem trIs_set {i:Nat} (h:trIs a) (ok:okAt i L):trIs (a.set i L):=by
 by_cases hi:i<a.length
 ·refine ⟨by rw [List.length_set];exact h.1,fun j hj=>?_⟩;rw [atN_set hi];split
  ·rename_i e
   rw [e];exact ok
  exact trIs_ok h j
 rw [List.set_eq_of_length_le (by omega)];exact h
def leavesA (a:List Nd):Nat:=(a.length+1) / 2
def freeN (a:List Nd):Nat->Nat->Int
 | 0,_=>-1
 | k+1,i=>if (atN a (2*i)).kind=0 then (i:Int) else freeN a k (i+1)
def freeA (a:List Nd):Int:=freeN a (leavesA a) 0
def lastN (a:List Nd):Nat->Int
 | 0=>-1
 | k+1=>if (atN a k).kind=0 then lastN a k else (k:Int)
def lastA (a:List Nd):Int:=lastN a a.length
theorem freeN_is (a:List Nd):∀ (k i:Nat),(freeN a k i=-1/\∀ j,i<=j->j<i+k->(atN a (2*j)).kind≠0) \/
  ∃ j:Nat,freeN a k i=(j:Int)/\i<=j/\j<i+k/\(atN a (2*j)).kind=0/\∀ q,i<=q->q<j->(atN a (2*q)).kind≠0
 | 0,i=>.inl ⟨rfl,fun j h1 h2=>by omega⟩
 | k+1,i=>by
  rw [freeN];by_cases e:(atN a (2*i)).kind=0
  ·rw [if_pos e];exact .inr ⟨i,rfl,Nat.le_refl _,by omega,e,fun q h1 h2=>by omega⟩
  rw [if_neg e];rcases freeN_is a k (i+1) with ⟨h1,h2⟩ | ⟨j,h1,h2,h3,h4,h5⟩
  ·refine .inl ⟨h1,fun j h3 h4=>?_⟩;by_cases q:j=i
   ·rw [q];exact e
   exact h2 j (by omega) (by omega)
  refine .inr ⟨j,h1,by omega,by omega,h4,fun q h6 h7=>?_⟩;by_cases r:q=i
  ·rw [r];exact e
  exact h5 q (by omega) h7
theorem freeA_is (a:List Nd):(freeA a=-1/\∀ j,j<leavesA a->(atN a (2*j)).kind≠0) \/
  ∃ j:Nat,freeA a=(j:Int)/\j<leavesA a/\(atN a (2*j)).kind=0/\∀ q,q<j->(atN a (2*q)).kind≠0:=by
 rcases freeN_is a (leavesA a) 0 with ⟨h1,h2⟩ | ⟨j,h1,h2,h3,h4,h5⟩
 ·exact .inl ⟨h1,fun j hj=>h2 j (by omega) (by omega)⟩
 exact .inr ⟨j,h1,by omega,h4,fun q hq=>h5 q (by omega) hq⟩
theorem freeA_one (h1:j<leavesA a) (h2:(atN a (2*j)).kind=0) (h3:∀ q,q<j->(atN a (2*q)).kind≠0):freeA a=(j:Int):=by
 rcases freeA_is a with ⟨_,h⟩ | ⟨k,h,h4,h5,h6⟩
 ·exact absurd h2 (h j h1)
 have:k=j:=by
  by_cases q:k<j
  ·exact absurd h5 (h3 k q)
  by_cases r:j<k
  ·exact absurd h2 (h6 j r)
  omega
 rw [h,this]
theorem freeA_no (h:∀ j,j<leavesA a->(atN a (2*j)).kind≠0):freeA a=-1:=by
 rcases freeA_is a with ⟨e,_⟩ | ⟨k,e,h1,h2,_⟩
 ·exact e
 exact absurd h2 (h k h1)
theorem freeA_range (a:List Nd):-1<=freeA a/\freeA a<leavesA a/\((leavesA a:Int)<=64->freeA a<64):=by
 rcases freeA_is a with ⟨e,_⟩ | ⟨k,e,h1,_⟩
 ·rw [e];omega
 rw [e];omega
theorem lastN_is (a:List Nd):∀ k:Nat,(lastN a k=-1/\∀ j,j<k->(atN a j).kind=0)\/∃ j:Nat,lastN a k=(j:Int)/\j<k/\(atN a j).kind≠0/\∀ q,j<q->q<k->(atN a q).kind=0
 | 0=>.inl ⟨rfl,fun j h=>by omega⟩
 | k+1=>by
  rw [lastN];by_cases e:(atN a k).kind=0
  ·rw [if_pos e];rcases lastN_is a k with ⟨h1,h2⟩ | ⟨j,h1,h2,h3,h4⟩
   ·refine .inl ⟨h1,fun j hj=>?_⟩;by_cases q:j=k
    ·rw [q];exact e
    exact h2 j (by omega)
   refine .inr ⟨j,h1,by omega,h3,fun q h5 h6=>?_⟩;by_cases r:q=k
   ·rw [r];exact e
   exact h4 q h5 (by omega)
  rw [if_neg e];exact .inr ⟨k,rfl,by omega,e,fun q h1 h2=>by omega⟩
theorem lastA_is (a:List Nd):(lastA a=-1/\∀ j,j<a.length->(atN a j).kind=0)\/∃ j:Nat,lastA a=(j:Int)/\j<a.length/\(atN a j).kind≠0/\∀ q,j<q->q<a.length->(atN a q).kind=0:=lastN_is a a.length
def setE (a:List Nd) (x:Int) (L:Nd):Int :=
 if ¬isN x ((trAs a).length:Int) then 3 else if ¬ndCheck L=0 then ndCheck L else if ¬fitK x.toNat L.kind then 7 else 0
def setL (a:List Nd) (x:Int) (L:Nd):List Nd:=if setE a x L=0 then (trAs a).set x.toNat L else []
def clr:List Int->List Nd->List Nd
 | [],a=>a
 | d::ds,a=>clr ds (a.set d.toNat Nd.zero)
def growE (a:List Nd):Int:=if leavesA (trAs a)=64 then 10 else 0
def growL (a:List Nd):List Nd:=if growE a=0 then trAs a++List.replicate ((trAs a).length+1) Nd.zero else []
def noLeaf (a:List Nd):Prop:=∀ i,i<a.length->(atN a i).kind≠1
instance (a:List Nd):Decidable (noLeaf a):=by unfold noLeaf;infer_instance
def trimN:Nat->List Nd->List Nd
 | 0,a=>a
 | k+1,a=>if 1<a.length/\noLeaf (a.drop (a.length / 2+1)) then trimN k (a.take (a.length / 2)) else a
def endA (a:List Nd):List Nd:=if a.length<=1/\noLeaf a then [] else a
def trimL (a:List Nd):List Nd:=endA (trimN 7 (trAs a))
def trSame (a b:List Nd):Prop:=a.length=b.length/\∀ i,i<a.length->NdSame (atN a i) (atN b i)
instance (a b:List Nd):Decidable (trSame a b):=by unfold trSame;infer_instance
theorem tr_same (a:List Nd):trSame a a:=⟨rfl,fun i _=>nd_same _⟩
def trFew (a:List Nd):Prop:=(∀ i,i<a.length->ndFew (atN a i))/\a.length<=300
instance (a:List Nd):Decidable (trFew a):=by unfold trFew;infer_instance
-- put
theorem setE_ok {x:Int} (h1:isN x ((trAs a).length:Int)) (h2:ndCheck L=0) (h3:fitK x.toNat L.kind):setE a x L=0:=by
 unfold setE;rw [if_neg (fun q=>q h1),if_neg (fun q=>q h2),if_neg (fun q=>q h3)]
theorem setL_ok {x:Int} (h:setE a x L=0):setL a x L=(trAs a).set x.toNat L:=if_pos h
theorem setL_no {x:Int} (h:¬setE a x L=0):setL a x L=[]:=if_neg h
-- blank
theorem clr_len:∀ (ds:List Int) (a:List Nd),(clr ds a).length=a.length
 | [],_=>rfl
 | d::ds,a=>by rw [clr,clr_len ds,List.length_set]
theorem clr_is:∀ (ds:List Int) {a:List Nd},trIs a->trIs (clr ds a)
 | [],_,h=>h
 | d::ds,a,h=>clr_is ds (trIs_set h (ok_zero _))
theorem clr_snoc:∀ (ds:List Int) (d:Int) (a:List Nd),clr (ds++[d]) a=(clr ds a).set d.toNat Nd.zero
 | [],_,_=>rfl
 | c::ds,d,a=>by rw [List.cons_append,clr,clr_snoc ds d,clr]
-- grow
theorem grow_small (h:growE a=0):(trAs a).length<=63:=by
 have h1:=trIs_len (trAs_is a);unfold growE leavesA at h;split at h
 ·exact absurd h (by decide)
 omega
theorem growL_ok (h:growE a=0):growL a=trAs a++List.replicate ((trAs a).length+1) Nd.zero:=if_pos h
theorem growL_no (h:¬growE a=0):growL a=[]:=if_neg h
theorem growL_len (h:growE a=0):(growL a).length=2*(trAs a).length+1:=by
 rw [growL_ok h,List.length_append,List.length_replicate];omega
theorem trIs_growL (a:List Nd):trIs (growL a):=by
 by_cases h:growE a=0
 ·have hl:=growL_len h;have hs:=grow_small h;have h1:=trIs_len (trAs_is a);refine ⟨.inr ?_,fun i hi=>?_⟩
  ·rw [hl];unfold isW;omega
  rw [growL_ok h,atN_app_z];exact trIs_ok (trAs_is a) i
 rw [growL_no h];exact trIs_nil
-- trim
theorem trim_stop (k:Nat) (h:¬(1<a.length/\noLeaf (a.drop (a.length / 2+1)))):trimN k a=a:=by
 cases k with
 | zero=>rfl
 | succ k=>rw [trimN,if_neg h]
theorem trim_step (k:Nat) (h1:1<a.length) (h2:noLeaf (a.drop (a.length / 2+1))):trimN (k+1) a=trimN k (a.take (a.length / 2)):=by rw [trimN,if_pos ⟨h1,h2⟩]
theorem trIs_half (h:trIs a) (h1:1<a.length):trIs (a.take (a.length / 2)):=by
 have hl:=trIs_len h;refine ⟨.inr ?_,fun i hi=>?_⟩
 ·rw [List.length_take];unfold isW;omega
 rw [List.length_take] at hi;rw [atN_take (by omega)];exact trIs_ok h i
theorem trIs_trimN:∀ (k:Nat) {a:List Nd},trIs a->trIs (trimN k a)
 | 0,_,h=>h
 | k+1,a,h=>by
  by_cases c:1<a.length/\noLeaf (a.drop (a.length / 2+1))
  ·rw [trim_step k c.1 c.2];exact trIs_trimN k (trIs_half h c.1)
  rw [trim_stop _ c];exact h
theorem trIs_end (h:trIs a):trIs (endA a):=by
 unfold endA;split
 ·exact trIs_nil
 exact h
theorem trIs_trimL (a:List Nd):trIs (trimL a):=trIs_end (trIs_trimN 7 (trAs_is a))
/- TrProg:
  Trees: what the functions of package shape answer.
-/
theorem trIs_bad {i:Nat} (h:a[i]?=some L) (n:¬okAt i L):¬trIs a:=fun q=>n (by
 have h1:=q.2 i (List.getElem?_eq_some_iff.1 h).1;rwa [atN_some h] at h1)
theorem ok_step {t:Nat} {p:Nat->Nd->Prop} (hk:∀ i,i<t->p i (atN a i)) (h:a[t]?=some L) (h2:p t L):∀ i,i<t+1->p i (atN a i):=fun i hi=>by
 by_cases e:i=t
 ·rw [e,atN_some h];exact h2
 exact hk i (by omega)
theorem at_kind {t:Nat} {p:Int->Prop} (h:a[t]?=some L) (h2:p L.kind):p (atN a t).kind:=by rwa [atN_some h]
theorem noLeaf_bad {i:Nat} (h:a[i]?=some L) (n:L.kind=1):¬noLeaf a:=fun q=>q i (List.getElem?_eq_some_iff.1 h).1 (by rw [atN_some h];exact n)
theorem mayStand_any [Lo] {l:NdV} (x:Nat) (hl:IsNd W B l L) (hB:B<=W.heap.size):Calls prog 69 #[nv (x:Int),.agg (l.cs L)] W fun e W'=>∃ v,e=.returned v/\v=.bool (decide (fitK x L.kind))/\Bw W W':=by
 refine Ze func69 ntmps69 ?_;have u:=Br W;have hB:=hB;refine Zr<|Zb fun b1 w1 n1=>?_
 have ⟨r1,k1,z1,lt1⟩:=n1.f;refine ZAn [0,3,4] ?_;refine Qd<|Zr<|Zy 0 ?_
 refine Zan (Qv (v:=nv L.kind) r1) [0,4,6] ?_;refine Qj<|Zr ?_
 refine Zi yi_eql (fun c2=>?_) fun c2=>?_
 ·refine ZAnt [0,4,6,7] ?_;refine ZrM ?_;refine Za (yi_rem rfl rfl rfl (by omega) (by omega)) ?_;refine Zi yi_eql (fun c3=>?_) fun c3=>?_
  ·refine ZAnr [4] ?_;refine Qg<|Qc ?_
   exact Qt (dT (by unfold fitK;omega)).symm (Un u n1.below)
  refine ZAnr [4] ?_;refine Qg<|Qc ?_
  exact Qt (dF (by unfold fitK;omega)).symm (Un u n1.below)
 refine ZAn [0,4,6,7] ?_;refine cg_cf rfl<|Zr ?_
 refine Zi yi_eql (fun c4=>?_) fun c4=>?_
 ·refine ZAnt [0,4,12] ?_;refine ZrM ?_;refine Za (yi_rem rfl rfl rfl (by omega) (by omega)) ?_;refine Zj yi_neq (fun c5=>?_) fun c5=>?_
  ·refine ZAnr [4] ?_;refine Qg<|Qc ?_
   exact Qt (dF (by unfold fitK;omega)).symm (Un u n1.below)
  refine ZAnr [4] ?_;refine Qg<|Qc ?_
  exact Qt (dT (by unfold fitK;omega)).symm (Un u n1.below)
 refine ZAn [0,4,12] ?_;refine cg_cf rfl<|cg_skip<|Qi<|Nx [4] ?_
 refine ZrAr [4] ?_;exact Qt (dT (by unfold fitK;omega)).symm (Un u n1.below)
theorem sane_any [Lo] (h:RwNd W B s Ls) (hB:B<=W.heap.size):Calls prog 39 #[s.v] W fun e W'=>∃ v,e=.returned v/\v=.bool (decide (trIs Ls))/\Bw W W':=by
 refine Ze func39 ntmps39 ?_;have u:=Br W;have h:=h.more hB;have q1:=h.len;have q2:=h.cap;refine ZrAn [0,2] ?_;refine Qd<|ZrM ?_
 refine Za (y_lenM (el:=81) h.len) ?_;refine Zi yi_gtr (fun c1=>?_) fun c1=>?_
 ·refine Xa 2 ?_;refine Zt 8 (y_lenM (el:=81) h.len) ?_;refine Zp 8 (Qp (wholeL (Ls.length:Int) _)) (fun c2=>?_) fun c2=>?_
  ·refine Xn 2 [0,2,13] ?_;refine Zcf [0,2] ?_;refine Qd<|ZrM ?_
   refine Za (y_lenM (el:=81) h.len) ?_;refine Xn 1 [2,14,15,16] ?_;refine Qj<|Qr (fun t a v=>Holds 31 [(14,s.v),(15,nv (Ls.length:Int)),(16,nv ((t:Nat):Int))] a/\RwNd v W.heap.size s Ls/\Bw W v/\∀ i,i<t->okAt i (atN Ls i)) (Ls.length+1) (fun a ha=>⟨ha.keep kz,h,u,(fun i hi=>absurd hi (by omega))⟩) ?_
   rintro t a v ht ⟨ha,h,u,hk⟩;refine cg_at ha ?_;clear ha a;have zv:=u.size;have q1:=h.len;have q2:=h.cap;refine Zr ?_;refine Zi yi_lss (fun c3=>?_) fun c3=>?_
   ·refine Zn [14,15,16,17] ?_;refine Qd<|cg_ct rfl<|Zki [14,15,16] ?_
    refine Qd<|Qj<|ZrM ?_
    obtain ⟨eb4,eo4,el4,eL4,eA4,eB4,eg4,eh4,ec4⟩:=h.at (t) (by have:=h.len;omega);refine Za (Yx s 81 8 t eA4 (by have:=h.len;omega) rfl rfl rfl) ?_;refine Za (y_loadC (cs:=el4.cs eL4) ec4) ?_;refine lg_allocw (cs:=NdV.zero.cs Nd.zero) Wn rfl (by kernel_rfl) rfl (by decide) fun b5 w5 n5=>?_;have ⟨r5,k5,z5,lt5⟩:=n5.f;refine ZA ?_;have o6:=r5;refine Zw r5 fun w6 s6=>?_;have ⟨r5,z6⟩:=s6.f;refine Zn [14,15,16,4,3] ?_;refine Zr<|Za (y_loadA r5) ?_
    have eh4:=(eh4.below (Bm n5.below)).below s6.bl;refine Zd (checkN_any (eh4.mW w6) Lr) ?_;rintro _ w7 ⟨rfl,hw7⟩;have zw7:=hw7.size;refine Zj yi_neq (fun c8=>?_) fun c8=>?_
    ·refine Xa 2 ?_;have r5:=Rb hw7 r5;refine Zt 24 (y_loadA r5) ?_;have eh4:=eh4.below (Bm hw7);by_cases c9:fitK t eL4.kind
     ·refine Zdt 24 (mayStand_any t (eh4.mW w7) Lr) ?_;rintro u10 w10 ⟨e10,hw10⟩;have zw10:=hw10.size;obtain rfl:u10=.bool true:=e10.trans (congrArg Value.bool (decide_eq_true c9));refine Xc 2 [14,15,16,29] ?_;refine cg_skip<|Qi<|Nx [14,15,16] ?_
      refine Qe<|Za Yj ?_
      refine ZM ?_;refine Qk ?_;exact fun a ha=>(show t<(Ls.length+1)/\_ from ⟨(by omega),ha.keep kz,(((h.below (Bm n5.below)).below s6.bl).below (Bm hw7)).below (Bm hw10),Un (Un ((Un u n5.below).trans s6.bl) hw7) hw10,(ok_step hk eg4 ⟨c8,c9⟩)⟩)
     refine Zdt 24 (mayStand_any t (eh4.mW w7) Lr) ?_;rintro u11 w11 ⟨e11,hw11⟩;have zw11:=hw11.size;obtain rfl:u11=.bool false:=e11.trans (congrArg Value.bool (decide_eq_false c9));refine Xt 2 [14,15,16,29] ?_;refine ZrAr [14,15,16,2] ?_;refine Qg<|Qc<|Qc<|Qg<|Qc ?_
     exact Qt (dF (trIs_bad eg4 fun q=>c9 q.2)).symm (Un (Un ((Un u n5.below).trans s6.bl) hw7) hw11)
    refine Xt 6 [14,15,16,29] ?_;refine ZrAr [14,15,16,2] ?_;refine Qg<|Qc<|Qc<|Qg<|Qc ?_
    exact Qt (dF (trIs_bad eg4 fun q=>c8 q.1)).symm (Un ((Un u n5.below).trans s6.bl) hw7)
   refine Zn [14,15,16,17] ?_;refine Qd<|cg_cf rfl<|cg_exit<|Qh<|Qh<|Ql<|nx (E':=[]) fn ?_
   refine ZrAr [2] ?_;exact Qt (dT ⟨by by_cases q:0<Ls.length;right;exact (by first | assumption | (exact absurd q (by omega)));left;omega,fun i hi=>hk i (by omega)⟩).symm u
  refine Xt 2 [0,2,13] ?_;refine ZrAr [0,2] ?_;refine Qc ?_;exact Qt (dF (fun q=>c2 (q.1.resolve_left (by omega)))).symm u
 refine Xn 6 [0,2,13] ?_;refine Zcf [0,2] ?_;refine Qd<|ZrM ?_
 refine Za (y_lenM (el:=81) h.len) ?_;refine Xn 1 [2,14,15,16] ?_;refine Qj<|Qr (fun t a v=>Holds 31 [(14,s.v),(15,nv (Ls.length:Int)),(16,nv ((t:Nat):Int))] a/\RwNd v W.heap.size s Ls/\Bw W v/\∀ i,i<t->okAt i (atN Ls i)) (Ls.length+1) (fun a ha=>⟨ha.keep kz,h,u,(fun i hi=>absurd hi (by omega))⟩) ?_
 rintro t a v ht ⟨ha,h,u,hk⟩;refine cg_at ha ?_;clear ha a;have zv:=u.size;have q1:=h.len;have q2:=h.cap;refine Zr ?_;refine Zi yi_lss (fun c12=>?_) fun c12=>?_
 ·refine Zn [14,15,16,17] ?_;refine Qd<|cg_ct rfl<|Zki [14,15,16] ?_
  refine Qd<|Qj<|ZrM ?_
  obtain ⟨eb13,eo13,el13,eL13,eA13,eB13,eg13,eh13,ec13⟩:=h.at (t) (by have:=h.len;omega);refine Za (Yx s 81 8 t eA13 (by have:=h.len;omega) rfl rfl rfl) ?_;refine Za (y_loadC (cs:=el13.cs eL13) ec13) ?_;refine lg_allocw (cs:=NdV.zero.cs Nd.zero) Wn rfl (by kernel_rfl) rfl (by decide) fun b14 w14 n14=>?_;have ⟨r14,k14,z14,lt14⟩:=n14.f;refine ZA ?_;have o15:=r14;refine Zw r14 fun w15 s15=>?_;have ⟨r14,z15⟩:=s15.f;refine Zn [14,15,16,4,3] ?_;refine Zr<|Za (y_loadA r14) ?_
  have eh13:=(eh13.below (Bm n14.below)).below s15.bl;refine Zd (checkN_any (eh13.mW w15) Lr) ?_;rintro _ w16 ⟨rfl,hw16⟩;have zw16:=hw16.size;refine Zj yi_neq (fun c17=>?_) fun c17=>?_
  ·refine Xa 2 ?_;have r14:=Rb hw16 r14;refine Zt 24 (y_loadA r14) ?_;have eh13:=eh13.below (Bm hw16);by_cases c18:fitK t eL13.kind
   ·refine Zdt 24 (mayStand_any t (eh13.mW w16) Lr) ?_;rintro u19 w19 ⟨e19,hw19⟩;have zw19:=hw19.size;obtain rfl:u19=.bool true:=e19.trans (congrArg Value.bool (decide_eq_true c18));refine Xc 2 [14,15,16,29] ?_;refine cg_skip<|Qi<|Nx [14,15,16] ?_
    refine Qe<|Za Yj ?_
    refine ZM ?_;refine Qk ?_;exact fun a ha=>(show t<(Ls.length+1)/\_ from ⟨(by omega),ha.keep kz,(((h.below (Bm n14.below)).below s15.bl).below (Bm hw16)).below (Bm hw19),Un (Un ((Un u n14.below).trans s15.bl) hw16) hw19,(ok_step hk eg13 ⟨c17,c18⟩)⟩)
   refine Zdt 24 (mayStand_any t (eh13.mW w16) Lr) ?_;rintro u20 w20 ⟨e20,hw20⟩;have zw20:=hw20.size;obtain rfl:u20=.bool false:=e20.trans (congrArg Value.bool (decide_eq_false c18));refine Xt 2 [14,15,16,29] ?_;refine ZrAr [14,15,16,2] ?_;refine Qg<|Qc<|Qc<|Qg<|Qc ?_
   exact Qt (dF (trIs_bad eg13 fun q=>c18 q.2)).symm (Un (Un ((Un u n14.below).trans s15.bl) hw16) hw20)
  refine Xt 6 [14,15,16,29] ?_;refine ZrAr [14,15,16,2] ?_;refine Qg<|Qc<|Qc<|Qg<|Qc ?_
  exact Qt (dF (trIs_bad eg13 fun q=>c17 q.1)).symm (Un ((Un u n14.below).trans s15.bl) hw16)
 refine Zn [14,15,16,17] ?_;refine Qd<|cg_cf rfl<|cg_exit<|Qh<|Qh<|Ql<|nx (E':=[]) fn ?_
 refine ZrAr [2] ?_;exact Qt (dT ⟨by by_cases q:0<Ls.length;right;exact (by first | assumption | (exact absurd q (by omega)));left;omega,fun i hi=>hk i (by omega)⟩).symm u
theorem tree_any [Lo] (h:RwNd W B s Ls) (hB:B<=W.heap.size):Calls prog 204 #[s.v] W fun e W'=>∃ v,e=.returned v/\∃ s':SlV,v=s'.v/\RwNd W' B s' (trAs Ls)/\s'.c=s'.m/\Bw W W':=by
 refine Ze func204 ntmps204 ?_;have u:=Br W;refine ZrAn [0,2] ?_;refine Qd<|ZrM ?_
 by_cases c1:trIs Ls
 ·refine Zd (sane_any (h.mW W) Lr) ?_;rintro u2 w2 ⟨e2,hw2⟩;have zw2:=hw2.size;obtain rfl:u2=.bool true:=e2.trans (congrArg Value.bool (decide_eq_true c1));refine Xn 1 [0,2,5] ?_;refine Zcf [0,2] ?_;refine XR 2 ?_;have h:=h.below (Bm hw2);refine Za (y_lenM (el:=81) h.len) ?_;refine ZM ?_;refine Za (y_lenM (el:=81) h.len) ?_;have cu3:=RwNd.cast (Ms:=Ls) (h.cut 0 Ls.length Ls.length (by have q1:=h.len;have q2:=h.cap;omega) (by have q1:=h.len;have q2:=h.cap;omega) (by have q1:=h.len;have q2:=h.cap;omega) (by have q1:=h.len;have q2:=h.cap;omega)) (by rw [List.drop_zero,List.take_length]);refine Za (y_cutR_hm (s:=s) Ls.length Ls.length (hi:=(Ls.length:Int)) (mx:=(Ls.length:Int)) (by have q1:=h.len;have q2:=h.cap;omega) (by have q1:=h.len;have q2:=h.cap;omega) (by have q1:=h.len;have q2:=h.cap;omega) (by have q1:=h.len;have q2:=h.cap;omega) rfl rfl rfl rfl) ?_;refine ZAnr [2] ?_;exact Qa rfl rfl ⟨_,rfl,_,rfl,cu3.cast (trAs_ok c1).symm,rfl,Un u hw2⟩
 refine Zd (sane_any (h.mW W) Lr) ?_;rintro u4 w4 ⟨e4,hw4⟩;have zw4:=hw4.size;obtain rfl:u4=.bool false:=e4.trans (congrArg Value.bool (decide_eq_false c1));refine Xn 1 [0,2,5] ?_;refine cg_ct rfl<|ZrAr [0,2] ?_
 refine Qc ?_;exact Qa rfl rfl ⟨_,rfl,nilS,rfl,(RwNd.nil _ _).cast (trAs_no c1).symm,rfl,Un u hw4⟩
theorem leaves_any (s:SlV) (Ls:List Nd) (W:World) (hm:Ls.length=s.m) (hle:Ls.length<=1000000000000000000):Calls prog 203 #[s.v] W fun e W'=>e=.returned (nv ((leavesA Ls:Nat):Int))/\W'=W:=by
 refine Ze func203 ntmps203 ?_;refine ZrAn [0,2] ?_;refine ZrM ?_;refine Za (y_lenM (el:=81) hm) ?_;refine Za (yi_add rfl rfl rfl (by omega) (by omega)) ?_;refine Za (yi_quo rfl rfl rfl (by omega) (by omega) (by omega)) ?_;refine ZAnr [2] ?_;exact Qa rfl rfl ⟨congrArg (fun q=>Ending.returned (nv q)) (show (((Ls.length:Int)+1) / 2)=((leavesA Ls:Nat):Int) by unfold leavesA;omega),rfl⟩
theorem leavesT_any [Lo] (h:RwNd W B s Ls) (hB:B<=W.heap.size):Calls prog 142 #[s.v] W fun e W'=>∃ v,e=.returned v/\v=nv (leavesA (trAs Ls):Int)/\Bw W W':=by
 refine Ze func142 ntmps142 ?_;have u:=Br W;refine ZrAn [0,2] ?_;refine ZrM ?_;refine Zc (tree_any h (by omega)) rfl rfl ?_;rintro _ w1 ⟨s1,rfl,m1,f1,hw1⟩;have zw1:=hw1.size;have tl1:=trAs_le Ls;refine Za (Qp (leaves_any s1 (trAs Ls) _ (by have q1:=m1.len;omega) (by omega)) (by kernel_rfl) rfl rfl) ?_;refine ZAnr [2] ?_;exact Qn (rfl) (Un u hw1)
theorem free_any [Lo] (h:RwNd W B s Ls) (hB:B<=W.heap.size):Calls prog 178 #[s.v] W fun e W'=>∃ v,e=.returned v/\v=nv (freeA (trAs Ls))/\Bw W W':=by
 refine Ze func178 ntmps178 ?_;have u:=Br W;have h:=h.more hB;refine ZrAn [0,2] ?_;refine ZrM ?_;refine Zc (tree_any h (by omega)) rfl rfl ?_;rintro _ w1 ⟨s1,rfl,m1,f1,hw1⟩;have zw1:=hw1.size;have tl1:=trAs_le Ls;refine ZAn [2,0] ?_;refine Qd<|ZrAn [2,0,3] ?_
 refine Qj ?_;have u:=Un u hw1;refine Qr (fun t a v=>∃ (r:SlV),Holds 20 [(0,r.v),(3,nv ((2*t:Nat):Int))] a/\RwNd v W.heap.size r (trAs Ls)/\Bw W v/\(∀ j,j<t->(atN (trAs Ls) (2*j)).kind≠0)/\2*t<=(trAs Ls).length+1) (Ls.length+200) (fun a ha=>⟨s1,ha.keep kz,m1,u,(fun i hi=>absurd hi (by omega)),(by omega)⟩) ?_;rintro t a v ht ⟨r,ha,hr,u,hk,tle⟩;refine cg_at ha ?_;clear ha a;have zv:=u.size;have q1:=hr.len;have q2:=hr.cap;have q3:=trAs_le Ls;refine Qd<|ZrM ?_
 refine ZM ?_;refine Za (y_lenM (el:=81) hr.len) ?_;refine Zi yi_lss (fun c2=>?_) fun c2=>?_
 ·refine Znt [0,3,9] ?_;refine Zki [0,3] ?_;refine Qd<|Qj<|ZrM ?_
  refine ZM ?_;obtain ⟨eb3,eo3,el3,eL3,eA3,eB3,eg3,eh3,ec3⟩:=hr.at ((2*t)) (by have:=hr.len;omega);refine Za (Yx r 81 8 (2*t) eA3 (by have:=hr.len;omega) rfl rfl rfl) ?_;refine Zy 0 ?_;refine Za (y_celld (ec3 0 _ rfl)) ?_;refine Zi yi_eql (fun c4=>?_) fun c4=>?_
  ·refine Znt [0,3,17] ?_;refine ZrM ?_;refine Za (yi_quo rfl rfl rfl (by omega) (by omega) (by omega)) ?_;refine ZAnr [0,3,2] ?_;refine Qg<|Qc<|Qc<|Qg<|Qc ?_
   exact Qn ((show (((2*t:Nat):Int) / 2)=(t:Int) by omega).trans (freeA_one (by unfold leavesA;omega) (at_kind (p:=fun k=>k=0) eg3 c4) hk).symm) u
  refine Xc 0 [0,3,17] ?_;refine cg_skip<|Qi<|Nx [0,3] ?_
  refine Qe<|ZM ?_
  refine Za (yv (congrArg nv (show ((2*t:Nat):Int)+2=((2*(t+1):Nat):Int) by omega)) (yi_add rfl rfl rfl (by omega) (by omega))) ?_;refine ZA ?_;refine Qk ?_;exact fun a ha=>(show t<(Ls.length+200)/\_ from ⟨(by omega),r,ha.keep kz,hr,u,(fun j hj=>by by_cases q:j=t;subst q;exact at_kind (p:=fun k=>k≠0) eg3 c4;exact hk j (by omega)),(by omega)⟩)
 refine Xc 0 [0,3,9] ?_;refine cg_exit<|Qh<|Qh<|Ql<|nx (E':=[]) fn ?_
 refine ZrAr [2] ?_;exact Qn (freeA_no (fun j hj=>hk j (by unfold leavesA at hj;omega))).symm u
theorem lastA_one (h1:j<a.length) (h2:(atN a j).kind≠0) (h3:∀ q,j<q->q<a.length->(atN a q).kind=0):lastA a=(j:Int):=by
 rcases lastA_is a with ⟨_,h⟩ | ⟨k,h,h4,h5,h6⟩
 ·exact absurd (h j h1) h2
 have:k=j:=by
  by_cases q:j<k
  ·exact absurd (h3 k q h4) h5
  by_cases r:k<j
  ·exact absurd (h6 j r h1) h2
  omega
 rw [h,this]
theorem lastA_no (h:∀ j,j<a.length->(atN a j).kind=0):lastA a=-1:=by
 rcases lastA_is a with ⟨e,_⟩ | ⟨k,e,h1,h2,_⟩
 ·exact e
 exact absurd (h k h1) h2
theorem last_any [Lo] (h:RwNd W B s Ls) (hB:B<=W.heap.size):Calls prog 200 #[s.v] W fun e W'=>∃ v,e=.returned v/\v=nv (lastA (trAs Ls))/\Bw W W':=by
 refine Ze func200 ntmps200 ?_;have u:=Br W;have h:=h.more hB;refine ZrAn [0,2] ?_;refine ZrM ?_;refine Zc (tree_any h (by omega)) rfl rfl ?_;rintro _ w1 ⟨s1,rfl,m1,f1,hw1⟩;have zw1:=hw1.size;have tl1:=trAs_le Ls;refine ZAn [2,0] ?_;refine Qd<|ZrM ?_
 refine Za (y_lenM (el:=81) m1.len) ?_;refine Za (yv (congrArg nv (show ((trAs Ls).length:Int)-1=((trAs Ls).length:Int)-1-((0:Nat):Int) by omega)) (yi_sub rfl rfl rfl (by omega) (by omega))) ?_;refine ZAn [2,0,3] ?_;refine Qj ?_;have u:=Un u hw1;refine Qr (fun t a v=>∃ (r:SlV),Holds 20 [(0,r.v),(3,nv (((trAs Ls).length:Int)-1-(t:Int)))] a/\RwNd v W.heap.size r (trAs Ls)/\Bw W v/\(∀ j,(trAs Ls).length-t<=j->j<(trAs Ls).length->(atN (trAs Ls) j).kind=0)/\t<=(trAs Ls).length) (Ls.length+200) (fun a ha=>⟨s1,ha.keep kz,m1,u,(fun j h1 h2=>absurd h2 (by omega)),(Nat.zero_le _)⟩) ?_;rintro t a v ht ⟨r,ha,hr,u,hk,tle⟩;refine cg_at ha ?_;clear ha a;have zv:=u.size;have q1:=hr.len;have q2:=hr.cap;have q3:=trAs_le Ls;refine Qd<|ZrM ?_
 refine Zi yi_geq (fun c2=>?_) fun c2=>?_
 ·refine Znt [0,3,10] ?_;refine Zki [0,3] ?_;refine Qd<|Qj<|ZrM ?_
  refine ZM ?_;obtain ⟨eb3,eo3,el3,eL3,eA3,eB3,eg3,eh3,ec3⟩:=hr.at (((trAs Ls).length-1-t)) (by have:=hr.len;omega);refine Za (Yy r 81 8 ((trAs Ls).length-1-t) (((trAs Ls).length:Int)-1-(t:Int)) eA3 (by omega) (by have:=hr.len;omega) rfl rfl rfl) ?_;refine Zy 0 ?_;refine Za (y_celld (ec3 0 _ rfl)) ?_;refine Zj yi_neq (fun c4=>?_) fun c4=>?_
  ·refine Xc 0 [0,3,18] ?_;refine cg_skip<|Qi<|Nx [0,3] ?_
   refine Qe<|ZM ?_
   refine Za (yv (congrArg nv (show (((trAs Ls).length:Int)-1-(t:Int))-1=((trAs Ls).length:Int)-1-((t+1:Nat):Int) by omega)) (yi_sub rfl rfl rfl (by omega) (by omega))) ?_;refine ZA ?_;refine Qk ?_;exact fun a ha=>(show t<(Ls.length+200)/\_ from ⟨(by omega),r,ha.keep kz,hr,u,(fun j h1 h2=>by by_cases q:j=(trAs Ls).length-1-t;rw [q];exact at_kind (p:=fun k=>k=0) eg3 c4;exact hk j (by omega) h2),(by omega)⟩)
  refine Znt [0,3,18] ?_;refine XRu 2 [0,3,2] ?_;refine Qg<|Qc<|Qc<|Qg<|Qc ?_
  exact Qn ((show (((trAs Ls).length:Int)-1-(t:Int))=(((trAs Ls).length-1-t:Nat):Int) by omega).trans (lastA_one (by omega) (at_kind (p:=fun k=>k≠0) eg3 c4) (fun j h1 h2=>hk j (by omega) h2)).symm) u
 refine Xc 0 [0,3,10] ?_;refine cg_exit<|Qh<|Qh<|Ql<|nx (E':=[]) fn ?_
 refine ZrAr [2] ?_;exact Qn (lastA_no (fun j hj=>hk j (by omega) hj)).symm u
theorem hasLeaf_any [Lo] (h:RwNd W B s Ls) (hB:B<=W.heap.size):Calls prog 224 #[s.v] W fun e W'=>∃ v,e=.returned v/\v=.bool (decide (¬noLeaf Ls))/\Bw W W':=by
 refine Ze func224 ntmps224 ?_;have u:=Br W;have h:=h.more hB;have q1:=h.len;have q2:=h.cap;refine ZrAn [0,2] ?_;refine Qd<|ZrM ?_
 refine Za (y_lenM (el:=81) h.len) ?_;refine Xn 1 [2,5,6,7] ?_;refine Qj<|Qr (fun t a v=>Holds 15 [(5,s.v),(6,nv (Ls.length:Int)),(7,nv ((t:Nat):Int))] a/\RwNd v W.heap.size s Ls/\Bw W v/\∀ i,i<t->(atN Ls i).kind≠1) (Ls.length+1) (fun a ha=>⟨ha.keep kz,h,u,(fun i hi=>absurd hi (by omega))⟩) ?_
 rintro t a v ht ⟨ha,h,u,hk⟩;refine cg_at ha ?_;clear ha a;have zv:=u.size;have q1:=h.len;have q2:=h.cap;refine Zr ?_;refine Zi yi_lss (fun c1=>?_) fun c1=>?_
 ·refine Zn [5,6,7,8] ?_;refine Qd<|cg_ct rfl<|Zki [5,6,7] ?_
  refine Qd<|Qj<|Zr ?_
  obtain ⟨eb2,eo2,el2,eL2,eA2,eB2,eg2,eh2,ec2⟩:=h.at (t) (by have:=h.len;omega);refine Za (Yx s 81 8 t eA2 (by have:=h.len;omega) rfl rfl rfl) ?_;refine Za (y_loadC (cs:=el2.cs eL2) ec2) ?_;refine lg_allocw (cs:=NdV.zero.cs Nd.zero) Wn rfl (by kernel_rfl) rfl (by decide) fun b3 w3 n3=>?_;have ⟨r3,k3,z3,lt3⟩:=n3.f;have o4:=r3;refine Zw r3 fun w4 s4=>?_;have ⟨r3,z4⟩:=s4.f;refine Zn [5,6,7,4] ?_;refine Zr<|Zy 0 ?_
  refine Zv (nv eL2.kind) r3 ?_;refine Zi yi_eql (fun c5=>?_) fun c5=>?_
  ·refine Znt [5,6,7,13] ?_;refine ZrAr [5,6,7,2] ?_;refine Qg<|Qc<|Qc<|Qg<|Qc ?_
   exact Qt (dT (noLeaf_bad eg2 c5)).symm ((Un u n3.below).trans s4.bl)
  refine Xc 0 [5,6,7,13] ?_;refine cg_skip<|Qi<|Nx [5,6,7] ?_
  refine Qe<|Za Yj ?_
  refine ZM ?_;refine Qk ?_;exact fun a ha=>(show t<(Ls.length+1)/\_ from ⟨(by omega),ha.keep kz,(h.below (Bm n3.below)).below s4.bl,(Un u n3.below).trans s4.bl,(ok_step (p:=fun _ L=>L.kind≠1) hk eg2 c5)⟩)
 refine Zn [5,6,7,8] ?_;refine Qd<|cg_cf rfl<|cg_exit<|Qh<|Qh<|Ql<|nx (E':=[]) fn ?_
 refine ZrAr [2] ?_;exact Qt (dF (fun q=>q fun i hi=>hk i (by omega))).symm u
theorem root_half (h:trIs a) (h1:0<a.length):rootI (a.length:Int)=((a.length / 2:Nat):Int):=by
 have hl:=trIs_len h;rw [root_is (by unfold isW;omega)];omega
theorem trim_fuel {n:Nat} (h:n<2 ^ k) (h1:1<n):∃ j,k=j+1/\n / 2<2 ^ j:=by
 cases k with
 | zero =>
  simp at h;omega
 | succ j =>
  refine ⟨j,rfl,?_⟩;rw [Nat.pow_succ] at h;omega
theorem trimL_mid (hval:trimN k a=trimN 7 (trAs Ls)) (h1:1<a.length) (h2:¬noLeaf (a.drop (a.length / 2+1))):a=trimL Ls:=by
 unfold trimL;rw [<-hval,trim_stop k (fun q=>h2 q.2)];exact (if_neg (fun q=>by omega)).symm
theorem trimL_out (hval:trimN k a=trimN 7 (trAs Ls)) (h1:¬1<a.length):endA a=trimL Ls:=by
 unfold trimL;rw [<-hval,trim_stop k (fun q=>h1 q.1)]
theorem set_cat {i:Nat} (hi:i<a.length):a.take i++[L]++a.drop (i+1)=a.set i L:=by
 rw [List.set_eq_take_append_cons_drop,if_pos hi,List.append_assoc];rfl
theorem setE_range {x:Int} (h:¬isN x ((trAs a).length:Int)):setE a x L=3:=if_pos h
theorem setE_check {x:Int} (h:isN x ((trAs a).length:Int)) (h2:¬ndCheck L=0):setE a x L=ndCheck L:=by
 unfold setE;rw [if_neg (fun q=>q h),if_pos h2]
theorem setE_fit {x:Int} (h:isN x ((trAs a).length:Int)) (h2:ndCheck L=0) (h3:¬fitK x.toNat L.kind):setE a x L=7:=by
 unfold setE;rw [if_neg (fun q=>q h),if_neg (fun q=>q h2),if_pos h3]
theorem growE_64 (h:((leavesA (trAs a):Nat):Int)=64):growE a=10:=if_pos (by omega)
theorem growE_0 (h:¬((leavesA (trAs a):Nat):Int)=64):growE a=0:=if_neg (by omega)
set_option maxRecDepth 20000 in
theorem halves_any [Lo] (h:RwNd W B s Ls) (hB:B<=W.heap.size) (ht:trIs Ls) (h1:0<Ls.length):Calls prog 223 #[s.v] W fun e W'=>∃ v,e=.returned v/\∃ s1 s2:SlV,v=.tuple #[s1.v,s2.v]/\RwNd W' B s1 (Ls.take (Ls.length / 2))/\RwNd W' B s2 (Ls.drop (Ls.length / 2+1))/\s1.c=s1.m/\Bw W W':=by
 refine Ze func223 ntmps223 ?_;have u:=Br W;have q1:=h.len;have q2:=h.cap;have q3:=trIs_le ht;refine XRn 2 [0,2,3] ?_;refine ZrM ?_;refine Za (y_lenM (el:=81) h.len) ?_;refine Za (yv (congrArg nv (root_half ht h1)) (Qp (rootL (Ls.length:Int) _))) ?_;refine ZAn [0,2,3,4] ?_;refine Qd<|cg_still (by kernel_rfl) (by kernel_rfl) fun W1 eW1=>?_
 have dW1:=below_drew _ _ eW1;have zW1:=size_drew _ _ eW1;clear eW1;refine Zsa y_move ?_;refine Zsa y_move ?_;refine Zsa y_move ?_;have h:=h.below (Bm dW1);have cu2:=RwNd.cast (Ms:=(Ls.take (Ls.length / 2))) (h.cut 0 (Ls.length / 2) (Ls.length / 2) (by have q1:=h.len;have q2:=h.cap;omega) (by have q1:=h.len;have q2:=h.cap;omega) (by have q1:=h.len;have q2:=h.cap;omega) (by have q1:=h.len;have q2:=h.cap;omega)) (by rw [List.drop_zero]);refine Zsa (y_cutR_hm (s:=s) (Ls.length / 2) (Ls.length / 2) (hi:=((Ls.length / 2:Nat):Int)) (mx:=((Ls.length / 2:Nat):Int)) (by have q1:=h.len;have q2:=h.cap;omega) (by have q1:=h.len;have q2:=h.cap;omega) (by have q1:=h.len;have q2:=h.cap;omega) (by have q1:=h.len;have q2:=h.cap;omega) rfl rfl rfl rfl) ?_;refine Zsa y_move ?_;refine Zsa y_move ?_;refine Zsa Yj ?_;refine Zsa y_move ?_;refine Zsa (y_lenM (el:=81) h.len) ?_;refine Zsa y_move ?_;refine Zsa (y_lenM (el:=81) h.len) ?_;have cu3:=RwNd.cast (Ms:=(Ls.drop (Ls.length / 2+1))) (h.cut (Ls.length / 2+1) Ls.length Ls.length (by have q1:=h.len;have q2:=h.cap;omega) (by have q1:=h.len;have q2:=h.cap;omega) (by have q1:=h.len;have q2:=h.cap;omega) (by have q1:=h.len;have q2:=h.cap;omega)) (by rw [List.take_length]);refine Zsa (y_cutR_lhm (s:=s) (Ls.length / 2+1) Ls.length Ls.length (lo:=((Ls.length / 2+1:Nat):Int)) (hi:=(Ls.length:Int)) (mx:=(Ls.length:Int)) (by have q1:=h.len;have q2:=h.cap;omega) (by have q1:=h.len;have q2:=h.cap;omega) (by have q1:=h.len;have q2:=h.cap;omega) (by have q1:=h.len;have q2:=h.cap;omega) (by have q1:=h.len;have q2:=h.cap;omega) (by have q1:=h.len;have q2:=h.cap;omega) rfl rfl rfl rfl rfl) ?_;refine Zsa y_assign ?_;refine Zsa y_assign ?_;refine Zsn [2,3] ?_;refine cg_ret ?_;exact eg_ret_tmp2 rfl rfl rfl ⟨_,rfl,_,_,rfl,cu2,cu3,rfl,Un u dW1⟩
theorem trim_any [Lo] (h:RwNd W B s Ls) (hB:B<=W.heap.size):Calls prog 186 #[s.v] W fun e W'=>∃ v,e=.returned v/\∃ s':SlV,v=s'.v/\RwNd W' B s' (trimL Ls)/\Bw W W':=by
 refine Ze func186 ntmps186 ?_;have u:=Br W;refine ZrAn [0,2] ?_;refine ZrM ?_;refine Zc (tree_any h (by omega)) rfl rfl ?_;rintro _ w1 ⟨s1,rfl,m1,f1,hw1⟩;have zw1:=hw1.size;have tl1:=trAs_le Ls;refine ZAn [2,0] ?_;refine Qd<|Qj ?_
 have u:=Un u hw1;refine Qr (fun t a v=>∃ (r:SlV) (ca:List Nd) (k:Nat),Holds 23 [(0,r.v)] a/\RwNd v B r ca/\Bw W v/\trIs ca/\t+k=7/\ca.length<2 ^ k/\trimN k ca=trimN 7 (trAs Ls)) 8 (fun a ha=>⟨s1,_,7,ha.keep kz,m1,u,(trAs_is Ls),rfl,(by have:=trAs_le Ls;omega),rfl⟩) ?_;rintro t a v ht ⟨r,ca,k,ha,hr,u,hti,hk,hlen,hval⟩;refine cg_at ha ?_;clear ha a;have zv:=u.size;have q1:=hr.len;have q2:=hr.cap;have q3:=trIs_le hti;refine Qd<|ZrM ?_
 refine Za (y_lenM (el:=81) hr.len) ?_;refine Zi yi_gtr (fun c2=>?_) fun c2=>?_
 ·refine Znt [0,9] ?_;refine Zki [0] ?_;refine Qj<|ZrM ?_
  refine Zc (halves_any hr (by omega) hti (by omega)) rfl rfl ?_;rintro _ w3 ⟨s3,r3,rfl,m3,n3,f3,hw3⟩;have zw3:=hw3.size;refine Xn 5 [0,3,4] ?_;refine Qd<|ZrM ?_
  by_cases c4:¬noLeaf (ca.drop (ca.length / 2+1))
  ·refine Zd (hasLeaf_any (n3.mW w3) Lr) ?_;rintro u5 w5 ⟨e5,hw5⟩;have zw5:=hw5.size;obtain rfl:u5=.bool true:=e5.trans (congrArg Value.bool (decide_eq_true c4));refine Znt [0,3,16] ?_;refine XRu 2 [0,3,2] ?_;refine Qc<|Qg<|Qc<|Qg<|Qc ?_
   exact Qa rfl rfl ⟨_,rfl,_,rfl,((hr.below (Bm hw3)).below (Bm hw5)).cast (trimL_mid hval (by omega) c4),Un (Un u hw3) hw5⟩
  refine Zd (hasLeaf_any (n3.mW w3) Lr) ?_;rintro u6 w6 ⟨e6,hw6⟩;have zw6:=hw6.size;obtain rfl:u6=.bool false:=e6.trans (congrArg Value.bool (decide_eq_false c4));refine Zn [0,3,16] ?_;refine Zcf [0,3] ?_;refine Qe<|ZM ?_
  refine ZA ?_;refine Qk<|Qi ?_
  obtain ⟨j,rfl,hj⟩:=trim_fuel hlen (by omega);have m3:=m3.below (Bm hw6);have u:=Un (Un u hw3) hw6;exact fun a ha=>(show t<8/\_ from ⟨(by omega),s3,_,j,ha.keep kz,m3,u,(trIs_half hti (by omega)),(by omega),(by rw [List.length_take];omega),((trim_step j (by omega) (Classical.not_not.1 c4)).symm.trans hval)⟩)
 refine Xc 0 [0,9] ?_;refine cg_exit<|Qh<|Qh<|Ql<|Nx [0] ?_
 refine Qd<|ZrM ?_
 by_cases c7:¬noLeaf ca
 ·refine Zd (hasLeaf_any (hr.mW v) Lr) ?_;rintro u8 w8 ⟨e8,hw8⟩;have zw8:=hw8.size;obtain rfl:u8=.bool true:=e8.trans (congrArg Value.bool (decide_eq_true c7));refine Xn 1 [0,21] ?_;refine Zcf [0] ?_;refine XRu 2 [2] ?_;exact Qa rfl rfl ⟨_,rfl,_,rfl,(hr.below (Bm hw8)).cast ((if_neg (fun q=>c7 q.2):endA ca=ca).symm.trans (trimL_out hval (by omega))),Un u hw8⟩
 refine Zd (hasLeaf_any (hr.mW v) Lr) ?_;rintro u9 w9 ⟨e9,hw9⟩;have zw9:=hw9.size;obtain rfl:u9=.bool false:=e9.trans (congrArg Value.bool (decide_eq_false c7));refine Xn 1 [0,21] ?_;refine cg_ct rfl<|ZrAr [0,2] ?_
 refine Qc ?_;exact Qa rfl rfl ⟨_,rfl,nilS,rfl,(RwNd.nil _ _).cast ((if_pos ⟨by omega,Classical.not_not.1 c7⟩:endA ca=[]).symm.trans (trimL_out hval (by omega))),Un u hw9⟩
theorem set_any [Lo] {l:NdV} (h:RwNd W B s Ls) (x:Int) (hl:IsNd W B l L) (hB:B<=W.heap.size):Calls prog 222 #[s.v,nv x,.agg (l.cs L)] W fun e W'=>∃ v,e=.returned v/\∃ s':SlV,v=.tuple #[s'.v,nv (setE Ls x L)]/\RwNd W' W'.heap.size s' (setL Ls x L)/\Bw W W':=by
 refine Ze func222 ntmps222 ?_;have u:=Br W;have q0:=trAs_le Ls;refine Zr<|Zb fun b1 w1 n1=>?_
 have ⟨r1,k1,z1,lt1⟩:=n1.f;refine Xn 2 [0,1,5,6,7] ?_;refine ZrM ?_;have h:=h.below (Bm n1.below);refine Zc (tree_any h (by omega)) rfl rfl ?_;rintro _ w2 ⟨s2,rfl,m2,f2,hw2⟩;have zw2:=hw2.size;have tl2:=trAs_le Ls;refine ZAn [1,5,6,7,0] ?_;refine Qd<|ZrM ?_
 refine ZM ?_;refine Za (y_lenM (el:=81) m2.len) ?_;by_cases c3:isN x ((trAs Ls).length:Int)
 ·have hx:=c3.le;refine Za (yb (dT c3) (Qp (isL_any x ((trAs Ls).length:Int) _))) ?_;refine Xn 1 [1,5,6,7,0,15] ?_;refine Zcf [1,5,6,7,0] ?_;refine Qd<|Zr ?_
  have r1:=Rb hw2 r1;refine Za (y_loadA r1) ?_;have hl:=(hl.below (Bm n1.below)).below (Bm hw2);refine Zd (checkN_any (hl.mW w2) Lr) ?_;rintro _ w4 ⟨rfl,hw4⟩;have zw4:=hw4.size;refine ZAn [1,5,6,7,0,8] ?_;refine ZrM ?_;refine Zj yi_neq (fun c5=>?_) fun c5=>?_
  ·refine Zn [1,5,6,7,0,8,19] ?_;refine Zcf [1,5,6,7,0] ?_;refine Qd<|Zr<|Za (yv (congrArg nv (show x=((x.toNat:Nat):Int) by omega)) (y_move rfl rfl)) ?_
   have r1:=Rb hw4 r1;refine Za (y_loadA r1) ?_;have hl:=hl.below (Bm hw4);by_cases c6:fitK x.toNat L.kind
   ·refine Zd (mayStand_any x.toNat (hl.mW w4) Lr) ?_;rintro u7 w7 ⟨e7,hw7⟩;have zw7:=hw7.size;obtain rfl:u7=.bool true:=e7.trans (congrArg Value.bool (decide_eq_true c6));refine Xn 1 [1,5,6,7,0,24] ?_;refine Zcf [1,5,6,7,0] ?_;refine Qd<|cg_held (by kernel_rfl) fun W8 eW8=>?_
    have dW8:=below_drew _ _ eW8;have zW8:=size_drew _ _ eW8;clear eW8;refine Zh 0 (fun q hq=>y_move rfl rfl) ?_;refine Zh 1 (fun q hq=>yv (congrArg nv (show x=((x.toNat:Nat):Int) by omega)) (y_move rfl rfl)) ?_;refine Zh 2 (fun q hq=>yv (congrArg nv (show x=((x.toNat:Nat):Int) by omega)) (y_move rfl rfl)) ?_;have m2:=((m2.below (Bm hw4)).below (Bm hw7)).below (Bm dW8);have cu9:=RwNd.cast (Ms:=((trAs Ls).take x.toNat)) (m2.cut 0 x.toNat x.toNat (by have q1:=m2.len;have q2:=m2.cap;omega) (by have q1:=m2.len;have q2:=m2.cap;omega) (by have q1:=m2.len;have q2:=m2.cap;omega) (by have q1:=m2.len;have q2:=m2.cap;omega)) (by rw [List.drop_zero]);refine Zh 3 (fun q hq=>y_cutR_hm (s:=s2) x.toNat x.toNat (hi:=((x.toNat:Nat):Int)) (mx:=((x.toNat:Nat):Int)) (by have q1:=m2.len;have q2:=m2.cap;omega) (by have q1:=m2.len;have q2:=m2.cap;omega) (by have q1:=m2.len;have q2:=m2.cap;omega) (by have q1:=m2.len;have q2:=m2.cap;omega) rfl rfl rfl rfl) ?_;have r1:=Rb dW8 (Rb hw7 r1);refine Zh 4 (fun q hq=>y_loadA (Rb hq r1) (by kernel_rfl) (by kernel_rfl) rfl rfl) ?_;refine Zh 6 (fun q hq=>y_move rfl rfl) ?_;refine Zh 7 (fun q hq=>yv (congrArg nv (show x=((x.toNat:Nat):Int) by omega)) (y_move rfl rfl)) ?_;refine Zh 8 (fun q hq=>yv (congrArg nv (show ((x.toNat:Nat):Int)+1=((x.toNat+1:Nat):Int) by omega)) (yi_add rfl rfl rfl (by omega) (by omega))) ?_;refine Zh 9 (fun q hq=>y_move rfl rfl) ?_;refine Zh 10 (fun q hq=>y_lenM (el:=81) m2.len (by kernel_rfl) rfl rfl) ?_;refine Zh 11 (fun q hq=>y_move rfl rfl) ?_;refine Zh 12 (fun q hq=>y_lenM (el:=81) m2.len (by kernel_rfl) rfl rfl) ?_;have cu10:=RwNd.cast (Ms:=((trAs Ls).drop (x.toNat+1))) (m2.cut (x.toNat+1) ((trAs Ls).length) ((trAs Ls).length) (by have q1:=m2.len;have q2:=m2.cap;omega) (by have q1:=m2.len;have q2:=m2.cap;omega) (by have q1:=m2.len;have q2:=m2.cap;omega) (by have q1:=m2.len;have q2:=m2.cap;omega)) (by rw [List.take_length]);refine Zh 13 (fun q hq=>y_cutR_lhm (s:=s2) (x.toNat+1) ((trAs Ls).length) ((trAs Ls).length) (lo:=((x.toNat+1:Nat):Int)) (hi:=((trAs Ls).length:Int)) (mx:=((trAs Ls).length:Int)) (by have q1:=m2.len;have q2:=m2.cap;omega) (by have q1:=m2.len;have q2:=m2.cap;omega) (by have q1:=m2.len;have q2:=m2.cap;omega) (by have q1:=m2.len;have q2:=m2.cap;omega) (by have q1:=m2.len;have q2:=m2.cap;omega) (by have q1:=m2.len;have q2:=m2.cap;omega) rfl rfl rfl rfl rfl) ?_;refine Zo 5 ?_;have hl:=(hl.below (Bm hw7)).below (Bm dW8);refine lg_bs1R (l:=l) (L:=L) Wn rfl rfl rfl (by decide) fun b11 w11 n11=>?_;have m11:=new_row n11 (hl.mW W8) Lr;have k11:=n11.blk;have z11:=n11.size;refine hg_next n11.below ?_;refine hg_up n11.below ?_;refine Zo 14 ?_;refine lg_bslice (el:=22) (z:=.slice none 0 0) (cs:=#[(⟨cutR s2.A 0 x.toNat,x.toNat-0,x.toNat-0⟩:SlV).v,(⟨some ⟨b11,0,none⟩,1,1⟩:SlV).v,(⟨cutR s2.A (x.toNat+1) ((trAs Ls).length),(trAs Ls).length-(x.toNat+1),(trAs Ls).length-(x.toNat+1)⟩:SlV).v]) (by kernel_rfl) (by kernel_rfl) (by decide) (by decide) rfl rfl (by kernel_rfl) rfl rfl (by decide) fun b12 w12 n12=>?_;have ⟨r12,k12,z12,lt12⟩:=n12.f;refine hg_next n12.below ?_;refine hg_up n12.below ?_;have cu9:=(cu9.below (Bm n11.below)).below (Bm n12.below);have m11:=m11.below (Bm n12.below);have cu10:=(cu10.below (Bm n11.below)).below (Bm n12.below);refine Zo 15 ?_;refine Zc (concatR_S r12 (cu9.mW w12) (m11.mW w12) (cu10.mW w12) (by simp only [List.length_cons,List.length_nil,List.length_take,List.length_drop];omega)) rfl rfl ?_;rintro _ w13 ⟨s13,rfl,m13,hw13⟩;have zw13:=hw13.size;refine hg_next hw13 ?_;refine hg_up hw13 ?_;refine Zh 16 (fun q hq=>y_assign rfl rfl) ?_;refine Zh 17 (fun q hq=>y_assign rfl rfl) ?_;refine hg_done (by kernel_rfl) ?_;refine Nx [6,7] ?_;refine cg_ret ?_;have ok:=setE_ok c3 c5 c6;exact eg_ret_tmp2 rfl rfl rfl ⟨_,rfl,_,congrArg (fun q=>Value.tuple #[s13.v,nv q]) ok.symm,m13.cast ((set_cat (by omega)).trans (setL_ok ok).symm),Un (Un (Un (Un (Un (Un (Un (Un u n1.below) hw2) hw4) hw7) dW8) n11.below) n12.below) hw13⟩
   refine Zd (mayStand_any x.toNat (hl.mW w4) Lr) ?_;rintro u14 w14 ⟨e14,hw14⟩;have zw14:=hw14.size;obtain rfl:u14=.bool false:=e14.trans (congrArg Value.bool (decide_eq_false c6));refine Xn 1 [1,5,6,7,0,24] ?_;refine cg_ct rfl<|ZrA ?_
   refine ZAnr [1,5,0,6,7] ?_;refine Qc ?_;have u:=Un (Un (Un (Un u n1.below) hw2) hw4) hw14;exact eg_ret_tmp2 rfl rfl rfl ⟨_,rfl,nilS,congrArg (fun q=>Value.tuple #[nilS.v,nv q]) (setE_fit c3 c5 c6).symm,(RwNd.nil _ _).cast (setL_no (by rw [(setE_fit c3 c5 c6)];exact (by decide))).symm,u⟩
  refine Znt [1,5,6,7,0,8,19] ?_;refine XRu 3 [1,5,0,6,7] ?_;refine Qc ?_;have u:=Un (Un (Un u n1.below) hw2) hw4;exact eg_ret_tmp2 rfl rfl rfl ⟨_,rfl,nilS,congrArg (fun q=>Value.tuple #[nilS.v,nv q]) (setE_check c3 c5).symm,(RwNd.nil _ _).cast (setL_no (by rw [(setE_check c3 c5)];exact c5)).symm,u⟩
 refine Za (yb (dF c3) (Qp (isL_any x ((trAs Ls).length:Int) _))) ?_;refine Xn 1 [1,5,6,7,0,15] ?_;refine cg_ct rfl<|ZrA ?_
 refine ZAnr [1,5,0,6,7] ?_;refine Qc ?_;have u:=Un (Un u n1.below) hw2;exact eg_ret_tmp2 rfl rfl rfl ⟨_,rfl,nilS,congrArg (fun q=>Value.tuple #[nilS.v,nv q]) (setE_range c3).symm,(RwNd.nil _ _).cast (setL_no (by rw [(setE_range c3)];exact (by decide))).symm,u⟩
theorem grow_any [Lo] (h:RwNd W B s Ls) (hB:B<=W.heap.size):Calls prog 179 #[s.v] W fun e W'=>∃ v,e=.returned v/\∃ s':SlV,v=.tuple #[s'.v,nv (growE Ls)]/\RwNd W' W'.heap.size s' (growL Ls)/\Bw W W':=by
 refine Ze func179 ntmps179 ?_;have u:=Br W;have q0:=trAs_le Ls;refine XRn 2 [0,2,3] ?_;refine ZrM ?_;refine Zc (tree_any h (by omega)) rfl rfl ?_;rintro _ w1 ⟨s1,rfl,m1,f1,hw1⟩;have zw1:=hw1.size;have tl1:=trAs_le Ls;refine ZAn [2,3,0] ?_;refine Qd<|ZrM ?_
 refine Za (Qp (leaves_any s1 (trAs Ls) _ (by have q1:=m1.len;omega) (by omega)) (by kernel_rfl) rfl rfl) ?_;refine Zi yi_eql (fun c2=>?_) fun c2=>?_
 ·refine Znt [2,3,0,8] ?_;refine XRu 2 [0,2,3] ?_;refine Qc ?_;have u:=Un u hw1;exact eg_ret_tmp2 rfl rfl rfl ⟨_,rfl,nilS,congrArg (fun q=>Value.tuple #[nilS.v,nv q]) (growE_64 c2).symm,(RwNd.nil _ _).cast (growL_no (by rw [growE_64 c2];decide)).symm,u⟩
 refine Zn [2,3,0,8] ?_;refine Zcf [2,3,0] ?_;refine XR 2 ?_;refine Za (y_lenM (el:=81) m1.len) ?_;refine Za (yv (congrArg nv (show ((trAs Ls).length:Int)+1=(((trAs Ls).length+1:Nat):Int) by omega)) (yi_add rfl rfl rfl (by omega) (by omega))) ?_;refine lg_appZ (k:=((trAs Ls).length+1)) (kI:=(((trAs Ls).length+1:Nat):Int)) m1 (by omega) f1 (by omega) (by omega) (by omega) Wn rfl rfl rfl rfl rfl (by decide) fun r3 w3 m3 l3=>?_;have z3:=l3.size;refine Xu 2 [2,3] ?_;exact eg_ret_tmp2 rfl rfl rfl ⟨_,rfl,_,congrArg (fun q=>Value.tuple #[r3.v,nv q]) (growE_0 c2).symm,m3.cast (growL_ok (growE_0 c2)).symm,Un (Un u hw1) l3⟩
end Go.Proofs.YtjjdcnkbibkmkaaGreatDoor
