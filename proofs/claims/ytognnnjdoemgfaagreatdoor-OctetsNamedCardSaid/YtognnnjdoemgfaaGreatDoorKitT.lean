/-
  KitT: TrBase, TrWk, TrCat, TrLit, TrMath, TrProg.
-/
import Derived.Test.YtognnnjdoemgfaaGreatDoorKitN
import Derived.Lib.Hide
import Derived.Lib.AppendZeros
import Derived.ArgAppend
import Derived.Test.YtognnnjdoemgfaaGreatDoorKitI
import Derived.Test.YtognnnjdoemgfaaGreatDoorKitP
namespace Go.Proofs.YtognnnjdoemgfaaGreatDoor
open Go.ChangeShapes Go.WideShapes Go.ChangeAt Go.RowKit
set_option linter.unusedVariables false

/- TrBase:
  Rows of nodes: as cells, of one's own, cut, joined, written.
-/
abbrev NdP:=NdV × Nd
def ndc (p:NdP):List Value:=(p.1.cs p.2).toList
/-- The cells of nodes, one behind the other. -/
def ndCells:List NdP→List Value
 | []=>[]
 | p::ps=>ndc p++ndCells ps
theorem ndc_len (p:NdP):(ndc p).length=8:=rfl
theorem ndCells_len:∀ ps:List NdP,(ndCells ps).length=ps.length*8
 | []=>rfl
 | p::ps=>by rw [ndCells,List.length_append,ndc_len,ndCells_len ps,List.length_cons];omega
theorem ndCells_app:∀ ps qs:List NdP,ndCells (ps++qs)=ndCells ps++ndCells qs
 | [],_=>rfl
 | p::ps,qs=>by rw [List.cons_append,ndCells,ndCells,ndCells_app ps qs,List.append_assoc]
theorem ndCells_at:∀ (ps:List NdP) (i j:Nat) (p:NdP),ps[i]?=some p→j<8→(ndCells ps)[i*8+j]?=(ndc p)[j]?
 | [],_,_,_,h,_=>by simp at h
 | q::ps,0,j,p,h,hj=>by
  obtain rfl:q=p:=by simpa using h
  rw [ndCells,Nat.zero_mul,Nat.zero_add,List.getElem?_append_left (by rw [ndc_len];exact hj)]
 | q::ps,i+1,j,p,h,hj=>by
  rw [ndCells,List.getElem?_append_right (by rw [ndc_len];omega),ndc_len,show (i+1)*8+j-8=i*8+j by omega]
  exact ndCells_at ps i j p (by simpa using h) hj
theorem ndCells_take (ps:List NdP) (i:Nat) (hi:i≤ps.length):(ndCells ps).take (i*8)=ndCells (ps.take i):=by
 have h:ndCells ps=ndCells (ps.take i)++ndCells (ps.drop i):=by rw [←ndCells_app,List.take_append_drop]
 rw [h]
 exact List.take_left' (by rw [ndCells_len,List.length_take];omega)
theorem ndCells_drop (ps:List NdP) (i:Nat) (hi:i≤ps.length):(ndCells ps).drop (i*8)=ndCells (ps.drop i):=by
 have h:ndCells ps=ndCells (ps.take i)++ndCells (ps.drop i):=by rw [←ndCells_app,List.take_append_drop]
 rw [h]
 exact List.drop_left' (by rw [ndCells_len,List.length_take];omega)
theorem ndCells_set (ps:List NdP) (i:Nat) (p:NdP) (hi:i<ps.length):(ndCells ps).take (i*8)++ndc p++(ndCells ps).drop (i*8+8)=ndCells (ps.set i p):=by
 rw [ndCells_take ps i (by omega),show i*8+8=(i+1)*8 by omega,ndCells_drop ps (i+1) (by omega),List.set_eq_take_append_cons_drop,if_pos hi,ndCells_app,ndCells,List.append_assoc]
theorem ndCells_one:∀ (ps:List NdP) (u:Value),u∈ndCells ps→u.oneCell'=true
 | [],u,h=>by cases h
 | p::ps,u,h=>(List.mem_append.1 h).elim (fun h=>List.all_eq_true.1 (show (ndc p).all (·.oneCell')=true from rfl) u h) (ndCells_one ps u)
/-- Nodes that are to be copied: what they say lies below block B. -/
def SrcNd (w:World) (B:Nat) (s:SlV) (Ls:List Nd):Prop:=∃ ps:List NdP,ps.map (·.2)=Ls∧ps.length=s.m∧s.m≤s.c∧s.c≤maxLen∧(∀ p∈ps,IsNd w B p.1 p.2)∧(0<s.m→∃ ad,s.A=some ad) ∧
 ∀ ad,s.A=some ad→∀ j u,(ndCells ps)[j]?=some u→w.cell? (ad.add j)=some u
/-- A row of nodes of one's own, from block base on; what they say lies below block B. -/
def OwnNd (w:World) (base B:Nat) (v:Value) (Ls:List Nd):Prop:=∃ ps:List NdP,ps.map (·.2)=Ls∧w.ownsRow base 38 8 v ps.length (ndCells ps)∧∀ p∈ps,IsNd w B p.1 p.2
abbrev zNd:Value:=.agg (NdV.zero.cs Nd.zero)
theorem infoNd:(Tryz.prog.info? 38).map (fun i=>(i.zero,i.size,i.bytes))=some (some zNd,8,160):=by kernel_rfl
theorem huNd:Tryz.prog.underlying 22=some (.slice 38):=by kernel_rfl
section
variable {w w':World} {B B' base:Nat} {s:SlV} {v:Value} {Ls Ms:List Nd}
theorem RwNd.src (h:RwNd w B s Ls):SrcNd w B s Ls:=by
 by_cases hm:0<s.m
 ·obtain ⟨b,o,e,hB,hc⟩:=h.2.2.2 hm
  have key:∀ i:Nat,∃ l:NdV,∀ L,Ls[i]?=some L→IsNd w B l L∧∀ j u,(l.cs L)[j]?=some u→w.cell? ⟨b,o+i*8+j,none⟩=some u:=by
   intro i
   cases hL:Ls[i]? with
   | none=>exact ⟨NdV.zero,fun L q=>by cases q⟩
   | some L =>
    obtain ⟨l,hl⟩:=hc i L hL
    exact ⟨l,fun M q=>by cases q;exact hl⟩
  obtain ⟨f,hf⟩:=Classical.skolem.1 key
  refine ⟨Ls.mapIdx fun i L=>(f i,L),?_,by rw [List.length_mapIdx];exact h.2.2.1,h.1,h.2.1,?_,fun _=>⟨_,e⟩,?_⟩
  ·refine List.ext_getElem? fun i=>?_
   rw [List.getElem?_map,List.getElem?_mapIdx]
   cases Ls[i]?<;>rfl
  ·intro p hp
   obtain ⟨i,hi⟩:=List.mem_iff_getElem?.1 hp
   rw [List.getElem?_mapIdx,Option.map_eq_some_iff] at hi
   obtain ⟨L,hL,rfl⟩:=hi
   exact (hf i L hL).1
  intro ad had j u hu
  obtain rfl:ad=⟨b,o,none⟩:=Option.some.inj (had.symm.trans e)
  have hj:=(List.getElem?_eq_some_iff.1 hu).1
  rw [ndCells_len,List.length_mapIdx] at hj
  have hi:j / 8<Ls.length:=by omega
  have hp:(Ls.mapIdx fun i L=>(f i,L))[j / 8]?=some (f (j / 8),Ls[j / 8]):=by
   rw [List.getElem?_mapIdx,List.getElem?_eq_getElem hi]
   rfl
  have h1:=ndCells_at _ (j / 8) (j % 8) _ hp (Nat.mod_lt _ (by omega))
  rw [show j / 8*8+j % 8=j by omega,hu] at h1
  have h2:=(hf (j / 8) _ (List.getElem?_eq_getElem hi)).2 (j % 8) u (by rw [←Array.getElem?_toList];exact h1.symm)
  rw [show o+j / 8*8+j % 8=o+j by omega] at h2
  rw [Addr.add_lit]
  exact h2
 have e:Ls=[]:=List.eq_nil_of_length_eq_zero (by rw [h.2.2.1];omega)
 subst e
 exact ⟨[],rfl,(by show 0=s.m;omega),h.1,h.2.1,(fun p hp=>by cases hp),(fun q=>absurd q hm),(fun ad _ j u hu=>by simp [ndCells] at hu)⟩
theorem SrcNd.len (h:SrcNd w B s Ls):Ls.length=s.m:=by
 obtain ⟨ps,rfl,hl,_⟩:=h
 rw [List.length_map,hl]
theorem SrcNd.more (h:SrcNd w B s Ls) (g:B≤B'):SrcNd w B' s Ls:=by
 obtain ⟨ps,e,hl,h1,h2,hp,h3,h4⟩:=h
 exact ⟨ps,e,hl,h1,h2,fun p q=>(hp p q).more g,h3,h4⟩
theorem OwnNd.nil (w:World) (base B:Nat):OwnNd w base B nilS.v []:=⟨[],rfl,⟨rfl,.inl ⟨rfl,rfl⟩⟩,fun p hp=>by cases hp⟩
theorem OwnNd.keep (h:OwnNd w base B v Ls) (g:Below w.heap.size w w') (hB:B≤w.heap.size):OwnNd w' base B v Ls:=by
 obtain ⟨ps,e,ho,hp⟩:=h
 exact ⟨ps,e,own_below ho g,fun p q=>(hp p q).below (g.mono hB)⟩
theorem OwnNd.more (h:OwnNd w base B v Ls) (g:B≤B'):OwnNd w base B' v Ls:=by
 obtain ⟨ps,e,ho,hp⟩:=h
 exact ⟨ps,e,ho,fun p q=>(hp p q).more g⟩
theorem OwnNd.row (h:OwnNd w base B v Ls) (hB:B≤w.heap.size):∃ s:SlV,v=s.v∧RwNd w w.heap.size s Ls:=by
 obtain ⟨ps,rfl,ho,hp⟩:=h
 rcases ho.2 with ⟨rfl,h0⟩ | ⟨g,cap,cur,rfl,hg,hh,h1,h2,h3,h4⟩
 ·exact ⟨nilS,rfl,Nat.le_refl _,Nat.zero_le _,by simpa using h0,fun q=>absurd q (by simp)⟩
 refine ⟨⟨some ⟨g,0,none⟩,ps.length,cap⟩,rfl,h1,h2,by simp,fun hm=>⟨g,0,rfl,(ho.lt g rfl).2,fun i L hL=>?_⟩⟩
 rw [List.getElem?_map,Option.map_eq_some_iff] at hL
 obtain ⟨p,hp',rfl⟩:=hL
 refine ⟨p.1,(hp p (List.mem_of_getElem? hp')).more hB,fun j u hu=>?_⟩
 have hj:j<8:=(Array.getElem?_eq_some_iff.1 hu).1
 have:=ho.cells (g:=g) rfl (i*8+j) u (by
  rw [ndCells_at ps i j p hp' hj]
  rw [←Array.getElem?_toList] at hu
  exact hu)
 rw [Addr.add_lit,←Nat.add_assoc] at this
 exact this
theorem SlV.v_inj {s r:SlV} (e:s.v=r.v):s=r:=by
 obtain ⟨A,m,c⟩:=s
 obtain ⟨A',m',c'⟩:=r
 simp only [SlV.v,Value.slice.injEq] at e
 obtain ⟨rfl,rfl,rfl⟩:=e
 rfl
theorem OwnNd.rowS (h:OwnNd w base B s.v Ls) (hB:B≤w.heap.size):RwNd w w.heap.size s Ls:=by
 obtain ⟨r,e,hr⟩:=h.row hB
 rw [SlV.v_inj e]
 exact hr
/-- What an append of nodes to an own row gives. -/
theorem append_nds (w:World) (base B:Nat) (v:Value) (Ls Ms:List Nd) (s:SlV) (hown:OwnNd w base B v Ls) (hS:SrcNd w B s Ms) (hBb:B≤base) (hb:Ls.length+Ms.length≤1000000) (hbase:base≤w.heap.size) :
  ∃ v' w',(Builtin.append_ #[22,22] 22 #[v,s.v]).run Tryz.prog w=.ok v' w'∧OwnNd w' base B v' (Ls++Ms)∧Below base w w'∧w.grownBy w' v.ownBlock:=by
 obtain ⟨i0,hi0,hz0,hz1,hz2⟩:=info_parts infoNd
 obtain ⟨ps,rfl,ho,hp⟩:=hown
 obtain ⟨qs,rfl,hl,hmc,hcm,hq,hA,hc⟩:=hS
 rw [List.length_map,List.length_map] at hb
 by_cases h0:s.m=0∧s.A=none
 ·have hy:qs=[]:=List.eq_nil_of_length_eq_zero (by omega)
  subst hy
  refine ⟨v,w,?_,⟨ps,by simp,ho,hp⟩,Below.refl _ _,World.grownBy.refl w _⟩
  obtain ⟨A,m,c⟩:=s
  obtain ⟨rfl,rfl⟩:=h0
  rcases ho.2 with ⟨rfl,_⟩ | ⟨g,cap,cur,rfl,_,_,hnc,_⟩
  ·simp [Builtin.append_,run_underlying huNd,sizeOf,typeInfo,hi0,Builtin.lenOf,Builtin.firstCells]
  simp [Builtin.append_,run_underlying huNd,sizeOf,typeInfo,hi0,Builtin.lenOf,Builtin.firstCells,hnc,storeCells]
 have hA2:∃ ad,s.A=some ad:=by
  by_cases hm0:s.m=0
  ·cases hq:s.A with
   | none=>exact absurd ⟨hm0,hq⟩ h0
   | some ad=>exact ⟨ad,rfl⟩
  exact hA (by omega)
 obtain ⟨ad,hA2⟩:=hA2
 have hcc:=hc ad hA2
 obtain ⟨A,m,c⟩:=s
 simp only at hA2 hl hcc
 subst hA2
 obtain ⟨v',w',hrun,h1,h2,_,h3⟩:=run_append_own_at (P:=Tryz.prog) w base 22 22 38 i0 _ 8 160 huNd hi0 hz0 hz1 hz2 rfl (by omega) v _ _ ho ad m c (ndCells qs) (by rw [ndCells_len,hl]) hcc (ndCells_one qs) (by unfold maxLen;omega) (by omega) hbase
 have hbel:Below base w w':=(Below.refl _ _).grown h2 hbase (fun k hk=>(ho.lt k hk).1)
 refine ⟨v',w',hrun,⟨ps++qs,by simp,?_,fun p hpq=>?_⟩,hbel,h2⟩
 ·rw [ndCells_app,List.length_append,hl]
  exact h1
 rcases List.mem_append.1 hpq with h | h
 ·exact (hp p h).below (hbel.mono hBb)
 exact (hq p h).below (hbel.mono hBb)
/-- append(t, make([]Node, n)...), t full: another row, blank nodes behind. -/
theorem append_ndz (w:World) (B:Nat) (s:SlV) (Ls:List Nd) (n:Nat) (hS:SrcNd w B s Ls) (hB:B≤w.heap.size) (hfull:s.c=s.m) (h0:0<n) (hb:Ls.length+n≤1000000) (hnil:s.A=none→s.m=0) :
  ∃ v' w',(Builtin.append_ #[22,3] 22 #[s.v,nv (n:Int)]).run Tryz.prog w=.ok v' w'∧OwnNd w' w.heap.size B v' (Ls++List.replicate n Nd.zero)∧Below w.heap.size w w':=by
 obtain ⟨i0,hi0,hz0,hz1,hz2⟩:=info_parts infoNd
 obtain ⟨qs,rfl,hl,hmc,hcm,hq,hA,hc⟩:=hS
 rw [List.length_map] at hb
 obtain ⟨A,m,c⟩:=s
 simp only at hl hmc hcm hfull hnil hA hc
 subst hfull
 subst hl
 have hw:IntKind.i64.wrap (n:Int)=n:=by rw [IntKind.wrap_i64];omega
 have hneg:¬((n:Int)<0):=by omega
 have h48i:¬(281474976710656<(n:Int)*(i0.bytes:Int)):=by rw [hz2];omega
 have hns:¬(n*i0.size=0):=by rw [hz1];omega
 have hn:¬(qs.length+n≤qs.length):=by omega
 have h63':¬(9223372036854775807<((qs.length:Int)+(n:Int))):=by omega
 have h48':¬(281474976710656<Builtin.nextslicecap (qs.length+n) qs.length*i0.bytes):=by
  have:=nextslicecap_le (need:=qs.length+n) (old:=qs.length) (by omega)
  rw [hz2]
  omega
 have hold:(Builtin.firstCells i0.size qs.length (.slice A qs.length qs.length)).run Tryz.prog w.drew=.ok (ndCells qs).toArray w.drew:=by
  cases A with
  | none =>
   have e:qs=[]:=List.eq_nil_of_length_eq_zero (hnil rfl)
   subst e
   exact run_firstCells_none _ _ _ _ _
  | some b =>
   exact run_firstCells_some (P:=Tryz.prog) w.drew i0.size qs.length b qs.length qs.length (ndCells qs) (by rw [ndCells_len,hz1]) (by simpa using hc b rfl)
 have hge:=grownCap_ge w (qs.length+n) qs.length 38
 have hcm2:grownCap w (qs.length+n) qs.length 38≤maxLen:=grownCap_le_maxLen w (qs.length+n) qs.length 38 (by unfold maxLen;omega)
 have hr:(Builtin.append_ #[22,3] 22 #[.slice A qs.length qs.length,nv (n:Int)]).run Tryz.prog w =
   .ok (.slice (some ⟨w.heap.size,0,none⟩) (qs.length+n) (grownCap w (qs.length+n) qs.length 38))
    (w.drew.alloc (.cells ((ndCells qs).toArray++Builtin.zeroCells zNd.cells n++Builtin.zeroCells zNd.cells (grownCap w (qs.length+n) qs.length 38-(qs.length+n))) 38)):=by
  simp [Builtin.append_,run_underlying huNd,run_underlying (show Tryz.prog.underlying 3=some (.int .i64) by kernel_rfl),sizeOf,typeInfo,zeroValue,hi0,hz0,asInt,asIntOf,hw,hn,hneg,hns,h63',h48',h48i,Question.forced,hold,newRow,grownCap]
 generalize grownCap w (qs.length+n) qs.length 38=G at *
 have hzs:∀ k:Nat,(Builtin.zeroCells zNd.cells k).toList=ndCells (List.replicate k (NdV.zero,Nd.zero)):=by
  intro k
  refine List.ext_getElem (by rw [Array.length_toList,size_zeroCells,ndCells_len,List.length_replicate];rfl) fun j h1 h2=>?_
  have hk:j / 8<k:=by
   rw [ndCells_len,List.length_replicate] at h2
   omega
  have h3:=ndCells_at (List.replicate k (NdV.zero,Nd.zero)) (j / 8) (j % 8) (NdV.zero,Nd.zero) (by rw [List.getElem?_replicate,if_pos hk]) (Nat.mod_lt _ (by omega))
  rw [show j / 8*8+j % 8=j by omega,List.getElem?_eq_getElem h2] at h3
  have h4:j % 8<(ndc (NdV.zero,Nd.zero)).length:=Nat.mod_lt _ (by omega)
  rw [List.getElem?_eq_getElem h4] at h3
  rw [Option.some.inj h3]
  simp only [Builtin.zeroCells,Array.getElem_toList,Array.getElem_map,Array.getElem_range]
  show (zNd.cells)[j % 8]! = _
  have h5:j % 8<8:=Nat.mod_lt _ (by omega)
  generalize j % 8=r at *
  match r,h5 with
  | 0,_=>rfl
  | 1,_=>rfl
  | 2,_=>rfl
  | 3,_=>rfl
  | 4,_=>rfl
  | 5,_=>rfl
  | 6,_=>rfl
  | 7,_=>rfl
 refine ⟨_,_,hr,⟨qs++List.replicate n (NdV.zero,Nd.zero),by simp,⟨by rw [ndCells_len],.inr ⟨w.heap.size,G,_,by rw [List.length_append,List.length_replicate],Nat.le_refl _,heap_alloc_new w.drew _,by rw [List.length_append,List.length_replicate];exact hge,hcm2,?_,?_⟩⟩,fun p hp=>?_⟩,((Below.refl _ _).drew).alloc (Nat.le_refl _) _⟩
 ·simp only [Array.size_append,List.size_toArray,size_zeroCells,ndCells_len]
  show qs.length*8+n*8+(G-(qs.length+n))*8=G*8
  omega
 ·simp only [Array.toList_append,hzs,←ndCells_app]
  refine (ndCells_take _ _ (by simp)).trans (congrArg ndCells ?_)
  exact List.take_left
 have hbel:Below w.heap.size w (w.drew.alloc (.cells ((ndCells qs).toArray++Builtin.zeroCells zNd.cells n++Builtin.zeroCells zNd.cells (G-(qs.length+n))) 38)):=((Below.refl _ _).drew).alloc (Nat.le_refl _) _
 rcases List.mem_append.1 hp with h | h
 ·exact (hq p h).below (hbel.mono hB)
 rw [List.eq_of_mem_replicate h]
 exact IsNd.zero _ _
end
/- TrWk:
  Rules for rows of nodes: pieces, single nodes, appends, stores.
-/
theorem RwNd.nil (w:World) (B:Nat):RwNd w B nilS []:=⟨Nat.le_refl _,Nat.zero_le _,rfl,fun q=>absurd q (by simp)⟩
theorem RwNd.cast {w:World} {B:Nat} {s:SlV} {Ls Ms:List Nd} (h:RwNd w B s Ls) (e:Ls=Ms):RwNd w B s Ms:=e▸h
theorem RwNd.cap {w:World} {B:Nat} {s:SlV} {Ls:List Nd} (h:RwNd w B s Ls):s.m≤s.c∧s.c≤9223372036854775807:=⟨h.1,by have:=h.2.1;unfold maxLen at this;omega⟩
def cutR (A:Option Addr) (l m:Nat):Option Addr:=if m=l then A else A.map (·.add (l*8))
theorem RwNd.cut {w:World} {B:Nat} {s:SlV} {Ls:List Nd} (h:RwNd w B s Ls) (l k m:Nat) (h1:l≤k) (h2:k≤s.m) (h3:k≤m) (h4:m≤s.c):RwNd w B ⟨cutR s.A l m,k-l,m-l⟩ ((Ls.take k).drop l):=by
 refine ⟨by show k-l≤m-l;omega,by have:=h.2.1;show m-l≤maxLen;omega,by rw [List.length_drop,List.length_take,h.len];show min k s.m-l=k-l;omega,fun hm=>?_⟩
 have hm:0<k-l:=hm
 obtain ⟨b,o,e,hB,hc⟩:=h.2.2.2 (by omega)
 have hne:¬m=l:=by omega
 refine ⟨b,o+l*8,by show cutR s.A l m=_;rw [cutR,if_neg hne,e];simp [Addr.add],hB,fun i L hL=>?_⟩
 rw [List.getElem?_drop,List.getElem?_take] at hL
 split at hL
 ·obtain ⟨l',h5,h6⟩:=hc (l+i) L hL
  refine ⟨l',h5,fun j u hu=>?_⟩
  have:=h6 j u hu
  rw [show o+l*8+i*8+j=o+(l+i)*8+j by omega]
  exact this
 cases hL
theorem run_cutG {w:World} (A:Option Addr) (n c l k m:Nat) (lo hi mx:Option Value) (hb:(Instr.sliceBounds true n c lo hi mx).run Tryz.prog w=.ok (l,k,m) w) :
  (Instr.sliceAt 22 (.slice A n c) lo hi mx).run Tryz.prog w=.ok (.slice (cutR A l m) (k-l) (m-l)) w:=by
 obtain ⟨i0,hi0,hz0,hz1,hz2⟩:=info_parts infoNd
 simp [Instr.sliceAt,Instr.slice,run_underlying huNd,hb,sizeOf,typeInfo,hi0,hz1,cutR]
section
variable {ops:Array Oper} {Q:Exit→Act→World→Prop} {n d:Nat} {E:Env} {o:Oper} {rest:List Oper} {w w0:World} {v:Value} {x y z q:Operand} {t t':TypeId} {B base:Nat} {s:SlV} {Ls Ms:List Nd}
theorem y_cutR_h (k:Nat) {hi:Int} (e:hi=k) (h:k≤s.c) (ho:o.op=.slice 22 x none (some z) none:=by rfl) (hx:val E x=some s.v:=by rfl) (hz:val E z=some (nv hi):=by rfl):Yields Tryz.prog E o w (⟨cutR s.A 0 s.c,k-0,s.c-0⟩:SlV).v:=fun n a ha=>.inl (by
 subst e
 unfold execOp
 rw [ho]
 simp only [ha.eval hx,Option.map_some,Option.map_none,ha.eval hz]
 rw [Sem.run_bind,run_cutG s.A s.m s.c 0 k s.c none (some (nv k)) none (by simp [Instr.sliceBounds,run_sliceBound,show (k:Int)≤s.c by omega])]
 rfl)
theorem y_cutR_hm (k m:Nat) {hi mx:Int} (e:hi=k) (e':mx=m) (h:k≤m) (h':m≤s.c) (ho:o.op=.slice 22 x none (some z) (some q):=by rfl) (hx:val E x=some s.v:=by rfl) (hz:val E z=some (nv hi):=by rfl) (hq:val E q=some (nv mx):=by rfl):Yields Tryz.prog E o w (⟨cutR s.A 0 m,k-0,m-0⟩:SlV).v:=fun n a ha=>.inl (by
 subst e e'
 unfold execOp
 rw [ho]
 simp only [ha.eval hx,Option.map_some,Option.map_none,ha.eval hz,ha.eval hq]
 rw [Sem.run_bind,run_cutG s.A s.m s.c 0 k m none (some (nv k)) (some (nv m)) (by simp [Instr.sliceBounds,run_sliceBound,show (k:Int)≤m by omega,show (m:Int)≤s.c by omega])]
 rfl)
/-- []api.Node{} -/
theorem lg_bs0R (hw:Want ops E o true) (ho:o.op=.buildSlice 22 0 #[]) (hd:o.dst=some d) (hn:d<n)
  (h:∀ u w',OwnNd w' w.heap.size w.heap.size u []→Below w.heap.size w w'→LG Tryz.prog ops Q n ((d,u)::E) rest w'):LG Tryz.prog ops Q n E (o::rest) w:=by
 refine lg_do hw (fun n a ha=>?_) hd hn (h (.slice (some ⟨w.heap.size,0,none⟩) 0 0) (w.alloc (.cells #[] 38)) ⟨[],rfl,⟨rfl,.inr ⟨_,0,#[],rfl,Nat.le_refl _,heap_alloc_new w _,Nat.le_refl _,Nat.zero_le _,rfl,rfl⟩⟩,fun p hp=>by cases hp⟩ ((Below.refl _ _).alloc (Nat.le_refl _) _))
 obtain ⟨i0,hi0,hz0,hz1,hz2⟩:=info_parts infoNd
 simp [execOp,ho,Instr.buildSlice,run_underlying huNd,sizeOf,typeInfo,hi0,Instr.fill,newRow]
 have e:Array.map (fun (_:Nat)=>(default:Value)) (Array.range 0)=#[]:=Array.eq_empty_of_size_eq_zero (by simp)
 rw [e]
theorem fill_one (l:NdV) (L:Nd):Instr.fill (fun i=>some (i*8,8)) ((Array.range 8).map (fun k=>zNd.cells[k % zNd.cells.size]!)) [(0,.agg (l.cs L))]=some (l.cs L):=by kernel_rfl
/-- []api.Node{n} -/
theorem lg_bs1R {l:NdV} {L:Nd} (hw:Want ops E o true) (ho:o.op=.buildSlice 22 1 #[(0,x)]) (hx:val E x=some (.agg (l.cs L))) (hd:o.dst=some d) (hn:d<n)
  (h:∀ b w',New w w' b 38 (l.cs L)→LG Tryz.prog ops Q n ((d,(⟨some ⟨b,0,none⟩,1,1⟩:SlV).v)::E) rest w'):LG Tryz.prog ops Q n E (o::rest) w:=by
 refine lg_do hw (fun n a ha=>?_) hd hn (h _ _ (New.of_alloc 38 (l.cs L)))
 obtain ⟨i0,hi0,hz0,hz1,hz2⟩:=info_parts infoNd
 have hf:=fill_one l L
 simp [execOp,ho,Instr.buildSlice,ha.eval hx,run_underlying huNd,sizeOf,typeInfo,hi0,hz1,zeroValue,hz0,hf,newRow]
/-- append(a, b...) of nodes, a a row of one's own. -/
theorem lg_appR {u:Value} (hown:OwnNd w base B u Ls) (hS:SrcNd w B s Ms) (hBb:B≤base) (hb:Ls.length+Ms.length≤1000000) (hbase:base≤w.heap.size) (hw:Want ops E o true)
  (ho:o.op=.call { callee:=.builtin .append,args:=#[x,y],argTypes:=#[22,22] }) (hty:o.type=22) (hx:val E x=some u) (hy:val E y=some s.v) (hd:o.dst=some d) (hn:d<n)
  (h:∀ (r:SlV) w',OwnNd w' base B r.v (Ls++Ms)→RwNd w' w'.heap.size r (Ls++Ms)→Below base w w'→w.heap.size≤w'.heap.size→LG Tryz.prog ops Q n ((d,r.v)::E) rest w'):LG Tryz.prog ops Q n E (o::rest) w:=by
 obtain ⟨v',w',hrun,h1,hg,_⟩:=append_nds w base B u Ls Ms s hown hS hBb hb hbase
 obtain ⟨r,rfl,hr⟩:=h1.row (Nat.le_trans (Nat.le_trans hBb hbase) hg.size)
 refine lg_do hw (fun n a ha=>?_) hd hn (h r w' h1 hr hg hg.size)
 simp [execOp,ho,hty,resolve,invoke,builtin,ha.eval hx,ha.eval hy,hrun,Result.andThen]
/-- append(a, make([]Node, k)...), a full. -/
theorem lg_appZ {k:Nat} {kI:Int} (hR:RwNd w B s Ls) (hB:B≤w.heap.size) (hfull:s.c=s.m) (e:kI=k) (h0:0<k) (hb:Ls.length+k≤1000000) (hw:Want ops E o true)
  (ho:o.op=.call { callee:=.builtin .append,args:=#[x,y],argTypes:=#[22,3] }) (hty:o.type=22) (hx:val E x=some s.v) (hy:val E y=some (nv kI)) (hd:o.dst=some d) (hn:d<n)
  (h:∀ (r:SlV) w',RwNd w' w'.heap.size r (Ls++List.replicate k Nd.zero)→Below w.heap.size w w'→LG Tryz.prog ops Q n ((d,r.v)::E) rest w'):LG Tryz.prog ops Q n E (o::rest) w:=by
 subst e
 obtain ⟨v',w',hrun,h1,hg⟩:=append_ndz w B s Ls k hR.src hB hfull h0 hb (fun q=>by
  by_cases hm:0<s.m
  ·obtain ⟨b,o,e,_⟩:=hR.2.2.2 hm
   rw [e] at q
   cases q
  omega)
 obtain ⟨r,rfl,hr⟩:=h1.row (Nat.le_trans hB hg.size)
 refine lg_do hw (fun n a ha=>?_) hd hn (h r w' hr hg)
 simp [execOp,ho,hty,resolve,invoke,builtin,ha.eval hx,ha.eval hy,hrun,Result.andThen]
set_option maxRecDepth 20000 in
theorem y_nilR {b:Addr} (hA:s.A=some b) (ho:o.op=.binOp .eql 22 x y t':=by rfl) (hx:val E x=some s.v:=by rfl) (hy:val E y=some (.slice none 0 0):=by rfl):Yields Tryz.prog E o w (.bool false) :=
 y_bin (fun x y w=>by
  obtain ⟨A,m,c⟩:=s
  simp only at hA
  subst hA
  rfl) ho hx hy
end
/- TrCat:
  Contracts of slices.Grow (of nil) and slices.Concat (of three rows of nodes), which the program takes from Go's library.
-/
/- TrLit:
  Rows of nodes as they are written out, and rows of blank ones that are made.
-/
section
variable {ops:Array Oper} {Q:Exit→Act→World→Prop} {n d:Nat} {E:Env} {o:Oper} {rest:List Oper} {w w0:World} {v:Value} {x y z q:Operand} {t t':TypeId} {B base:Nat} {s:SlV} {Ls Ms:List Nd}
theorem own_ndlit {ps:List NdP} (hb:base≤w.heap.size) (hm:ps.length≤maxLen) (hp:∀ p∈ps,IsNd w B p.1 p.2) (hB:B≤w.heap.size):OwnNd (w.alloc (.cells (ndCells ps).toArray 38)) base B (⟨some ⟨w.heap.size,0,none⟩,ps.length,ps.length⟩:SlV).v (ps.map (·.2)) :=
 ⟨ps,rfl,by
  have:=World.ownsRow_lit (base:=base) (e:=38) (size:=8) w (ndCells ps).toArray ps.length hb hm (by simp [ndCells_len])
  simpa using this,fun p h=>(hp p h).below (((Below.refl _ _).alloc (Nat.le_refl _) _).mono hB)⟩
/-- []api.Node{..} -/
theorem lg_bsR (ps:List NdP) {parts:Array (Nat × Operand)} {len:Nat} (hp:∀ p∈ps,IsNd w B p.1 p.2) (hB:B≤w.heap.size) (hw:Want ops E o true) (ho:o.op=.buildSlice 22 len parts) (hlen:len=ps.length) (hl:0<len) (hl':len≤1000)
  (hx:vals E (parts.toList.map (·.2))=some (ps.map fun p=>.agg (p.1.cs p.2)))
  (hf:Instr.fill (fun i=>some (i*8,8)) ((Array.range (len*8)).map (fun k=>zNd.cells[k % zNd.cells.size]!)) ((parts.toList.map (·.1)).zip (ps.map fun p=>.agg (p.1.cs p.2)))=some (ndCells ps).toArray) (hd:o.dst=some d) (hn:d<n)
  (h:∀ (s:SlV) w',s.c=s.m→OwnNd w' w.heap.size B s.v (ps.map (·.2))→Below w.heap.size w w'→LG Tryz.prog ops Q n ((d,s.v)::E) rest w'):LG Tryz.prog ops Q n E (o::rest) w:=by
 subst hlen
 refine lg_do hw (fun n a ha=>?_) hd hn (h ⟨some ⟨w.heap.size,0,none⟩,ps.length,ps.length⟩ _ rfl (own_ndlit (Nat.le_refl _) (by unfold maxLen;omega) hp hB) ((Below.refl _ _).alloc (Nat.le_refl _) _))
 have e:(parts.map fun (i,x)=>(i,a.eval x)).toList=(parts.toList.map (·.1)).zip (ps.map fun p=>.agg (p.1.cs p.2)):=by
  rw [←ha.evals hx]
  rw [List.map_map,List.zip_map',Array.toList_map]
  rfl
 unfold execOp
 rw [ho]
 obtain ⟨i0,hi0,hz0,hz1,hz2⟩:=info_parts infoNd
 have h0:¬ps.length*8=0:=by omega
 have h16:¬16777216<ps.length*8:=by omega
 have h17:¬ps.length=0:=by omega
 simp only [Instr.buildSlice,e]
 simp [run_underlying huNd,sizeOf,typeInfo,hi0,hz1,h0,h16,zeroValue,hz0,hf,newRow]
end
/- TrMath:
  Trees as rows of nodes: what the document says of them.
-/
def atN (a:List Nd) (i:Nat):Nd:=a.getD i Nd.zero
theorem atN_some {a:List Nd} {i:Nat} {L:Nd} (h:a[i]?=some L):atN a i=L:=by simp [atN,List.getD_eq_getElem?_getD,h]
theorem atN_none {a:List Nd} {i:Nat} (h:a.length≤i):atN a i=Nd.zero:=by simp [atN,List.getD_eq_getElem?_getD,h]
theorem atN_eq (a:List Nd) (i:Nat):atN a i=a[i]?.getD Nd.zero:=by simp [atN,List.getD_eq_getElem?_getD]
theorem atN_set {a:List Nd} {i j:Nat} {L:Nd} (hi:i<a.length):atN (a.set i L) j=if j=i then L else atN a j:=by
 rw [atN_eq,atN_eq,List.getElem?_set]
 by_cases e:i=j
 ·subst e
  rw [if_pos rfl,if_pos rfl,if_pos hi]
  rfl
 rw [if_neg e,if_neg (fun q=>e q.symm)]
theorem atN_app_l {a b:List Nd} {i:Nat} (h:i<a.length):atN (a++b) i=atN a i:=by
 rw [atN_eq,atN_eq,List.getElem?_append_left h]
theorem atN_app_z {a:List Nd} {i n:Nat}:atN (a++List.replicate n Nd.zero) i=atN a i:=by
 by_cases h:i<a.length
 ·exact atN_app_l h
 rw [atN_none (a:=a) (by omega),atN_eq,List.getElem?_append_right (by omega),List.getElem?_replicate]
 split<;>rfl
theorem list_atN {a b:List Nd} (hl:a.length=b.length) (h:∀ i,i<a.length→atN a i=atN b i):a=b:=by
 refine List.ext_getElem hl fun i h1 h2=>?_
 have:=h i h1
 rwa [atN_some (List.getElem?_eq_getElem h1),atN_some (List.getElem?_eq_getElem h2)] at this
/-- May a node of that kind stand there? -/
def fitK (i:Nat) (k:Int):Prop:=(i % 2≠0∨k≠2)∧(i % 2=0∨k≠1)
instance (i:Nat) (k:Int):Decidable (fitK i k):=by unfold fitK;infer_instance
def okAt (i:Nat) (L:Nd):Prop:=ndCheck L=0∧fitK i L.kind
instance (i:Nat) (L:Nd):Decidable (okAt i L):=by unfold okAt;infer_instance
/-- Is it a tree? -/
def trIs (a:List Nd):Prop:=(a.length=0∨isW (a.length:Int))∧∀ i,i<a.length→okAt i (atN a i)
instance (a:List Nd):Decidable (trIs a):=by unfold trIs;infer_instance
/-- As what it counts. -/
def trAs (a:List Nd):List Nd:=if trIs a then a else []
theorem trAs_ok {a:List Nd} (h:trIs a):trAs a=a:=if_pos h
theorem trAs_no {a:List Nd} (h:¬trIs a):trAs a=[]:=if_neg h
theorem trIs_nil:trIs []:=⟨.inl rfl,fun i h=>absurd h (by simp)⟩
theorem trAs_is (a:List Nd):trIs (trAs a):=by
 by_cases h:trIs a
 ·rw [trAs_ok h]
  exact h
 rw [trAs_no h]
 exact trIs_nil
theorem trAs_as (a:List Nd):trAs (trAs a)=trAs a:=trAs_ok (trAs_is a)
theorem trIs_le {a:List Nd} (h:trIs a):a.length≤127:=by
 rcases h.1 with e | e
 ·omega
 have:=e.le
 omega
theorem trAs_le (a:List Nd):(trAs a).length≤127:=trIs_le (trAs_is a)
/-- The lengths of a tree. -/
theorem trIs_len {a:List Nd} (h:trIs a):a.length=0∨a.length=1∨a.length=3∨a.length=7∨a.length=15∨a.length=31∨a.length=63∨a.length=127:=by
 rcases h.1 with e | e
 ·omega
 unfold isW at e
 omega
theorem ok_zero (i:Nat):okAt i Nd.zero:=⟨nd_zero,.inr (by decide),.inr (by decide)⟩
theorem trIs_ok {a:List Nd} (h:trIs a) (i:Nat):okAt i (atN a i):=by
 by_cases hi:i<a.length
 ·exact h.2 i hi
 rw [atN_none (by omega)]
 exact ok_zero i
/-- How many leaves. -/
def leavesA (a:List Nd):Nat:=(a.length+1) / 2
/-- The last node that is not blank, of the first k. -/
def lastN (a:List Nd):Nat→Int
 | 0=>-1
 | k+1=>if (atN a k).kind=0 then lastN a k else (k:Int)
def lastA (a:List Nd):Int:=lastN a a.length
theorem lastN_is (a:List Nd):∀ k:Nat,(lastN a k=-1∧∀ j,j<k→(atN a j).kind=0)∨∃ j:Nat,lastN a k=(j:Int)∧j<k∧(atN a j).kind≠0∧∀ q,j<q→q<k→(atN a q).kind=0
 | 0=>.inl ⟨rfl,fun j h=>by omega⟩
 | k+1=>by
  rw [lastN]
  by_cases e:(atN a k).kind=0
  ·rw [if_pos e]
   rcases lastN_is a k with ⟨h1,h2⟩ | ⟨j,h1,h2,h3,h4⟩
   ·refine .inl ⟨h1,fun j hj=>?_⟩
    by_cases q:j=k
    ·rw [q]
     exact e
    exact h2 j (by omega)
   refine .inr ⟨j,h1,by omega,h3,fun q h5 h6=>?_⟩
   by_cases r:q=k
   ·rw [r]
    exact e
   exact h4 q h5 (by omega)
  rw [if_neg e]
  exact .inr ⟨k,rfl,by omega,e,fun q h1 h2=>by omega⟩
theorem lastA_is (a:List Nd):(lastA a=-1∧∀ j,j<a.length→(atN a j).kind=0)∨∃ j:Nat,lastA a=(j:Int)∧j<a.length∧(atN a j).kind≠0∧∀ q,j<q→q<a.length→(atN a q).kind=0:=lastN_is a a.length
def clr:List Int→List Nd→List Nd
 | [],a=>a
 | d::ds,a=>clr ds (a.set d.toNat Nd.zero)
/-- The tree grown. -/
def growE (a:List Nd):Int:=if leavesA (trAs a)=64 then 10 else 0
def growL (a:List Nd):List Nd:=if growE a=0 then trAs a++List.replicate ((trAs a).length+1) Nd.zero else []
def noLeaf (a:List Nd):Prop:=∀ i,i<a.length→(atN a i).kind≠1
instance (a:List Nd):Decidable (noLeaf a):=by unfold noLeaf;infer_instance
def trSame (a b:List Nd):Prop:=a.length=b.length∧∀ i,i<a.length→NdSame (atN a i) (atN b i)
instance (a b:List Nd):Decidable (trSame a b):=by unfold trSame;infer_instance
theorem tr_same (a:List Nd):trSame a a:=⟨rfl,fun i _=>nd_same _⟩
def trFew (a:List Nd):Prop:=(∀ i,i<a.length→ndFew (atN a i))∧a.length≤300
instance (a:List Nd):Decidable (trFew a):=by unfold trFew;infer_instance
-- put
-- blank
theorem clr_len:∀ (ds:List Int) (a:List Nd),(clr ds a).length=a.length
 | [],_=>rfl
 | d::ds,a=>by rw [clr,clr_len ds,List.length_set]
-- grow
theorem grow_small {a:List Nd} (h:growE a=0):(trAs a).length≤63:=by
 have h1:=trIs_len (trAs_is a)
 unfold growE leavesA at h
 split at h
 ·exact absurd h (by decide)
 omega
theorem growL_ok {a:List Nd} (h:growE a=0):growL a=trAs a++List.replicate ((trAs a).length+1) Nd.zero:=if_pos h
theorem growL_no {a:List Nd} (h:¬growE a=0):growL a=[]:=if_neg h
theorem growL_len {a:List Nd} (h:growE a=0):(growL a).length=2*(trAs a).length+1:=by
 rw [growL_ok h,List.length_append,List.length_replicate]
 omega
theorem trIs_growL (a:List Nd):trIs (growL a):=by
 by_cases h:growE a=0
 ·have hl:=growL_len h
  have hs:=grow_small h
  have h1:=trIs_len (trAs_is a)
  refine ⟨.inr ?_,fun i hi=>?_⟩
  ·rw [hl]
   unfold isW
   omega
  rw [growL_ok h,atN_app_z]
  exact trIs_ok (trAs_is a) i
 rw [growL_no h]
 exact trIs_nil
-- trim
/- TrProg:
  Trees: what the functions of package shape answer.
-/
theorem trIs_bad {a:List Nd} {i:Nat} {L:Nd} (h:a[i]?=some L) (n:¬okAt i L):¬trIs a:=fun q=>n (by
 have h1:=q.2 i (List.getElem?_eq_some_iff.1 h).1
 rwa [atN_some h] at h1)
theorem ok_step {a:List Nd} {t:Nat} {L:Nd} {p:Nat→Nd→Prop} (hk:∀ i,i<t→p i (atN a i)) (h:a[t]?=some L) (h2:p t L):∀ i,i<t+1→p i (atN a i):=fun i hi=>by
 by_cases e:i=t
 ·rw [e,atN_some h]
  exact h2
 exact hk i (by omega)
theorem at_kind {a:List Nd} {t:Nat} {L:Nd} {p:Int→Prop} (h:a[t]?=some L) (h2:p L.kind):p (atN a t).kind:=by rwa [atN_some h]
theorem mayStand_any {W:World} {B:Nat} {l:NdV} {L:Nd} (x:Nat) (hl:IsNd W B l L) (hB:B≤W.heap.size):Calls Tryz.prog 36 #[nv (x:Int),.agg (l.cs L)] W fun e W'=>∃ v,e=.returned v∧v=.bool (decide (fitK x L.kind))∧Below W.heap.size W W':=by
 refine Qf (n:=17) Tryz.func36 rfl Tryz.ntmps36 (by simp) ?_
 show CG _ _ _ [(0,nv (x:Int)),(1,.agg (l.cs L))] _ _
 have u:=Below.refl W.heap.size W
 have hB:=hB
 refine Zr ?_
 refine lg_boxw Wn rfl rfl (by kernel_rfl) rfl (by decide) fun b1 w1 n1=>?_
 have r1:=n1.row
 have k1:=n1.blk
 have z1:=n1.size
 have lt1:b1<w1.heap.size:=by omega
 refine ZAn [0,3,4] ?_
 refine Qd ?_
 refine Zr ?_
 refine Za (y_fld (off:=0)) ?_
 refine Zan (Qo (v:=nv L.kind) r1 rfl (by kernel_rfl) rfl rfl) [0,4,6] ?_
 refine Qj ?_
 refine Zr ?_
 by_cases c2:L.kind=1
 ·refine Za (yb (dT c2) yi_eql) ?_
  refine ZAnt [0,4,6,7] ?_
  refine ZrM ?_
  refine Za (yi_rem rfl rfl rfl (by omega) (by omega)) ?_
  by_cases c3:(((x:Nat):Int) % 2)=0
  ·refine Za (yb (dT c3) yi_eql) ?_
   refine ZAnr [4] ?_
   refine Qg ?_
   refine Qc ?_
   have u:=Un u n1.below
   exact Qa rfl rfl ⟨_,rfl,congrArg Value.bool (dT (by unfold fitK;omega)).symm,u⟩
  refine Za (yb (dF c3) yi_eql) ?_
  refine ZAnr [4] ?_
  refine Qg ?_
  refine Qc ?_
  have u:=Un u n1.below
  exact Qa rfl rfl ⟨_,rfl,congrArg Value.bool (dF (by unfold fitK;omega)).symm,u⟩
 refine Za (yb (dF c2) yi_eql) ?_
 refine ZAn [0,4,6,7] ?_
 refine cg_cf rfl ?_
 refine Zr ?_
 by_cases c4:L.kind=2
 ·refine Za (yb (dT c4) yi_eql) ?_
  refine ZAnt [0,4,12] ?_
  refine ZrM ?_
  refine Za (yi_rem rfl rfl rfl (by omega) (by omega)) ?_
  by_cases c5:(((x:Nat):Int) % 2)=0
  ·refine Za (yb (nd_f c5) yi_neq) ?_
   refine ZAnr [4] ?_
   refine Qg ?_
   refine Qc ?_
   have u:=Un u n1.below
   exact Qa rfl rfl ⟨_,rfl,congrArg Value.bool (dF (by unfold fitK;omega)).symm,u⟩
  refine Za (yb (nd_t c5) yi_neq) ?_
  refine ZAnr [4] ?_
  refine Qg ?_
  refine Qc ?_
  have u:=Un u n1.below
  exact Qa rfl rfl ⟨_,rfl,congrArg Value.bool (dT (by unfold fitK;omega)).symm,u⟩
 refine Za (yb (dF c4) yi_eql) ?_
 refine ZAn [0,4,12] ?_
 refine cg_cf rfl ?_
 refine cg_skip ?_
 refine Qi ?_
 refine Nx [4] ?_
 refine ZrA ?_
 refine Znr [4] ?_
 have u:=Un u n1.below
 exact Qa rfl rfl ⟨_,rfl,congrArg Value.bool (dT (by unfold fitK;omega)).symm,u⟩
theorem sane_any {W:World} {B:Nat} {s:SlV} {Ls:List Nd} (h:RwNd W B s Ls) (hB:B≤W.heap.size):Calls Tryz.prog 14 #[s.v] W fun e W'=>∃ v,e=.returned v∧v=.bool (decide (trIs Ls))∧Below W.heap.size W W':=by
 refine Qf (n:=31) Tryz.func14 rfl Tryz.ntmps14 (by simp) ?_
 show CG _ _ _ [(0,s.v)] _ _
 have u:=Below.refl W.heap.size W
 have h:=h.more hB
 have q1:=h.len
 have q2:=h.cap
 refine ZrA ?_
 refine Zn [0,2] ?_
 refine Qd ?_
 refine ZrM ?_
 refine Za (y_lenM (el:=38) h.len) ?_
 by_cases c1:0<(Ls.length:Int)
 ·refine Za (yb (dT c1) yi_gtr) ?_
  refine ZM ?_
  refine Zt 8 y_move ?_
  refine Zt 8 (y_lenM (el:=38) h.len) ?_
  by_cases c2:isW (Ls.length:Int)
  ·refine Zt 8 (yb (dT c2) (Qp (wholeL (Ls.length:Int) _))) ?_
   refine Zt 8 y_bnot ?_
   refine Zan (y_pick true) [0,2,13] ?_
   refine Zcf [0,2] ?_
   refine Qd ?_
   refine ZrM ?_
   refine Za (y_lenM (el:=38) h.len) ?_
   refine ZM ?_
   refine Zn [2,14,15,16] ?_
   refine Qj ?_
   refine Qr (fun t a v=>Holds 31 [(14,s.v),(15,nv (Ls.length:Int)),(16,nv ((t:Nat):Int))] a∧RwNd v W.heap.size s Ls∧Below W.heap.size W v∧∀ i,i<t→okAt i (atN Ls i)) (Ls.length+1) (fun a ha=>⟨ha.keep (fk rfl (fk rfl (fk rfl fn))),h,u,(fun i hi=>absurd hi (by omega))⟩) ?_
   rintro t a v ht ⟨ha,h,u,hk⟩
   refine cg_at ha ?_
   clear ha a
   have zv:=u.size
   have q1:=h.len
   have q2:=h.cap
   refine Zr ?_
   by_cases c3:((t:Nat):Int)<(Ls.length:Int)
   ·refine Zan (yb (dT c3) yi_lss) [14,15,16,17] ?_
    refine Qd ?_
    refine cg_ct rfl ?_
    refine Zki [14,15,16] ?_
    refine Qd ?_
    refine Qj ?_
    refine ZrM ?_
    obtain ⟨eb4,eo4,el4,eL4,eA4,eB4,eg4,eh4,ec4⟩:=h.at (t) (by have:=h.len;omega)
    refine Za (y_ixR (s:=s) (el:=38) (k:=8) (i:=t) (iI:=((t:Nat):Int)) eA4 (by kernel_rfl) (by kernel_rfl) (by omega) (by have:=h.len;omega) rfl rfl rfl) ?_
    refine Za (y_loadC (cs:=el4.cs eL4) ec4) ?_
    refine lg_allocw (cs:=NdV.zero.cs Nd.zero) Wn rfl (by kernel_rfl) rfl (by decide) fun b5 w5 n5=>?_
    have r5:=n5.row
    have k5:=n5.blk
    have z5:=n5.size
    have lt5:b5<w5.heap.size:=by omega
    refine ZA ?_
    have o6:=r5
    refine lg_stw Wn r5 rfl rfl rfl (by kernel_rfl) (by kernel_rfl) rfl rfl fun w6 s6=>?_
    have r5:=s6.row
    have z6:=s6.size
    refine Zn [14,15,16,4,3] ?_
    refine Zr ?_
    refine Za (y_loadA r5) ?_
    have eh4:=(eh4.below (n5.below.mono (by omega))).below (s6.below _ (by omega))
    refine Zc (checkN_any (eh4.more (B':=w6.heap.size) (by omega)) (Nat.le_refl _)) rfl rfl ?_
    rintro _ w7 ⟨rfl,hw7⟩
    have zw7:=hw7.size
    by_cases c8:(ndCheck eL4)=0
    ·refine Za (yb (nd_f c8) yi_neq) ?_
     refine ZM ?_
     refine Zt 24 y_move ?_
     have r5:=RowAt.below hw7 r5.lt r5
     refine Zt 24 (y_loadA r5) ?_
     have eh4:=eh4.below (hw7.mono (by omega))
     by_cases c9:fitK t eL4.kind
     ·refine Zct 24 (mayStand_any t (eh4.more (B':=w7.heap.size) (by omega)) (Nat.le_refl _)) rfl rfl ?_
      rintro u10 w10 ⟨e10,hw10⟩
      have zw10:=hw10.size
      obtain rfl:u10=.bool true:=e10.trans (congrArg Value.bool (decide_eq_true c9))
      refine Zt 24 y_bnot ?_
      refine Zan (y_pick false) [14,15,16,29] ?_
      refine cg_cf rfl ?_
      refine cg_skip ?_
      refine Qi ?_
      refine Nx [14,15,16] ?_
      refine Qe ?_
      refine Za (yv (congrArg nv (show ((t:Nat):Int)+1=((t+1:Nat):Int) by omega)) (yi_add rfl rfl rfl (by omega) (by omega))) ?_
      refine ZM ?_
      refine Qk ?_
      have h:=(h.below (n5.below.mono (by omega))).below (s6.below _ (by omega))
      have h:=(h.below (hw7.mono (by omega))).below (hw10.mono (by omega))
      have u:=Un u n5.below
      have u:=u.trans (s6.below _ (by omega))
      have u:=Un (Un u hw7) hw10
      exact fun a ha=>(show t<(Ls.length+1)∧_ from ⟨(by omega),ha.keep (fk rfl (fk rfl (fk rfl fn))),h,u,(ok_step hk eg4 ⟨c8,c9⟩)⟩)
     refine Zct 24 (mayStand_any t (eh4.more (B':=w7.heap.size) (by omega)) (Nat.le_refl _)) rfl rfl ?_
     rintro u11 w11 ⟨e11,hw11⟩
     have zw11:=hw11.size
     obtain rfl:u11=.bool false:=e11.trans (congrArg Value.bool (decide_eq_false c9))
     refine Zt 24 y_bnot ?_
     refine Zan (y_pick false) [14,15,16,29] ?_
     refine cg_ct rfl ?_
     refine ZrA ?_
     refine Znr [14,15,16,2] ?_
     refine Qg ?_
     refine Qc ?_
     refine Qc ?_
     refine Qg ?_
     refine Qc ?_
     have u:=Un u n5.below
     have u:=u.trans (s6.below _ (by omega))
     have u:=Un (Un u hw7) hw11
     exact Qa rfl rfl ⟨_,rfl,congrArg Value.bool (dF (trIs_bad eg4 fun q=>c9 q.2)).symm,u⟩
    refine Za (yb (nd_t c8) yi_neq) ?_
    refine ZM ?_
    refine Zf 24 ?_
    refine Zf 24 ?_
    refine Zf 24 ?_
    refine Zf 24 ?_
    refine Zan (y_pick true) [14,15,16,29] ?_
    refine cg_ct rfl ?_
    refine ZrA ?_
    refine Znr [14,15,16,2] ?_
    refine Qg ?_
    refine Qc ?_
    refine Qc ?_
    refine Qg ?_
    refine Qc ?_
    have u:=Un u n5.below
    have u:=u.trans (s6.below _ (by omega))
    have u:=Un u hw7
    exact Qa rfl rfl ⟨_,rfl,congrArg Value.bool (dF (trIs_bad eg4 fun q=>c8 q.1)).symm,u⟩
   refine Zan (yb (dF c3) yi_lss) [14,15,16,17] ?_
   refine Qd ?_
   refine cg_cf rfl ?_
   refine cg_exit ?_
   refine Qh ?_
   refine Qh ?_
   refine Ql ?_
   refine nx (E':=[]) fn ?_
   refine ZrA ?_
   refine Znr [2] ?_
   exact Qa rfl rfl ⟨_,rfl,congrArg Value.bool (dT ⟨by by_cases q:0<Ls.length;right;exact (by first | assumption | (exact absurd q (by omega)));left;omega,fun i hi=>hk i (by omega)⟩).symm,u⟩
  refine Zt 8 (yb (dF c2) (Qp (wholeL (Ls.length:Int) _))) ?_
  refine Zt 8 y_bnot ?_
  refine Zan (y_pick true) [0,2,13] ?_
  refine cg_ct rfl ?_
  refine ZrA ?_
  refine Znr [0,2] ?_
  refine Qc ?_
  exact Qa rfl rfl ⟨_,rfl,congrArg Value.bool (dF (fun q=>c2 (q.1.resolve_left (by omega)))).symm,u⟩
 refine Za (yb (dF c1) yi_gtr) ?_
 refine ZM ?_
 refine Zf 8 ?_
 refine Zf 8 ?_
 refine Zf 8 ?_
 refine Zf 8 ?_
 refine Zan (y_pick false) [0,2,13] ?_
 refine Zcf [0,2] ?_
 refine Qd ?_
 refine ZrM ?_
 refine Za (y_lenM (el:=38) h.len) ?_
 refine ZM ?_
 refine Zn [2,14,15,16] ?_
 refine Qj ?_
 refine Qr (fun t a v=>Holds 31 [(14,s.v),(15,nv (Ls.length:Int)),(16,nv ((t:Nat):Int))] a∧RwNd v W.heap.size s Ls∧Below W.heap.size W v∧∀ i,i<t→okAt i (atN Ls i)) (Ls.length+1) (fun a ha=>⟨ha.keep (fk rfl (fk rfl (fk rfl fn))),h,u,(fun i hi=>absurd hi (by omega))⟩) ?_
 rintro t a v ht ⟨ha,h,u,hk⟩
 refine cg_at ha ?_
 clear ha a
 have zv:=u.size
 have q1:=h.len
 have q2:=h.cap
 refine Zr ?_
 by_cases c12:((t:Nat):Int)<(Ls.length:Int)
 ·refine Zan (yb (dT c12) yi_lss) [14,15,16,17] ?_
  refine Qd ?_
  refine cg_ct rfl ?_
  refine Zki [14,15,16] ?_
  refine Qd ?_
  refine Qj ?_
  refine ZrM ?_
  obtain ⟨eb13,eo13,el13,eL13,eA13,eB13,eg13,eh13,ec13⟩:=h.at (t) (by have:=h.len;omega)
  refine Za (y_ixR (s:=s) (el:=38) (k:=8) (i:=t) (iI:=((t:Nat):Int)) eA13 (by kernel_rfl) (by kernel_rfl) (by omega) (by have:=h.len;omega) rfl rfl rfl) ?_
  refine Za (y_loadC (cs:=el13.cs eL13) ec13) ?_
  refine lg_allocw (cs:=NdV.zero.cs Nd.zero) Wn rfl (by kernel_rfl) rfl (by decide) fun b14 w14 n14=>?_
  have r14:=n14.row
  have k14:=n14.blk
  have z14:=n14.size
  have lt14:b14<w14.heap.size:=by omega
  refine ZA ?_
  have o15:=r14
  refine lg_stw Wn r14 rfl rfl rfl (by kernel_rfl) (by kernel_rfl) rfl rfl fun w15 s15=>?_
  have r14:=s15.row
  have z15:=s15.size
  refine Zn [14,15,16,4,3] ?_
  refine Zr ?_
  refine Za (y_loadA r14) ?_
  have eh13:=(eh13.below (n14.below.mono (by omega))).below (s15.below _ (by omega))
  refine Zc (checkN_any (eh13.more (B':=w15.heap.size) (by omega)) (Nat.le_refl _)) rfl rfl ?_
  rintro _ w16 ⟨rfl,hw16⟩
  have zw16:=hw16.size
  by_cases c17:(ndCheck eL13)=0
  ·refine Za (yb (nd_f c17) yi_neq) ?_
   refine ZM ?_
   refine Zt 24 y_move ?_
   have r14:=RowAt.below hw16 r14.lt r14
   refine Zt 24 (y_loadA r14) ?_
   have eh13:=eh13.below (hw16.mono (by omega))
   by_cases c18:fitK t eL13.kind
   ·refine Zct 24 (mayStand_any t (eh13.more (B':=w16.heap.size) (by omega)) (Nat.le_refl _)) rfl rfl ?_
    rintro u19 w19 ⟨e19,hw19⟩
    have zw19:=hw19.size
    obtain rfl:u19=.bool true:=e19.trans (congrArg Value.bool (decide_eq_true c18))
    refine Zt 24 y_bnot ?_
    refine Zan (y_pick false) [14,15,16,29] ?_
    refine cg_cf rfl ?_
    refine cg_skip ?_
    refine Qi ?_
    refine Nx [14,15,16] ?_
    refine Qe ?_
    refine Za (yv (congrArg nv (show ((t:Nat):Int)+1=((t+1:Nat):Int) by omega)) (yi_add rfl rfl rfl (by omega) (by omega))) ?_
    refine ZM ?_
    refine Qk ?_
    have h:=(h.below (n14.below.mono (by omega))).below (s15.below _ (by omega))
    have h:=(h.below (hw16.mono (by omega))).below (hw19.mono (by omega))
    have u:=Un u n14.below
    have u:=u.trans (s15.below _ (by omega))
    have u:=Un (Un u hw16) hw19
    exact fun a ha=>(show t<(Ls.length+1)∧_ from ⟨(by omega),ha.keep (fk rfl (fk rfl (fk rfl fn))),h,u,(ok_step hk eg13 ⟨c17,c18⟩)⟩)
   refine Zct 24 (mayStand_any t (eh13.more (B':=w16.heap.size) (by omega)) (Nat.le_refl _)) rfl rfl ?_
   rintro u20 w20 ⟨e20,hw20⟩
   have zw20:=hw20.size
   obtain rfl:u20=.bool false:=e20.trans (congrArg Value.bool (decide_eq_false c18))
   refine Zt 24 y_bnot ?_
   refine Zan (y_pick false) [14,15,16,29] ?_
   refine cg_ct rfl ?_
   refine ZrA ?_
   refine Znr [14,15,16,2] ?_
   refine Qg ?_
   refine Qc ?_
   refine Qc ?_
   refine Qg ?_
   refine Qc ?_
   have u:=Un u n14.below
   have u:=u.trans (s15.below _ (by omega))
   have u:=Un (Un u hw16) hw20
   exact Qa rfl rfl ⟨_,rfl,congrArg Value.bool (dF (trIs_bad eg13 fun q=>c18 q.2)).symm,u⟩
  refine Za (yb (nd_t c17) yi_neq) ?_
  refine ZM ?_
  refine Zf 24 ?_
  refine Zf 24 ?_
  refine Zf 24 ?_
  refine Zf 24 ?_
  refine Zan (y_pick true) [14,15,16,29] ?_
  refine cg_ct rfl ?_
  refine ZrA ?_
  refine Znr [14,15,16,2] ?_
  refine Qg ?_
  refine Qc ?_
  refine Qc ?_
  refine Qg ?_
  refine Qc ?_
  have u:=Un u n14.below
  have u:=u.trans (s15.below _ (by omega))
  have u:=Un u hw16
  exact Qa rfl rfl ⟨_,rfl,congrArg Value.bool (dF (trIs_bad eg13 fun q=>c17 q.1)).symm,u⟩
 refine Zan (yb (dF c12) yi_lss) [14,15,16,17] ?_
 refine Qd ?_
 refine cg_cf rfl ?_
 refine cg_exit ?_
 refine Qh ?_
 refine Qh ?_
 refine Ql ?_
 refine nx (E':=[]) fn ?_
 refine ZrA ?_
 refine Znr [2] ?_
 exact Qa rfl rfl ⟨_,rfl,congrArg Value.bool (dT ⟨by by_cases q:0<Ls.length;right;exact (by first | assumption | (exact absurd q (by omega)));left;omega,fun i hi=>hk i (by omega)⟩).symm,u⟩
theorem tree_any {W:World} {B:Nat} {s:SlV} {Ls:List Nd} (h:RwNd W B s Ls) (hB:B≤W.heap.size):Calls Tryz.prog 37 #[s.v] W fun e W'=>∃ v,e=.returned v∧∃ s':SlV,v=s'.v∧RwNd W' B s' (trAs Ls)∧s'.c=s'.m∧Below W.heap.size W W':=by
 refine Qf (n:=12) Tryz.func37 rfl Tryz.ntmps37 (by simp) ?_
 show CG _ _ _ [(0,s.v)] _ _
 have u:=Below.refl W.heap.size W
 refine ZrA ?_
 refine Zn [0,2] ?_
 refine Qd ?_
 refine ZrM ?_
 by_cases c1:trIs Ls
 ·refine Zc (sane_any (h.more (B':=W.heap.size) (by omega)) (Nat.le_refl _)) rfl rfl ?_
  rintro u2 w2 ⟨e2,hw2⟩
  have zw2:=hw2.size
  obtain rfl:u2=.bool true:=e2.trans (congrArg Value.bool (decide_eq_true c1))
  refine Zan y_bnot [0,2,5] ?_
  refine Zcf [0,2] ?_
  refine ZrM ?_
  refine ZM ?_
  have h:=h.below (hw2.mono (by omega))
  refine Za (y_lenM (el:=38) h.len) ?_
  refine ZM ?_
  refine Za (y_lenM (el:=38) h.len) ?_
  have cu3:=RwNd.cast (Ms:=Ls) (h.cut 0 Ls.length Ls.length (by have q1:=h.len;have q2:=h.cap;omega) (by have q1:=h.len;have q2:=h.cap;omega) (by have q1:=h.len;have q2:=h.cap;omega) (by have q1:=h.len;have q2:=h.cap;omega)) (by rw [List.drop_zero,List.take_length])
  refine Za (y_cutR_hm (s:=s) Ls.length Ls.length (hi:=(Ls.length:Int)) (mx:=(Ls.length:Int)) (by have q1:=h.len;have q2:=h.cap;omega) (by have q1:=h.len;have q2:=h.cap;omega) (by have q1:=h.len;have q2:=h.cap;omega) (by have q1:=h.len;have q2:=h.cap;omega) rfl rfl rfl rfl) ?_
  refine ZAnr [2] ?_
  have u:=Un u hw2
  exact Qa rfl rfl ⟨_,rfl,_,rfl,cu3.cast (trAs_ok c1).symm,rfl,u⟩
 refine Zc (sane_any (h.more (B':=W.heap.size) (by omega)) (Nat.le_refl _)) rfl rfl ?_
 rintro u4 w4 ⟨e4,hw4⟩
 have zw4:=hw4.size
 obtain rfl:u4=.bool false:=e4.trans (congrArg Value.bool (decide_eq_false c1))
 refine Zan y_bnot [0,2,5] ?_
 refine cg_ct rfl ?_
 refine ZrA ?_
 refine Znr [0,2] ?_
 refine Qc ?_
 have u:=Un u hw4
 exact Qa rfl rfl ⟨_,rfl,nilS,rfl,(RwNd.nil _ _).cast (trAs_no c1).symm,rfl,u⟩
theorem leaves_any (s:SlV) (Ls:List Nd) (W:World) (hm:Ls.length=s.m) (hle:Ls.length≤1000000000000000000):Calls Tryz.prog 38 #[s.v] W fun e W'=>e=.returned (nv ((leavesA Ls:Nat):Int))∧W'=W:=by
 refine Qf (n:=7) Tryz.func38 rfl Tryz.ntmps38 (by simp) ?_
 show CG _ _ _ [(0,s.v)] _ _
 refine ZrA ?_
 refine Zn [0,2] ?_
 refine ZrM ?_
 refine Za (y_lenM (el:=38) hm) ?_
 refine Za (yi_add rfl rfl rfl (by omega) (by omega)) ?_
 refine Za (yi_quo rfl rfl rfl (by omega) (by omega) (by omega)) ?_
 refine ZAnr [2] ?_
 exact Qa rfl rfl ⟨congrArg (fun q=>Ending.returned (nv q)) (show (((Ls.length:Int)+1) / 2)=((leavesA Ls:Nat):Int) by unfold leavesA;omega),rfl⟩
theorem leavesT_any {W:World} {B:Nat} {s:SlV} {Ls:List Nd} (h:RwNd W B s Ls) (hB:B≤W.heap.size):Calls Tryz.prog 40 #[s.v] W fun e W'=>∃ v,e=.returned v∧v=nv (leavesA (trAs Ls):Int)∧Below W.heap.size W W':=by
 refine Qf (n:=6) Tryz.func40 rfl Tryz.ntmps40 (by simp) ?_
 show CG _ _ _ [(0,s.v)] _ _
 have u:=Below.refl W.heap.size W
 refine ZrA ?_
 refine Zn [0,2] ?_
 refine ZrM ?_
 refine Zc (tree_any h (by omega)) rfl rfl ?_
 rintro _ w1 ⟨s1,rfl,m1,f1,hw1⟩
 have zw1:=hw1.size
 have tl1:=trAs_le Ls
 refine Za (Qp (leaves_any s1 (trAs Ls) _ (by have q1:=m1.len;omega) (by omega)) (by kernel_rfl) rfl rfl) ?_
 refine ZAnr [2] ?_
 have u:=Un u hw1
 exact Qa rfl rfl ⟨_,rfl,congrArg nv (rfl),u⟩
theorem lastA_one {a:List Nd} {j:Nat} (h1:j<a.length) (h2:(atN a j).kind≠0) (h3:∀ q,j<q→q<a.length→(atN a q).kind=0):lastA a=(j:Int):=by
 rcases lastA_is a with ⟨_,h⟩ | ⟨k,h,h4,h5,h6⟩
 ·exact absurd (h j h1) h2
 have:k=j:=by
  by_cases q:j<k
  ·exact absurd (h3 k q h4) h5
  by_cases r:k<j
  ·exact absurd (h6 j r h1) h2
  omega
 rw [h,this]
theorem lastA_no {a:List Nd} (h:∀ j,j<a.length→(atN a j).kind=0):lastA a=-1:=by
 rcases lastA_is a with ⟨e,_⟩ | ⟨k,e,h1,h2,_⟩
 ·exact e
 exact absurd (h k h1) h2
theorem last_any {W:World} {B:Nat} {s:SlV} {Ls:List Nd} (h:RwNd W B s Ls) (hB:B≤W.heap.size):Calls Tryz.prog 28 #[s.v] W fun e W'=>∃ v,e=.returned v∧v=nv (lastA (trAs Ls))∧Below W.heap.size W W':=by
 refine Qf (n:=20) Tryz.func28 rfl Tryz.ntmps28 (by simp) ?_
 show CG _ _ _ [(0,s.v)] _ _
 have u:=Below.refl W.heap.size W
 have h:=h.more hB
 refine ZrA ?_
 refine Zn [0,2] ?_
 refine ZrM ?_
 refine Zc (tree_any h (by omega)) rfl rfl ?_
 rintro _ w1 ⟨s1,rfl,m1,f1,hw1⟩
 have zw1:=hw1.size
 have tl1:=trAs_le Ls
 refine ZAn [2,0] ?_
 refine Qd ?_
 refine ZrM ?_
 refine Za (y_lenM (el:=38) m1.len) ?_
 refine Za (yv (congrArg nv (show ((trAs Ls).length:Int)-1=((trAs Ls).length:Int)-1-((0:Nat):Int) by omega)) (yi_sub rfl rfl rfl (by omega) (by omega))) ?_
 refine ZAn [2,0,3] ?_
 refine Qj ?_
 have u:=Un u hw1
 refine Qr (fun t a v=>∃ (r:SlV),Holds 20 [(0,r.v),(3,nv (((trAs Ls).length:Int)-1-(t:Int)))] a∧RwNd v W.heap.size r (trAs Ls)∧Below W.heap.size W v∧(∀ j,(trAs Ls).length-t≤j→j<(trAs Ls).length→(atN (trAs Ls) j).kind=0)∧t≤(trAs Ls).length) (Ls.length+200) (fun a ha=>⟨s1,ha.keep (fk rfl (fk rfl fn)),m1,u,(fun j h1 h2=>absurd h2 (by omega)),(Nat.zero_le _)⟩) ?_
 rintro t a v ht ⟨r,ha,hr,u,hk,tle⟩
 refine cg_at ha ?_
 clear ha a
 have zv:=u.size
 have q1:=hr.len
 have q2:=hr.cap
 have q3:=trAs_le Ls
 refine Qd ?_
 refine ZrM ?_
 by_cases c2:0≤(((trAs Ls).length:Int)-1-(t:Int))
 ·refine Zan (yb (dT c2) yi_geq) [0,3,10] ?_
  refine cg_ct rfl ?_
  refine Zki [0,3] ?_
  refine Qd ?_
  refine Qj ?_
  refine ZrM ?_
  refine ZM ?_
  obtain ⟨eb3,eo3,el3,eL3,eA3,eB3,eg3,eh3,ec3⟩:=hr.at (((trAs Ls).length-1-t)) (by have:=hr.len;omega)
  refine Za (y_ixR (s:=r) (el:=38) (k:=8) (i:=((trAs Ls).length-1-t)) (iI:=(((trAs Ls).length:Int)-1-(t:Int))) eA3 (by kernel_rfl) (by kernel_rfl) (by omega) (by have:=hr.len;omega) rfl rfl rfl) ?_
  refine Za (y_fld (off:=0)) ?_
  refine Za (y_celld (ec3 0 _ rfl)) ?_
  by_cases c4:eL3.kind=0
  ·refine Zan (yb (nd_f c4) yi_neq) [0,3,18] ?_
   refine cg_cf rfl ?_
   refine cg_skip ?_
   refine Qi ?_
   refine Nx [0,3] ?_
   refine Qe ?_
   refine ZM ?_
   refine Za (yv (congrArg nv (show (((trAs Ls).length:Int)-1-(t:Int))-1=((trAs Ls).length:Int)-1-((t+1:Nat):Int) by omega)) (yi_sub rfl rfl rfl (by omega) (by omega))) ?_
   refine ZA ?_
   refine Qk ?_
   exact fun a ha=>(show t<(Ls.length+200)∧_ from ⟨(by omega),r,ha.keep (fk rfl (fk rfl fn)),hr,u,(fun j h1 h2=>by by_cases q:j=(trAs Ls).length-1-t;rw [q];exact at_kind (p:=fun k=>k=0) eg3 c4;exact hk j (by omega) h2),(by omega)⟩)
  refine Zan (yb (nd_t c4) yi_neq) [0,3,18] ?_
  refine cg_ct rfl ?_
  refine ZrM ?_
  refine ZAnr [0,3,2] ?_
  refine Qg ?_
  refine Qc ?_
  refine Qc ?_
  refine Qg ?_
  refine Qc ?_
  exact Qa rfl rfl ⟨_,rfl,congrArg nv ((show (((trAs Ls).length:Int)-1-(t:Int))=(((trAs Ls).length-1-t:Nat):Int) by omega).trans (lastA_one (by omega) (at_kind (p:=fun k=>k≠0) eg3 c4) (fun j h1 h2=>hk j (by omega) h2)).symm),u⟩
 refine Zan (yb (dF c2) yi_geq) [0,3,10] ?_
 refine cg_cf rfl ?_
 refine cg_exit ?_
 refine Qh ?_
 refine Qh ?_
 refine Ql ?_
 refine nx (E':=[]) fn ?_
 refine ZrA ?_
 refine Znr [2] ?_
 exact Qa rfl rfl ⟨_,rfl,congrArg nv (lastA_no (fun j hj=>hk j (by omega) hj)).symm,u⟩
theorem growE_64 {a:List Nd} (h:((leavesA (trAs a):Nat):Int)=64):growE a=10:=if_pos (by omega)
theorem growE_0 {a:List Nd} (h:¬((leavesA (trAs a):Nat):Int)=64):growE a=0:=if_neg (by omega)
theorem grow_any {W:World} {B:Nat} {s:SlV} {Ls:List Nd} (h:RwNd W B s Ls) (hB:B≤W.heap.size):Calls Tryz.prog 15 #[s.v] W fun e W'=>∃ v,e=.returned v∧∃ s':SlV,v=.tuple #[s'.v,nv (growE Ls)]∧RwNd W' W'.heap.size s' (growL Ls)∧Below W.heap.size W W':=by
 refine Qf (n:=14) Tryz.func15 rfl Tryz.ntmps15 (by simp) ?_
 show CG _ _ _ [(0,s.v)] _ _
 have u:=Below.refl W.heap.size W
 have q0:=trAs_le Ls
 refine ZrA ?_
 refine ZAn [0,2,3] ?_
 refine ZrM ?_
 refine Zc (tree_any h (by omega)) rfl rfl ?_
 rintro _ w1 ⟨s1,rfl,m1,f1,hw1⟩
 have zw1:=hw1.size
 have tl1:=trAs_le Ls
 refine ZAn [2,3,0] ?_
 refine Qd ?_
 refine ZrM ?_
 refine Za (Qp (leaves_any s1 (trAs Ls) _ (by have q1:=m1.len;omega) (by omega)) (by kernel_rfl) rfl rfl) ?_
 by_cases c2:((leavesA (trAs Ls):Nat):Int)=64
 ·refine Zan (yb (dT c2) yi_eql) [2,3,0,8] ?_
  refine cg_ct rfl ?_
  refine ZrA ?_
  refine ZAnr [0,2,3] ?_
  refine Qc ?_
  have u:=Un u hw1
  exact eg_ret_tmp2 rfl rfl rfl ⟨_,rfl,nilS,congrArg (fun q=>Value.tuple #[nilS.v,nv q]) (growE_64 c2).symm,(RwNd.nil _ _).cast (growL_no (by rw [growE_64 c2];decide)).symm,u⟩
 refine Zan (yb (dF c2) yi_eql) [2,3,0,8] ?_
 refine Zcf [2,3,0] ?_
 refine ZrM ?_
 refine ZM ?_
 refine Za (y_lenM (el:=38) m1.len) ?_
 refine Za (yv (congrArg nv (show ((trAs Ls).length:Int)+1=(((trAs Ls).length+1:Nat):Int) by omega)) (yi_add rfl rfl rfl (by omega) (by omega))) ?_
 refine lg_appZ (k:=((trAs Ls).length+1)) (kI:=(((trAs Ls).length+1:Nat):Int)) m1 (by omega) f1 (by omega) (by omega) (by omega) Wn rfl rfl rfl rfl rfl (by decide) fun r3 w3 m3 l3=>?_
 have z3:=l3.size
 refine ZA ?_
 refine ZAnr [2,3] ?_
 have u:=Un (Un u hw1) l3
 exact eg_ret_tmp2 rfl rfl rfl ⟨_,rfl,_,congrArg (fun q=>Value.tuple #[r3.v,nv q]) (growE_0 c2).symm,m3.cast (growL_ok (growE_0 c2)).symm,u⟩
end Go.Proofs.YtognnnjdoemgfaaGreatDoor
