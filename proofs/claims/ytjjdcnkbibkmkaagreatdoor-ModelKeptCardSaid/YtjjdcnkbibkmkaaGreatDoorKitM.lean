/-
  KitM: RwK, MdBase, MdWk, MdMath, MdCat.
-/
import Derived.Test.YtjjdcnkbibkmkaaGreatDoorKitE
import Derived.Test.YtjjdcnkbibkmkaaGreatDoorKitO
namespace Go.Proofs.YtjjdcnkbibkmkaaGreatDoor
open Go.Proofs.Tryz
open Go.ChangeShapes Go.WideShapes Go.ChangeAt Go.RowKit
set_option linter.unusedVariables false

/- RwK:
  Rows of structs of any kind: as they read, of one's own, joined, written.
-/
structure Kd where
 V:Type
 L:Type
 k:Nat
 cs:V->L->Array Value
 is:World->Nat->V->L->Prop
 ty:TypeId
 ts:TypeId
 byt:Nat
 zv:V
 zl:L
 pos:0<k
 len:∀ l L,(cs l L).size=k
 one:∀ l L,(cs l L).toList.all (·.oneCell')=true
 below:∀ {w w':World} {B:Nat} {l L},is w B l L->Below B w w'->is w' B l L
 more:∀ {w:World} {B B':Nat} {l L},is w B l L->B<=B'->is w B' l L
 zero:∀ w B,is w B zv zl
 hu:prog.underlying ts=some (.slice ty)
 hi:(prog.info? ty).map (fun i=>(i.zero,i.size,i.bytes))=some (some (.agg (cs zv zl)),k,byt)
 hb:byt<=1000/\k<=1000
def RwK (K:Kd) (w:World) (B:Nat) (s:SlV) (Ls:List K.L):Prop:=s.m<=s.c/\s.c<=maxLen/\Ls.length=s.m /\
 (0<s.m->∃ b o,s.A=some ⟨b,o,none⟩/\b<B/\∀ i L,Ls[i]?=some L->∃ l:K.V,K.is w B l L/\∀ j u,(K.cs l L)[j]?=some u->w.cell? ⟨b,o+i*K.k+j,none⟩=some u)
section
variable {K:Kd} {w w':World} {B B':Nat} {s:SlV} {Ls Ms:List K.L}
theorem RwK.below (h:RwK K w B s Ls) (g:Below B w w'):RwK K w' B s Ls:=by
 refine ⟨h.1,h.2.1,h.2.2.1,fun hm=>?_⟩;obtain ⟨b,o,e,hB,hc⟩:=h.2.2.2 hm;refine ⟨b,o,e,hB,fun i L hL=>?_⟩;obtain ⟨l,hl,hj⟩:=hc i L hL;exact ⟨l,K.below hl g,fun j u hu=>(g.cell (p:=⟨b,o+i*K.k+j,none⟩) hB).trans (hj j u hu)⟩
theorem RwK.more (h:RwK K w B s Ls) (g:B<=B'):RwK K w B' s Ls:=by
 refine ⟨h.1,h.2.1,h.2.2.1,fun hm=>?_⟩;obtain ⟨b,o,e,hB,hc⟩:=h.2.2.2 hm;refine ⟨b,o,e,by omega,fun i L hL=>?_⟩;obtain ⟨l,hl,hj⟩:=hc i L hL;exact ⟨l,K.more hl g,hj⟩
theorem RwK.len (h:RwK K w B s Ls):Ls.length=s.m:=h.2.2.1
theorem RwK.nil (K:Kd) (w:World) (B:Nat):RwK K w B nilS []:=⟨Nat.le_refl _,Nat.zero_le _,rfl,fun q=>absurd q (by simp)⟩
theorem RwK.cast (h:RwK K w B s Ls) (e:Ls=Ms):RwK K w B s Ms:=e▸h
theorem RwK.cap (h:RwK K w B s Ls):s.m<=s.c/\s.c<=9223372036854775807:=⟨h.1,by have:=h.2.1;unfold maxLen at this;omega⟩
theorem RwK.at (h:RwK K w B s Ls) (i:Nat) (hi:i<s.m):∃ (b o:Nat) (l:K.V) (L:K.L),s.A=some ⟨b,o,none⟩/\b<B/\Ls[i]?=some L/\K.is w B l L/\∀ j u,(K.cs l L)[j]?=some u->w.cell? ⟨b,o+i*K.k+j,none⟩=some u:=by
 obtain ⟨b,o,e,hB,hc⟩:=h.2.2.2 (by omega);have hl:i<Ls.length:=by rw [h.len];exact hi
 obtain ⟨l,h1,h2⟩:=hc i Ls[i] (List.getElem?_eq_getElem hl);exact ⟨b,o,l,Ls[i],e,hB,List.getElem?_eq_getElem hl,h1,h2⟩
def cutK' (k:Nat) (A:Option Addr) (l m:Nat):Option Addr:=if m=l then A else A.map (·.add (l*k))
theorem RwK.cut (h:RwK K w B s Ls) (l k m:Nat) (h1:l<=k) (h2:k<=s.m) (h3:k<=m) (h4:m<=s.c):RwK K w B ⟨cutK' K.k s.A l m,k-l,m-l⟩ ((Ls.take k).drop l):=by
 refine ⟨by show k-l<=m-l;omega,by have:=h.2.1;show m-l<=maxLen;omega,by rw [List.length_drop,List.length_take,h.len];show min k s.m-l=k-l;omega,fun hm=>?_⟩;have hm:0<k-l:=hm;obtain ⟨b,o,e,hB,hc⟩:=h.2.2.2 (by omega);have hne:¬m=l:=by omega
 refine ⟨b,o+l*K.k,by show cutK' K.k s.A l m=_;rw [cutK',if_neg hne,e];simp [Addr.add],hB,fun i L hL=>?_⟩;rw [List.getElem?_drop,List.getElem?_take] at hL;split at hL
 ·obtain ⟨l',h5,h6⟩:=hc (l+i) L hL;refine ⟨l',h5,fun j u hu=>?_⟩;have:=h6 j u hu;rw [show o+l*K.k+i*K.k+j=o+(l+i)*K.k+j by rw [Nat.add_mul];omega];exact this
 cases hL
end
abbrev KP (K:Kd):=K.V × K.L
def kc {K:Kd} (p:KP K):List Value:=(K.cs p.1 p.2).toList
def kCells {K:Kd}:List (KP K)->List Value
 | []=>[]
 | p::ps=>kc p++kCells ps
section
variable {K:Kd}
theorem kc_len (p:KP K):(kc p).length=K.k:=by rw [kc,Array.length_toList,K.len]
theorem kCells_len:∀ ps:List (KP K),(kCells ps).length=ps.length*K.k
 | []=>by simp [kCells]
 | p::ps=>by rw [kCells,List.length_append,kc_len,kCells_len ps,List.length_cons,Nat.add_mul];omega
theorem kCells_app:∀ ps qs:List (KP K),kCells (ps++qs)=kCells ps++kCells qs
 | [],_=>rfl
 | p::ps,qs=>by rw [List.cons_append,kCells,kCells,kCells_app ps qs,List.append_assoc]
theorem kCells_at:∀ (ps:List (KP K)) (i j:Nat) (p:KP K),ps[i]?=some p->j<K.k->(kCells ps)[i*K.k+j]?=(kc p)[j]?
 | [],_,_,_,h,_=>by simp at h
 | q::ps,0,j,p,h,hj=>by
  obtain rfl:q=p:=by simpa using h
  rw [kCells,Nat.zero_mul,Nat.zero_add,List.getElem?_append_left (by rw [kc_len];exact hj)]
 | q::ps,i+1,j,p,h,hj=>by
  rw [kCells,List.getElem?_append_right (by rw [kc_len,Nat.add_mul];omega),kc_len,show (i+1)*K.k+j-K.k=i*K.k+j by rw [Nat.add_mul];omega];exact kCells_at ps i j p (by simpa using h) hj
theorem kCells_take (ps:List (KP K)) (i:Nat) (hi:i<=ps.length):(kCells ps).take (i*K.k)=kCells (ps.take i):=by
 have h:kCells ps=kCells (ps.take i)++kCells (ps.drop i):=by rw [<-kCells_app,List.take_append_drop]
 rw [h];exact List.take_left' (by rw [kCells_len,List.length_take,Nat.min_eq_left hi])
theorem kCells_drop (ps:List (KP K)) (i:Nat) (hi:i<=ps.length):(kCells ps).drop (i*K.k)=kCells (ps.drop i):=by
 have h:kCells ps=kCells (ps.take i)++kCells (ps.drop i):=by rw [<-kCells_app,List.take_append_drop]
 rw [h];exact List.drop_left' (by rw [kCells_len,List.length_take,Nat.min_eq_left hi])
theorem kCells_set (ps:List (KP K)) (i:Nat) (p:KP K) (hi:i<ps.length):(kCells ps).take (i*K.k)++kc p++(kCells ps).drop (i*K.k+K.k)=kCells (ps.set i p):=by
 rw [kCells_take ps i (by omega),show i*K.k+K.k=(i+1)*K.k by rw [Nat.add_mul];omega,kCells_drop ps (i+1) (by omega),List.set_eq_take_append_cons_drop,if_pos hi,kCells_app,kCells,List.append_assoc]
theorem kCells_one:∀ (ps:List (KP K)) (u:Value),u∈kCells ps->u.oneCell'=true
 | [],u,h=>by cases h
 | p::ps,u,h=>(List.mem_append.1 h).elim (fun h=>List.all_eq_true.1 (K.one p.1 p.2) u h) (kCells_one ps u)
theorem k_div {k j n:Nat} (hk:0<k) (h:j<n*k):j / k<n/\j % k<k/\j / k*k+j % k=j :=
 ⟨(Nat.div_lt_iff_lt_mul hk).2 h,Nat.mod_lt _ hk,by rw [Nat.mul_comm];exact Nat.div_add_mod j k⟩
end
def SrcK (K:Kd) (w:World) (B:Nat) (s:SlV) (Ls:List K.L):Prop:=∃ ps:List (KP K),ps.map (·.2)=Ls/\ps.length=s.m/\s.m<=s.c/\s.c<=maxLen/\(∀ p∈ps,K.is w B p.1 p.2)/\(0<s.m->∃ ad,s.A=some ad) /\
 ∀ ad,s.A=some ad->∀ j u,(kCells ps)[j]?=some u->w.cell? (ad.add j)=some u
def OwnK (K:Kd) (w:World) (base B:Nat) (v:Value) (Ls:List K.L):Prop:=∃ ps:List (KP K),ps.map (·.2)=Ls/\w.ownsRow base K.ty K.k v ps.length (kCells ps)/\∀ p∈ps,K.is w B p.1 p.2
section
variable {K:Kd} {w w':World} {B B' base:Nat} {s:SlV} {v:Value} {Ls Ms:List K.L}
theorem RwK.src (h:RwK K w B s Ls):SrcK K w B s Ls:=by
 by_cases hm:0<s.m
 ·obtain ⟨b,o,e,hB,hc⟩:=h.2.2.2 hm;have key:∀ i:Nat,∃ l:K.V,∀ L,Ls[i]?=some L->K.is w B l L/\∀ j u,(K.cs l L)[j]?=some u->w.cell? ⟨b,o+i*K.k+j,none⟩=some u:=by
   intro i;cases hL:Ls[i]? with
   | none=>exact ⟨K.zv,fun L q=>by cases q⟩
   | some L =>
    obtain ⟨l,hl⟩:=hc i L hL;exact ⟨l,fun M q=>by cases q;exact hl⟩
  obtain ⟨f,hf⟩:=Classical.skolem.1 key;refine ⟨Ls.mapIdx fun i L=>(f i,L),?_,by rw [List.length_mapIdx];exact h.2.2.1,h.1,h.2.1,?_,fun _=>⟨_,e⟩,?_⟩
  ·refine List.ext_getElem? fun i=>?_;rw [List.getElem?_map,List.getElem?_mapIdx];cases Ls[i]?<;>rfl
  ·intro p hp;obtain ⟨i,hi⟩:=List.mem_iff_getElem?.1 hp;rw [List.getElem?_mapIdx,Option.map_eq_some_iff] at hi;obtain ⟨L,hL,rfl⟩:=hi;exact (hf i L hL).1
  intro ad had j u hu;obtain rfl:ad=⟨b,o,none⟩:=Option.some.inj (had.symm.trans e);have hj:=(List.getElem?_eq_some_iff.1 hu).1;rw [kCells_len,List.length_mapIdx] at hj;obtain ⟨hi,hr,he⟩:=k_div K.pos hj;have hp:(Ls.mapIdx fun i L=>(f i,L))[j / K.k]?=some (f (j / K.k),Ls[j / K.k]):=by
   rw [List.getElem?_mapIdx,List.getElem?_eq_getElem hi];rfl
  have h1:=kCells_at _ (j / K.k) (j % K.k) _ hp hr;rw [he,hu] at h1;have h2:=(hf (j / K.k) _ (List.getElem?_eq_getElem hi)).2 (j % K.k) u (by rw [<-Array.getElem?_toList];exact h1.symm);rw [Nat.add_assoc,he] at h2;rw [Addr.add_lit];exact h2
 have e:Ls=[]:=List.eq_nil_of_length_eq_zero (by rw [h.2.2.1];omega);subst e;exact ⟨[],rfl,(by show 0=s.m;omega),h.1,h.2.1,(fun p hp=>by cases hp),(fun q=>absurd q hm),(fun ad _ j u hu=>by simp [kCells] at hu)⟩
theorem SrcK.len (h:SrcK K w B s Ls):Ls.length=s.m:=by
 obtain ⟨ps,rfl,hl,_⟩:=h;rw [List.length_map,hl]
theorem OwnK.nil (K:Kd) (w:World) (base B:Nat):OwnK K w base B nilS.v []:=⟨[],rfl,⟨by simp [kCells],.inl ⟨rfl,rfl⟩⟩,fun p hp=>by cases hp⟩
theorem OwnK.keep (h:OwnK K w base B v Ls) (g:Bw w w') (hB:B<=w.heap.size):OwnK K w' base B v Ls:=by
 obtain ⟨ps,e,ho,hp⟩:=h;exact ⟨ps,e,own_below ho g,fun p q=>K.below (hp p q) (g.mono hB)⟩
theorem OwnK.more (h:OwnK K w base B v Ls) (g:B<=B'):OwnK K w base B' v Ls:=by
 obtain ⟨ps,e,ho,hp⟩:=h;exact ⟨ps,e,ho,fun p q=>K.more (hp p q) g⟩
theorem OwnK.row (h:OwnK K w base B v Ls) (hB:B<=w.heap.size):∃ s:SlV,v=s.v/\RwK K w w.heap.size s Ls:=by
 obtain ⟨ps,rfl,ho,hp⟩:=h;rcases ho.2 with ⟨rfl,h0⟩ | ⟨g,cap,cur,rfl,hg,hh,h1,h2,h3,h4⟩
 ·exact ⟨nilS,rfl,Nat.le_refl _,Nat.zero_le _,by simpa using h0,fun q=>absurd q (by simp)⟩
 refine ⟨⟨some ⟨g,0,none⟩,ps.length,cap⟩,rfl,h1,h2,by simp,fun hm=>⟨g,0,rfl,(ho.lt g rfl).2,fun i L hL=>?_⟩⟩;rw [List.getElem?_map,Option.map_eq_some_iff] at hL;obtain ⟨p,hp',rfl⟩:=hL;refine ⟨p.1,K.more (hp p (List.mem_of_getElem? hp')) hB,fun j u hu=>?_⟩;have hj:j<K.k:=by rw [<-K.len p.1 p.2];exact (Array.getElem?_eq_some_iff.1 hu).1
 have:=ho.cells (g:=g) rfl (i*K.k+j) u (by
  rw [kCells_at ps i j p hp' hj];rw [<-Array.getElem?_toList] at hu;exact hu)
 rw [Addr.add_lit,<-Nat.add_assoc] at this;exact this
theorem OwnK.rowS (h:OwnK K w base B s.v Ls) (hB:B<=w.heap.size):RwK K w w.heap.size s Ls:=by
 obtain ⟨r,e,hr⟩:=h.row hB;rw [SlV.v_inj e];exact hr
theorem OwnK.addr (h:OwnK K w base B s.v Ls) {i:Nat} (hi:i<Ls.length):∃ g,s.A=some ⟨g,0,none⟩/\base<=g/\g<w.heap.size:=by
 obtain ⟨ps,rfl,ho,hp⟩:=h;rcases ho.2 with ⟨e,h0⟩ | ⟨g,cap,cur,e,hg,hh,h1,h2,h3,h4⟩
 ·rw [List.length_map] at hi;omega
 have e2:s=⟨some ⟨g,0,none⟩,ps.length,cap⟩:=SlV.v_inj e;subst e2;exact ⟨g,rfl,hg,(ho.lt g rfl).2⟩
theorem append_ks (w:World) (base B:Nat) (v:Value) (Ls Ms:List K.L) (s:SlV) (hown:OwnK K w base B v Ls) (hS:SrcK K w B s Ms) (hBb:B<=base) (hb:Ls.length+Ms.length<=1000000) (hbase:base<=w.heap.size) :
  ∃ v' w',(Builtin.append_ #[K.ts,K.ts] K.ts #[v,s.v]).run prog w=.ok v' w'/\OwnK K w' base B v' (Ls++Ms)/\Below base w w':=by
 obtain ⟨i0,hi0,hz0,hz1,hz2⟩:=info_parts K.hi;obtain ⟨ps,rfl,ho,hp⟩:=hown;obtain ⟨qs,rfl,hl,hmc,hcm,hq,hA,hc⟩:=hS;rw [List.length_map,List.length_map] at hb;by_cases h0:s.m=0/\s.A=none
 ·have hy:qs=[]:=List.eq_nil_of_length_eq_zero (by omega);subst hy;refine ⟨v,w,?_,⟨ps,by simp,ho,hp⟩,Below.refl _ _⟩;obtain ⟨A,m,c⟩:=s;obtain ⟨rfl,rfl⟩:=h0;rcases ho.2 with ⟨rfl,_⟩ | ⟨g,cap,cur,rfl,_,_,hnc,_⟩
  ·simp [Builtin.append_,run_underlying K.hu,sizeOf,typeInfo,hi0,Builtin.lenOf,Builtin.firstCells]
  simp [Builtin.append_,run_underlying K.hu,sizeOf,typeInfo,hi0,Builtin.lenOf,Builtin.firstCells,hnc,storeCells]
 have hA2:∃ ad,s.A=some ad:=by
  by_cases hm0:s.m=0
  ·cases hq:s.A with
   | none=>exact absurd ⟨hm0,hq⟩ h0
   | some ad=>exact ⟨ad,rfl⟩
  exact hA (by omega)
 obtain ⟨ad,hA2⟩:=hA2;have hcc:=hc ad hA2;obtain ⟨A,m,c⟩:=s;simp only at hA2 hl hcc;subst hA2;have hbb:=K.hb;have h48:(ps.length+m)*K.byt<=1000000000:=Nat.mul_le_mul (by omega:ps.length+m<=1000000) hbb.1;obtain ⟨v',w',hrun,h1,h2,_,h3⟩:=run_append_own_at (P:=prog) w base K.ts K.ts K.ty i0 _ K.k K.byt K.hu hi0 hz0 hz1 hz2 (K.len _ _) K.pos v _ _ ho ad m c (kCells qs) (by rw [kCells_len,hl]) hcc (kCells_one qs) (by unfold maxLen;omega) (by omega) hbase;have hbel:Below base w w':=(Below.refl _ _).grown h2 hbase (fun k hk=>(ho.lt k hk).1);refine ⟨v',w',hrun,⟨ps++qs,by simp,?_,fun p hpq=>?_⟩,hbel⟩
 ·rw [kCells_app,List.length_append,hl];exact h1
 rcases List.mem_append.1 hpq with h | h
 ·exact K.below (hp p h) (hbel.mono hBb)
 exact K.below (hq p h) (hbel.mono hBb)
theorem own_klit {ps:List (KP K)} (hb:base<=w.heap.size) (hm:ps.length<=maxLen) (hp:∀ p∈ps,K.is w B p.1 p.2) (hB:B<=w.heap.size):OwnK K (w.alloc (.cells (kCells ps).toArray K.ty)) base B (⟨some ⟨w.heap.size,0,none⟩,ps.length,ps.length⟩:SlV).v (ps.map (·.2)) :=
 ⟨ps,rfl,by
  have:=World.ownsRow_lit (base:=base) (e:=K.ty) (size:=K.k) w (kCells ps).toArray ps.length hb hm (by simp [kCells_len]);simpa using this,fun p h=>K.below (hp p h) (((Below.refl _ _).alloc Lr _).mono hB)⟩
theorem made_ks (k:Nat):madeCells (K.cs K.zv K.zl) (k*K.k)=(kCells (K:=K) (List.replicate k (K.zv,K.zl))).toArray:=by
 refine Array.toList_inj.1 (List.ext_getElem (by rw [Array.length_toList,size_madeCells,List.toList_toArray,kCells_len,List.length_replicate]) fun j h1 h2=>?_);simp only [] at h2 ⊢;rw [kCells_len,List.length_replicate] at h2;obtain ⟨hi,hr,he⟩:=k_div K.pos h2;have h3:=kCells_at (K:=K) (List.replicate k (K.zv,K.zl)) (j / K.k) (j % K.k) (K.zv,K.zl) (by rw [List.getElem?_replicate,if_pos hi]) hr;rw [he,List.getElem?_eq_getElem (by rw [kCells_len,List.length_replicate];exact h2)] at h3;have h4:j % K.k<(kc (K:=K) (K.zv,K.zl)).length:=by rw [kc_len];exact hr
 rw [List.getElem?_eq_getElem h4] at h3;rw [Option.some.inj h3];simp only [madeCells,Array.getElem_toList,Array.getElem_map,Array.getElem_range,kc];rw [K.len,getElem!_pos _ _ (by rw [K.len];exact hr)]
end
section
variable {K:Kd} {ops:Array Oper} {Q:Exit->Act->World->Prop} {n d:Nat} {E:Env} {o:Oper} {rest:List Oper} {w w0:World} {v:Value} {x y z q:Operand} {t t':TypeId} {B base:Nat} {s:SlV} {Ls Ms:List K.L}
theorem run_cutK {A:Option Addr} (n c l k m:Nat) (lo hi mx:Option Value) (hb:(Instr.sliceBounds true n c lo hi mx).run prog w=.ok (l,k,m) w) :
  (Instr.sliceAt K.ts (.slice A n c) lo hi mx).run prog w=.ok (.slice (cutK' K.k A l m) (k-l) (m-l)) w:=by
 obtain ⟨i0,hi0,hz0,hz1,hz2⟩:=info_parts K.hi;simp [Instr.sliceAt,Instr.slice,run_underlying K.hu,hb,sizeOf,typeInfo,hi0,hz1,cutK']
theorem y_cutK_h (K:Kd) (k:Nat) {hi:Int} (e:hi=k) (h:k<=s.c) (ho:o.op=.slice K.ts x none (some z) none:=by rfl) (hx:val E x=some s.v:=by rfl) (hz:val E z=some (nv hi):=by rfl):Yields prog E o w (⟨cutK' K.k s.A 0 s.c,k-0,s.c-0⟩:SlV).v:=fun n a ha=>.inl (by
 subst e;unfold execOp;rw [ho];simp only [ha.eval hx,Option.map_some,Option.map_none,ha.eval hz];rw [Sem.run_bind,run_cutK s.m s.c 0 k s.c none (some (nv k)) none (by simp [Instr.sliceBounds,run_sliceBound,show (k:Int)<=s.c by omega])];rfl)
theorem y_cutK_l (K:Kd) (k:Nat) {lo:Int} (e:lo=k) (h:k<=s.m) (h':s.m<=s.c) (ho:o.op=.slice K.ts x (some z) none none:=by rfl) (hx:val E x=some s.v:=by rfl) (hz:val E z=some (nv lo):=by rfl):Yields prog E o w (⟨cutK' K.k s.A k s.c,s.m-k,s.c-k⟩:SlV).v:=fun n a ha=>.inl (by
 subst e;unfold execOp;rw [ho];simp only [ha.eval hx,Option.map_some,Option.map_none,ha.eval hz];rw [Sem.run_bind,run_cutK s.m s.c k s.m s.c (some (nv k)) none none (by simp [Instr.sliceBounds,run_sliceBound,show (k:Int)<=s.m by omega])];rfl)
theorem lg_bs1K (K:Kd) {l:K.V} {L:K.L} (hl:K.is w B l L) (hB:B<=w.heap.size) (hw:Want ops E o true) (ho:o.op=.buildSlice K.ts 1 #[(0,x)]) (hx:val E x=some (.agg (K.cs l L))) (hf:Instr.fill (fun i=>some (i*K.k,K.k)) ((Array.range K.k).map (fun k=>(Value.agg (K.cs K.zv K.zl)).cells[k % (Value.agg (K.cs K.zv K.zl)).cells.size]!)) [(0,.agg (K.cs l L))]=some (K.cs l L)) (hd:o.dst=some d) (hn:d<n)
  (h:∀ (s:SlV) w',s.m=1->s.c=1->OwnK K w' w.heap.size B s.v [L]->Bw w w'->LG prog ops Q n ((d,s.v)::E) rest w'):LG prog ops Q n E (o::rest) w:=by
 have hO:=own_klit (K:=K) (w:=w) (base:=w.heap.size) (B:=B) (ps:=[(l,L)]) Lr (by show 1<=maxLen;unfold maxLen;omega) (fun p q=>by rw [List.mem_singleton.1 q];exact hl) hB;have e:(kCells (K:=K) [(l,L)]).toArray=K.cs l L:=by simp [kCells,kc]
 rw [e] at hO;refine lg_do hw (fun n a ha=>?_) hd hn (h ⟨some ⟨w.heap.size,0,none⟩,1,1⟩ _ rfl rfl hO ((Below.refl _ _).alloc Lr _));obtain ⟨i0,hi0,hz0,hz1,hz2⟩:=info_parts K.hi;have hp:=K.pos;have hk:=K.hb.2;have h16:¬16777216<K.k:=by omega
 have h00:¬K.k=0:=by omega
 simp [h16,h00,execOp,ho,Instr.buildSlice,ha.eval hx,run_underlying K.hu,sizeOf,typeInfo,hi0,hz1,zeroValue,hz0,hf,newRow]
end
/- MdBase:
  Operations, trees that are kept, states, answers: in memory.
-/
abbrev I64 (k:Int):Prop:=-9223372036854775808<=k/\k<9223372036854775808
structure OoV where
 lf:LfV
 keys:SlV
 b:SlV
structure Oo where
 what:Int
 i:Int
 lf:Lf
 keys:List (List Int)
 b:List Int
 old:Int
abbrev OoV.cs (l:OoV) (L:Oo):Array Value:=#[nv L.what,nv L.i,l.lf.enc.v,l.lf.cred.v,nv L.lf.src,l.lf.par.v,l.keys.v,l.b.v,nv L.old]
structure IsOo (w:World) (B:Nat) (l:OoV) (L:Oo):Prop where
 lf:IsLf w B l.lf L.lf
 keys:RwOc w B l.keys L.keys
 b:Sl w B l.b L.b
 rng:I64 L.what
section
variable {w w':World} {B B':Nat} {l:OoV} {L:Oo}
theorem IsOo.below (h:IsOo w B l L) (b:Below B w w'):IsOo w' B l L:=⟨h.lf.below b,h.keys.below b,h.b.below b,h.rng⟩
theorem IsOo.more (h:IsOo w B l L) (b:B<=B'):IsOo w B' l L:=⟨h.lf.more b,h.keys.more b,h.b.more b,h.rng⟩
abbrev OoV.zero:OoV:=⟨⟨nilS,nilS,nilS⟩,nilS,nilS⟩
abbrev Oo.zero:Oo:=⟨0,0,⟨[],[],0,[]⟩,[],[],0⟩
theorem IsOo.zero (w:World) (B:Nat):IsOo w B OoV.zero Oo.zero:=⟨IsLf.zero _ _,RwOc.nil _ _,Sl.nil _ _,by decide⟩
end
def RwOo (w:World) (B:Nat) (s:SlV) (Ls:List Oo):Prop:=s.m<=s.c/\s.c<=maxLen/\Ls.length=s.m /\
 (0<s.m->∃ b o,s.A=some ⟨b,o,none⟩/\b<B/\∀ i L,Ls[i]?=some L->∃ l:OoV,IsOo w B l L/\∀ j u,(l.cs L)[j]?=some u->w.cell? ⟨b,o+i*9+j,none⟩=some u)
theorem RwOo.below {w w':World} {B:Nat} {s:SlV} {Ls:List Oo} (h:RwOo w B s Ls) (g:Below B w w'):RwOo w' B s Ls:=by
 refine ⟨h.1,h.2.1,h.2.2.1,fun hm=>?_⟩;obtain ⟨b,o,e,hB,hc⟩:=h.2.2.2 hm;refine ⟨b,o,e,hB,fun i L hL=>?_⟩;obtain ⟨l,hl,hj⟩:=hc i L hL;exact ⟨l,hl.below g,fun j u hu=>(g.cell (p:=⟨b,o+i*9+j,none⟩) hB).trans (hj j u hu)⟩
theorem RwOo.more {w:World} {B B':Nat} {s:SlV} {Ls:List Oo} (h:RwOo w B s Ls) (g:B<=B'):RwOo w B' s Ls:=by
 refine ⟨h.1,h.2.1,h.2.2.1,fun hm=>?_⟩;obtain ⟨b,o,e,hB,hc⟩:=h.2.2.2 hm;refine ⟨b,o,e,by omega,fun i L hL=>?_⟩;obtain ⟨l,hl,hj⟩:=hc i L hL;exact ⟨l,hl.more g,hj⟩
theorem RwOo.len {w:World} {B:Nat} {s:SlV} {Ls:List Oo} (h:RwOo w B s Ls):Ls.length=s.m:=h.2.2.1
theorem RwOo.at {w:World} {B:Nat} {s:SlV} {Ls:List Oo} (h:RwOo w B s Ls) (i:Nat) (hi:i<s.m):∃ (b o:Nat) (l:OoV) (L:Oo),s.A=some ⟨b,o,none⟩/\b<B/\Ls[i]?=some L/\IsOo w B l L/\∀ j u,(l.cs L)[j]?=some u->w.cell? ⟨b,o+i*9+j,none⟩=some u:=by
 obtain ⟨b,o,e,hB,hc⟩:=h.2.2.2 (by omega);have hl:i<Ls.length:=by rw [h.len];exact hi
 obtain ⟨l,h1,h2⟩:=hc i Ls[i] (List.getElem?_eq_getElem hl);exact ⟨b,o,l,Ls[i],e,hB,List.getElem?_eq_getElem hl,h1,h2⟩
theorem RwOo.nil (w:World) (B:Nat):RwOo w B nilS []:=⟨Nat.le_refl _,Nat.zero_le _,rfl,fun q=>absurd q (by simp)⟩
theorem RwOo.cap {w:World} {B:Nat} {s:SlV} {Ls:List Oo} (h:RwOo w B s Ls):s.m<=s.c/\s.c<=9223372036854775807:=⟨h.1,by have:=h.2.1;unfold maxLen at this;omega⟩
structure KpV where
 t:SlV
structure Kp where
 id:Int
 t:List Nd
abbrev KpV.cs (l:KpV) (L:Kp):Array Value:=#[nv L.id,l.t.v]
structure IsKp [Lo] (w:World) (B:Nat) (l:KpV) (L:Kp):Prop where
 t:RwNd w B l.t L.t
section
variable {w w':World} {B B':Nat} {l:KpV} {L:Kp}
theorem IsKp.below [Lo] (h:IsKp w B l L) (b:Below B w w'):IsKp w' B l L:=⟨h.t.below b⟩
theorem IsKp.more [Lo] (h:IsKp w B l L) (b:B<=B'):IsKp w B' l L:=⟨h.t.more b⟩
abbrev KpV.zero:KpV:=⟨nilS⟩
abbrev Kp.zero:Kp:=⟨0,[]⟩
theorem IsKp.zero [Lo] (w:World) (B:Nat):IsKp w B KpV.zero Kp.zero:=⟨RwNd.nil _ _⟩
end
def TyK [Lo] (w:World) (s:SlV):Prop:=0<s.m->∀ p,s.A=some p->p.block<lowB\/∃ cs,w.heap[p.block]?=some (.cells cs 56 (0,0))
abbrev kKp [Lo] [Lo]:Kd:=⟨KpV,Kp,2,KpV.cs,IsKp,56,23,32,KpV.zero,Kp.zero,by decide,fun _ _=>rfl,fun _ _=>rfl,IsKp.below,IsKp.more,IsKp.zero,by kernel_rfl,by kernel_rfl,by decide⟩
def RwKp [Lo] (w:World) (B:Nat) (s:SlV) (Ls:List Kp):Prop:=RwK kKp w B s Ls/\TyK w s
section
variable {w w':World} {B B' base:Nat} {s:SlV} {Ls Ms:List Kp}
theorem RwKp.len [Lo] (h:RwKp w B s Ls):Ls.length=s.m:=h.1.len
theorem RwKp.cap [Lo] (h:RwKp w B s Ls):s.m<=s.c/\s.c<=9223372036854775807:=h.1.cap
theorem RwKp.more [Lo] (h:RwKp w B s Ls) (b:B<=B'):RwKp w B' s Ls:=⟨h.1.more b,h.2⟩
theorem RwKp.cast [Lo] (h:RwKp w B s Ls) (e:Ls=Ms):RwKp w B s Ms:=e▸h
theorem RwKp.nil [Lo] (w:World) (B:Nat):RwKp w B nilS []:=⟨RwK.nil _ _ _,fun h=>absurd h (Nat.lt_irrefl 0)⟩
theorem RwKp.at [Lo] (h:RwKp w B s Ls) (i:Nat) (hi:i<s.m):∃ (b o:Nat) (l:KpV) (L:Kp),s.A=some ⟨b,o,none⟩/\b<B/\Ls[i]?=some L/\IsKp w B l L/\∀ j u,(l.cs L)[j]?=some u->w.cell? ⟨b,o+i*2+j,none⟩=some u:=h.1.at i hi
theorem RwKp.below [Lo] (h:RwKp w B s Ls) (g:Below B w w'):RwKp w' B s Ls:=⟨h.1.below g,fun hm p hp=>(h.2 hm p hp).imp (fun q=>q) fun ⟨cs,q⟩=>⟨cs,(g.block _ (by
 obtain ⟨b,o,e,hB,_⟩:=h.1.2.2.2 hm;rw [Option.some.inj (hp.symm.trans e)];exact hB)).trans q⟩⟩
theorem RwKp.cut [Lo] (h:RwKp w B s Ls) (l k m:Nat) (h1:l<=k) (h2:k<=s.m) (h3:k<=m) (h4:m<=s.c):RwKp w B ⟨cutK' 2 s.A l m,k-l,m-l⟩ ((Ls.take k).drop l):=⟨RwK.cut (K:=kKp) h.1 l k m h1 h2 h3 h4,fun hm p hp=>by
 have hm:0<k-l:=hm;have hp:cutK' 2 s.A l m=some p:=hp;obtain ⟨b,o,e,hB,_⟩:=h.1.2.2.2 (by omega);have q:=h.2 (by omega) _ e;have e2:p.block=b:=by
  rw [e] at hp;unfold cutK' at hp;split at hp
  ·cases hp;rfl
  cases hp;simp only [Addr.add];split<;>rfl
 rw [e2];exact q⟩
theorem OwnK.kp [Lo] {v:Value} (h:OwnK kKp w base B v Ls) (hB:B<=w.heap.size):∃ s:SlV,v=s.v/\RwKp w w.heap.size s Ls:=by
 obtain ⟨s,e,r⟩:=h.row hB;obtain ⟨ps,rfl,ho,hp⟩:=h;refine ⟨s,e,r,fun hm p hp=>?_⟩;rcases ho.2 with ⟨e2,_⟩ | ⟨g,cap,cur,e2,hg,hh,h1,h2,h3,h4⟩
 ·rw [e2] at e;have e3:(⟨none,0,0⟩:SlV)=s:=SlV.v_inj e;subst e3;exact absurd hm (Nat.lt_irrefl 0)
 rw [e2] at e;have e3:(⟨some ⟨g,0,none⟩,ps.length,cap⟩:SlV)=s:=SlV.v_inj e;subst e3;obtain rfl:p=⟨g,0,none⟩:=(Option.some.inj hp).symm;exact .inr ⟨cur,hh⟩
theorem OwnK.kpS [Lo] (h:OwnK kKp w base B s.v Ls) (hB:B<=w.heap.size):RwKp w w.heap.size s Ls:=by
 obtain ⟨r,e,q⟩:=h.kp hB;rw [SlV.v_inj e];exact q
end
structure SaV where
 t:SlV
 kept:SlV
structure Sa where
 t:List Nd
 kept:List Kp
 next:Int
abbrev SaV.cs (l:SaV) (L:Sa):Array Value:=#[l.t.v,l.kept.v,nv L.next]
structure IsSa [Lo] (w:World) (B:Nat) (l:SaV) (L:Sa):Prop where
 t:RwNd w B l.t L.t
 kept:RwKp w B l.kept L.kept
section
variable {w w':World} {B B':Nat} {l:SaV} {L:Sa}
theorem IsSa.below [Lo] (h:IsSa w B l L) (b:Below B w w'):IsSa w' B l L:=⟨h.t.below b,h.kept.below b⟩
theorem IsSa.more [Lo] (h:IsSa w B l L) (b:B<=B'):IsSa w B' l L:=⟨h.t.more b,h.kept.more b⟩
abbrev SaV.zero:SaV:=⟨nilS,nilS⟩
abbrev Sa.zero:Sa:=⟨[],[],0⟩
theorem IsSa.zero [Lo] (w:World) (B:Nat):IsSa w B SaV.zero Sa.zero:=⟨RwNd.nil _ _,RwKp.nil _ _⟩
end
structure AnV where
 ns:SlV
 b:SlV
structure An where
 e:Int
 n:Int
 ns:List Int
 b:List Int
 is:Bool
abbrev AnV.cs (l:AnV) (L:An):Array Value:=#[nv L.e,nv L.n,l.ns.v,l.b.v,.bool L.is]
structure IsAn [Lo] (w:World) (B:Nat) (l:AnV) (L:An):Prop where
 ns:SlN w B l.ns L.ns
 b:Sl w B l.b L.b
section
variable {w w':World} {B B':Nat} {l:AnV} {L:An}
theorem IsAn.below [Lo] (h:IsAn w B l L) (b:Below B w w'):IsAn w' B l L:=⟨h.ns.below b,h.b.below b⟩
theorem IsAn.more [Lo] (h:IsAn w B l L) (b:B<=B'):IsAn w B' l L:=⟨h.ns.more b,h.b.more b⟩
abbrev AnV.zero:AnV:=⟨nilS,nilS⟩
abbrev An.zero:An:=⟨0,0,[],[],false⟩
theorem IsAn.zero [Lo] (w:World) (B:Nat):IsAn w B AnV.zero An.zero:=⟨SlN.nil _ _,Sl.nil _ _⟩
def AnV.fresh (a:Nat) (l:AnV):Prop:=Fr a l.ns
end
def RwAn [Lo] (w:World) (B:Nat) (s:SlV) (Ls:List An):Prop:=s.m<=s.c/\s.c<=maxLen/\Ls.length=s.m /\
 (0<s.m->∃ b o,s.A=some ⟨b,o,none⟩/\b<B/\∀ i L,Ls[i]?=some L->∃ l:AnV,IsAn w B l L/\∀ j u,(l.cs L)[j]?=some u->w.cell? ⟨b,o+i*5+j,none⟩=some u)
theorem RwAn.below [Lo] {w w':World} {B:Nat} {s:SlV} {Ls:List An} (h:RwAn w B s Ls) (g:Below B w w'):RwAn w' B s Ls:=by
 refine ⟨h.1,h.2.1,h.2.2.1,fun hm=>?_⟩;obtain ⟨b,o,e,hB,hc⟩:=h.2.2.2 hm;refine ⟨b,o,e,hB,fun i L hL=>?_⟩;obtain ⟨l,hl,hj⟩:=hc i L hL;exact ⟨l,hl.below g,fun j u hu=>(g.cell (p:=⟨b,o+i*5+j,none⟩) hB).trans (hj j u hu)⟩
theorem RwAn.more [Lo] {w:World} {B B':Nat} {s:SlV} {Ls:List An} (h:RwAn w B s Ls) (g:B<=B'):RwAn w B' s Ls:=by
 refine ⟨h.1,h.2.1,h.2.2.1,fun hm=>?_⟩;obtain ⟨b,o,e,hB,hc⟩:=h.2.2.2 hm;refine ⟨b,o,e,by omega,fun i L hL=>?_⟩;obtain ⟨l,hl,hj⟩:=hc i L hL;exact ⟨l,hl.more g,hj⟩
theorem RwAn.len [Lo] {w:World} {B:Nat} {s:SlV} {Ls:List An} (h:RwAn w B s Ls):Ls.length=s.m:=h.2.2.1
theorem RwAn.at [Lo] {w:World} {B:Nat} {s:SlV} {Ls:List An} (h:RwAn w B s Ls) (i:Nat) (hi:i<s.m):∃ (b o:Nat) (l:AnV) (L:An),s.A=some ⟨b,o,none⟩/\b<B/\Ls[i]?=some L/\IsAn w B l L/\∀ j u,(l.cs L)[j]?=some u->w.cell? ⟨b,o+i*5+j,none⟩=some u:=by
 obtain ⟨b,o,e,hB,hc⟩:=h.2.2.2 (by omega);have hl:i<Ls.length:=by rw [h.len];exact hi
 obtain ⟨l,h1,h2⟩:=hc i Ls[i] (List.getElem?_eq_getElem hl);exact ⟨b,o,l,Ls[i],e,hB,List.getElem?_eq_getElem hl,h1,h2⟩
theorem RwAn.nil [Lo] (w:World) (B:Nat):RwAn w B nilS []:=⟨Nat.le_refl _,Nat.zero_le _,rfl,fun q=>absurd q (by simp)⟩
theorem RwAn.cap [Lo] {w:World} {B:Nat} {s:SlV} {Ls:List An} (h:RwAn w B s Ls):s.m<=s.c/\s.c<=9223372036854775807:=⟨h.1,by have:=h.2.1;unfold maxLen at this;omega⟩
section
variable {w:World} {B:Nat} {s:SlV}
theorem IsOo.mW {l:OoV} {L:Oo} (h:IsOo w B l L) (q:World) (b:B<=q.heap.size:=by omega):IsOo w q.heap.size l L:=h.more b
theorem RwOo.mW {Ls:List Oo} (h:RwOo w B s Ls) (q:World) (b:B<=q.heap.size:=by omega):RwOo w q.heap.size s Ls:=h.more b
theorem IsKp.mW [Lo] {l:KpV} {L:Kp} (h:IsKp w B l L) (q:World) (b:B<=q.heap.size:=by omega):IsKp w q.heap.size l L:=h.more b
theorem RwKp.mW [Lo] {Ls:List Kp} (h:RwKp w B s Ls) (q:World) (b:B<=q.heap.size:=by omega):RwKp w q.heap.size s Ls:=h.more b
theorem IsSa.mW [Lo] {l:SaV} {L:Sa} (h:IsSa w B l L) (q:World) (b:B<=q.heap.size:=by omega):IsSa w q.heap.size l L:=h.more b
theorem IsAn.mW [Lo] {l:AnV} {L:An} (h:IsAn w B l L) (q:World) (b:B<=q.heap.size:=by omega):IsAn w q.heap.size l L:=h.more b
theorem RwAn.mW [Lo] {Ls:List An} (h:RwAn w B s Ls) (q:World) (b:B<=q.heap.size:=by omega):RwAn w q.heap.size s Ls:=h.more b
end
def slcA (old:Array Value) (i:Nat):Bool:=match old[i]? with | some (.slice _ _ _)=>true | _=>false
def bx (t:TypeId) (old:Array Value):Bool:=!(t == 3) && !(t == 56) && old.toList.all noU8 && (List.range old.size).all fun i=>!(slcA old i && slcA old (i+1) && slcA old (i+2) && slcA old (i+3))
section
variable {w w':World} {B c:Nat} {s:SlV} {old new:Array Value} {t t':TypeId}
theorem bx_ok (h:bx t old=true):t≠3/\t≠56/\old.toList.all noU8=true/\∀ i,slcA old i=true->slcA old (i+1)=true->slcA old (i+2)=true->slcA old (i+3)=true->False:=by
 unfold bx at h;simp only [Bool.and_eq_true,Bool.not_eq_true',beq_eq_false_iff_ne] at h;refine ⟨h.1.1.1,h.1.1.2,h.1.2,fun i h0 h1 h2 h3=>?_⟩;have hi:i<old.size:=by
  unfold slcA at h0;split at h0
  ·rename_i q
   exact (Array.getElem?_eq_some_iff.1 q).1
  cases h0
 have:=List.all_eq_true.1 h.2 i (List.mem_range.2 hi);rw [h0,h1,h2,h3] at this;cases this
theorem SlN.bx [Lo] {xs:List Int} (h:SlN w B s xs) (r:RowAt w c t old) (ok:bx t old=true) (hc:lowB<=c) (st:Set1 w w' c t' new):SlN w' B s xs:=h.box r (bx_ok ok).1 hc st
theorem Sl.bx {xs:List Int} (h:Sl w B s xs) (r:RowAt w c t old) (ok:bx t old=true) (st:Set1 w w' c t' new):Sl w' B s xs:=h.set r (bx_ok ok).2.2.1 st
theorem IsLf.bx {l:LfV} {L:Lf} (h:IsLf w B l L) (r:RowAt w c t old) (ok:bx t old=true) (st:Set1 w w' c t' new):IsLf w' B l L:=⟨h.enc.bx r ok st,h.cred.bx r ok st,h.par.bx r ok st⟩
theorem IsNd.bx [Lo] {l:NdV} {L:Nd} (h:IsNd w B l L) (r:RowAt w c t old) (ok:bx t old=true) (hc:lowB<=c) (st:Set1 w w' c t' new):IsNd w' B l L:=⟨h.leaf.bx r ok st,⟨h.inner.enc.bx r ok st,h.inner.hash.bx r ok st,h.inner.unm.bx r ok hc st⟩⟩
theorem RwNd.bx [Lo] {Ls:List Nd} (h:RwNd w B s Ls) (r:RowAt w c t old) (ok:bx t old=true) (hc:lowB<=c) (st:Set1 w w' c t' new):RwNd w' B s Ls:=by
 refine ⟨h.1,h.2.1,h.2.2.1,fun hm=>?_⟩;obtain ⟨b,o,e,hB,hj⟩:=h.2.2.2 hm;have hne:b≠c:=by
  rintro rfl;have hl:0<Ls.length:=by rw [h.len];exact hm
  obtain ⟨l,_,h1⟩:=hj 0 Ls[0] (List.getElem?_eq_getElem hl);have h4:=h1 4 l.leaf.par.v rfl;have h5:=h1 5 l.inner.enc.v rfl;have h6:=h1 6 l.inner.hash.v rfl;have h7:=h1 7 l.inner.unm.v rfl;rw [cell_of_row w b _ old t _ r,Nat.zero_mul,Nat.add_zero] at h4 h5 h6 h7;exact (bx_ok ok).2.2.2 (o+4) (by unfold slcA;rw [h4]) (by unfold slcA;rw [show o+4+1=o+5 from rfl,h5]) (by unfold slcA;rw [show o+4+2=o+6 from rfl,h6]) (by unfold slcA;rw [show o+4+3=o+7 from rfl,h7])
 refine ⟨b,o,e,hB,fun i L hL=>?_⟩;obtain ⟨l,hl,h1⟩:=hj i L hL;refine ⟨l,hl.bx r ok hc st,fun j u hu=>?_⟩;rw [<-h1 j u hu];unfold World.cell?;rw [st.other b hne]
theorem RwKp.bx [Lo] {Ls:List Kp} (h:RwKp w B s Ls) (r:RowAt w c t old) (ok:bx t old=true) (hc:lowB<=c) (st:Set1 w w' c t' new):RwKp w' B s Ls:=by
 have hne:0<s.m->∀ p,s.A=some p->p.block≠c:=fun hm p hp e=>(h.2 hm p hp).elim (fun q=>by omega) fun ⟨cs,q⟩=>by
  unfold RowAt at r;rw [e,r] at q;simp only [Option.some.injEq,Obj.cells.injEq] at q;exact (bx_ok ok).2.1 q.2.1
 refine ⟨⟨h.1.1,h.1.2.1,h.1.2.2.1,fun hm=>?_⟩,fun hm p hp=>(h.2 hm p hp).imp (fun q=>q) fun ⟨cs,q⟩=>⟨cs,(st.other _ (hne hm p hp)).trans q⟩⟩;obtain ⟨b,o,e,hB,hj⟩:=h.1.2.2.2 hm;refine ⟨b,o,e,hB,fun i L hL=>?_⟩;obtain ⟨l,hl,h1⟩:=hj i L hL;refine ⟨l,⟨hl.t.bx r ok hc st⟩,fun j u hu=>?_⟩;rw [<-h1 j u hu];unfold World.cell?;rw [st.other b (hne hm _ e)]
theorem IsSa.bx [Lo] {l:SaV} {L:Sa} (h:IsSa w B l L) (r:RowAt w c t old) (ok:bx t old=true) (hc:lowB<=c) (st:Set1 w w' c t' new):IsSa w' B l L:=⟨h.t.bx r ok hc st,h.kept.bx r ok hc st⟩
theorem IsAn.bx [Lo] {l:AnV} {L:An} (h:IsAn w B l L) (r:RowAt w c t old) (ok:bx t old=true) (hc:lowB<=c) (st:Set1 w w' c t' new):IsAn w' B l L:=⟨h.ns.bx r ok hc st,h.b.bx r ok st⟩
end
/- MdWk:
  Maps of functions by whole numbers; rows of trees that are kept, of answers and of operations; rules.
-/
theorem oo_sub {w:World} {b j:Nat} {l:OoV} {L:Oo} (hc:∀ k u,(l.cs L)[k]?=some u->w.cell? ⟨b,j+k,none⟩=some u):∀ k u,(l.lf.cs L.lf)[k]?=some u->w.cell? ⟨b,j+2+k,none⟩=some u:=fun k u e=>by
 have hk:k<4:=(Array.getElem?_eq_some_iff.1 e).1;rw [Nat.add_assoc];refine hc (2+k) u ?_
 match k,hk with
 | 0,_=>exact e
 | 1,_=>exact e
 | 2,_=>exact e
 | 3,_=>exact e
def FMap (w:World) (b:Nat) (l:List (Int × FuncId)):Prop:=∃ es clock,w.heap[b]?=some (.map es clock)/\es.toList.map (fun e=>(e.key,e.val))=l.map fun p=>(nv p.1,fnv (some p.2))

theorem keyW {k:Int} (h:I64 k):keyOf prog 3 (nv k)=some (.int .i64 k):=Maps.keyOf_int_mk huInt (by
 have:=h.1;have:=h.2;simp [Lit.wf,IntKind.min,IntKind.max,IntKind.signed,IntKind.bits];omega)
section
variable {w w':World} {b:Nat} {l:List (Int × FuncId)} {ty el:TypeId}
theorem FMap.lt (h:FMap w b l):b<w.heap.size:=by
 obtain ⟨es,clock,hb,_⟩:=h;exact (Array.getElem?_eq_some_iff.1 hb).1
theorem FMap.below (h:FMap w b l) (g:Bw w w'):FMap w' b l:=by
 have hl:=h.lt;obtain ⟨es,clock,hb,he⟩:=h;exact ⟨es,clock,(g.block b hl).trans hb,he⟩
theorem FMap.keys {es:Array MapEntry} (hl:∀ p∈l,I64 p.1) (he:es.toList.map (fun e=>(e.key,e.val))=l.map fun p=>(nv p.1,fnv (some p.2))):∀ e∈es.toList,∃ p∈l,e.key=nv p.1/\e.val=fnv (some p.2)/\keyOf prog 3 e.key=some (.int .i64 p.1):=fun e q=>by
 have h1:(e.key,e.val)∈l.map fun p=>(nv p.1,fnv (some p.2)):=he▸List.mem_map_of_mem q;obtain ⟨p,hp,e1⟩:=List.mem_map.1 h1;obtain ⟨e2,e3⟩:=Prod.mk.inj e1;exact ⟨p,hp,e2.symm,e3.symm,by rw [<-e2];exact keyW (hl p hp)⟩
theorem FMap.look (h:FMap w b l) (hl:∀ p∈l,I64 p.1) (hu:prog.underlying ty=some (.map 3 el)) (hz:(prog.info? el).map (·.zero)=some (some .nilFunc)) {x:Int} (hx:I64 x) :
  ((∀ p∈l,p.1≠x)/\(Instr.lookup ty (.map (some b)) (nv x) true).run prog w=.ok (.tuple #[fnv none,.bool false]) w) \/
  ∃ p∈l,p.1=x/\(Instr.lookup ty (.map (some b)) (nv x) true).run prog w=.ok (.tuple #[fnv (some p.2),.bool true]) w:=by
 obtain ⟨es,clock,hb,he⟩:=h;have hk:=keyW hx;have hK:=FMap.keys hl he;have keyI:Maps.Keyed prog 3:=Maps.int_keyed huInt;rcases keyI.find w hk es.toList (fun e q=>by
  obtain ⟨p,_,_,_,h3⟩:=hK e q;exact ⟨_,h3⟩) with ⟨h1,h2⟩ | ⟨j,e0,h1,h2,h3⟩
 ·refine .inl ⟨fun p hp q=>?_,?_⟩
  ·have h3:(nv p.1,fnv (some p.2))∈es.toList.map fun e=>(e.key,e.val):=he▸List.mem_map.2 ⟨p,hp,rfl⟩;obtain ⟨e,he1,he2⟩:=List.mem_map.1 h3;exact h2 e he1 ((Prod.mk.inj he2).1.trans (by rw [q]))
  have hzz:(zeroValue el).run prog w=.ok .nilFunc w:=by
   cases hq:prog.info? el with
   | none=>simp [hq] at hz
   | some it=>simp [hq] at hz;simp [zeroValue,typeInfo,hq,hz]
  simp [Instr.lookup,run_underlying hu,MapKept.run_getObj_map hb,keyI.check w _ hk,h1,Result.andThen,hzz]
 obtain ⟨p,hp,e1,e2,_⟩:=hK e0 (List.mem_of_getElem? h2);rw [h3] at e1;exact .inr ⟨p,hp,by simpa using e1.symm,by simp [Instr.lookup,run_underlying hu,MapKept.run_getObj_map hb,keyI.check w _ hk,h1,Result.andThen,e2]⟩
theorem FMap.put (h:FMap w b l) (hl:∀ p∈l,I64 p.1) (hu:prog.underlying ty=some (.map 3 el)) {x:Int} (hx:I64 x) (f:FuncId) (hn:∀ p∈l,p.1≠x):∃ w',(Instr.mapUpdate ty (.map (some b)) (nv x) (fnv (some f))).run prog w=.ok () w'/\FMap w' b (l++[(x,f)])/\Alt w w' b/\w'.heap.size=w.heap.size:=by
 obtain ⟨es,clock,hb,he⟩:=h;have hk:=keyW hx;have hK:=FMap.keys hl he;have keyI:Maps.Keyed prog 3:=Maps.int_keyed huInt;have alt:∀ o,Alt w (ChangeMaps.setBlock w b o) b:=fun o=>⟨rfl,rfl,rfl,by simp [ChangeMaps.setBlock],fun k _ hk=>ChangeMaps.heap_setBlock_other hb o hk⟩;rcases keyI.find w hk es.toList (fun e q=>by
  obtain ⟨p,_,_,_,h3⟩:=hK e q;exact ⟨_,h3⟩) with ⟨h1,_⟩ | ⟨j,e0,h1,h2,h3⟩
 ·refine ⟨ChangeMaps.setBlock w b (.map (es.push ⟨nv x,fnv (some f),clock⟩) (clock+1)),?_,⟨_,_,ChangeMaps.heap_setBlock_same hb _,?_⟩,alt _,by simp [ChangeMaps.setBlock]⟩
  ·simp [Instr.mapUpdate,run_underlying hu,MapKept.run_getObj_map hb,keyI.check w false hk,h1,MapKept.run_setObj_map _ hb,Result.andThen,ChangeMaps.setBlock]
  rw [Array.toList_push,List.map_append,he,List.map_append];rfl
 obtain ⟨p,hp,e1,_,_⟩:=hK e0 (List.mem_of_getElem? h2);rw [h3] at e1;exact absurd (show p.1=x by simpa using e1.symm) (hn p hp)
end
section
variable {ops:Array Oper} {Q:Exit->Act->World->Prop} {n d:Nat} {E:Env} {o:Oper} {rest:List Oper} {w w':World} {x y z:Operand} {ty el:TypeId} {b:Nat} {l:List (Int × FuncId)} {v:Value} {P:Program}
theorem lg_mkF (hw:Want ops E o true) (ho:o.op=.makeMap ty none) (hd:o.dst=some d) (hn:d<n)
  (h:∀ b w',b=w.heap.size->w'.heap.size=b+1->FMap w' b []->Bw w w'->LG prog ops Q n ((d,.map (some b))::E) rest w'):LG prog ops Q n E (o::rest) w:=by
 refine lg_do hw (fun n a ha=>?_) hd hn (h w.heap.size (w.alloc (.map #[] 0)) rfl (by simp) ⟨#[],0,(MapKept.heap_alloc w _).1,rfl⟩ ((Below.refl _ _).alloc Lr _));have hr:(Instr.makeMap ty none).run prog w=.ok (.map (some w.heap.size)) (w.alloc (.map #[] 0)):=rfl;unfold execOp;rw [ho];simp only [Option.map_none,Sem.run_bind,hr,Result.andThen_ok,Sem.run_pure]
theorem lg_insF {k:Int} {f:FuncId} (mp:FMap w b l) (hl:(∀ p∈l,I64 p.1)/\I64 k/\∀ p∈l,p.1≠k) (hu:prog.underlying ty=some (.map 3 el)) (hw:Want ops E o true) (ho:o.op=.insert ty x y z) (hx:val E x=some (.map (some b))) (hy:val E y=some (nv k)) (hz:val E z=some (fnv (some f))) (hd:o.dst=none)
  (h:∀ w',FMap w' b (l++[(k,f)])->Alt w w' b->w'.heap.size=w.heap.size->LG prog ops Q n E rest w'):LG prog ops Q n E (o::rest) w:=by
 obtain ⟨w',hr,h1,h2,h3⟩:=mp.put hl.1 hu hl.2.1 f hl.2.2;intro a ha;unfold wpList;rw [hw n a ha,if_pos rfl];refine .inl ?_;unfold Oper.wp;have he:(execOp a.eval o).run prog w=.ok .skip w':=by
  unfold execOp;rw [ho];simp only [ha.eval hx,ha.eval hy,ha.eval hz];rw [Sem.run_bind,hr];rfl
 rw [he];show wpList prog ops Q rest (a.put o.dst _) w';rw [hd];exact h w' h1 h2 h3 a ha
theorem eg_ret_agg22 {fn:Func} {p q:Tmp} {ty tr ty' tr':TypeId} {b b':Nat} {cs cs':Array Value} {R:Ending->World->Prop} (h:fn.results=#[.cell p ty,.cell q ty']) (hp:look E p=some (pv b 0)) (hq:look E q=some (pv b' 0)) (hr:RowAt w b tr cs) (hr':RowAt w b' tr' cs')
  (hu:aggB P ty=some true) (hi:(P.info? ty).map (·.size)=some cs.size) (hu':aggB P ty'=some true) (hi':(P.info? ty').map (·.size)=some cs'.size) (hR:R (.returned (.tuple #[.agg cs,.agg cs'])) w):∀ a,Holds n E a->bodyPost P fn R .ret a w :=
 fun a ha=>bodyPost_ret (by
  have h1:=ha.2.2 p _ hp;have h2:=ha.2.2 q _ hq;have e:(asAddr (pv b 0)).run P w=.ok ⟨b,0,none⟩ w:=rfl;have e':(asAddr (pv b' 0)).run P w=.ok ⟨b',0,none⟩ w:=rfl;simp only [results,h];simp [h1,h2,Sem.run_bind,Result.andThen,e,e',run_load_agg hr hu hi,run_load_agg hr' hu' hi']) ha.2.1 hR
end
-- the kinds
abbrev kAn [Lo] [Lo]:Kd:=⟨AnV,An,5,AnV.cs,IsAn,38,46,72,AnV.zero,An.zero,by decide,fun _ _=>rfl,fun _ _=>rfl,IsAn.below,IsAn.more,IsAn.zero,by kernel_rfl,by kernel_rfl,by decide⟩
/- MdMath:
  What a script tells: pure.
-/
def risK:Int->List Kp->Prop
 | _,[]=>True
 | a,k::ks=>a<k.id/\trIs k.t/\risK k.id ks
def lasK:Int->List Kp->Int
 | a,[]=>a
 | _,k::ks=>lasK k.id ks
instance decRis:∀ (a:Int) (ks:List Kp),Decidable (risK a ks)
 | _,[]=>isTrue trivial
 | a,k::ks=>by
  unfold risK;exact @instDecidableAnd _ _ _ (@instDecidableAnd _ _ _ (decRis k.id ks))
def saIs (s:Sa):Prop:=s.kept.length<=8/\s.next<=1099511627776/\trIs s.t/\risK 0 s.kept/\lasK 0 s.kept<=s.next
instance (s:Sa):Decidable (saIs s):=by unfold saIs;infer_instance
def saAs (s:Sa):Sa:=if saIs s then s else Sa.zero
theorem saAs_ok {s:Sa} (h:saIs s):saAs s=s:=if_pos h
theorem saAs_no {s:Sa} (h:¬saIs s):saAs s=Sa.zero:=if_neg h
theorem saIs_zero:saIs Sa.zero:=⟨by decide,by decide,trIs_nil,trivial,by decide⟩
theorem saAs_is (s:Sa):saIs (saAs s):=by
 by_cases h:saIs s
 ·rw [saAs_ok h];exact h
 rw [saAs_no h];exact saIs_zero
theorem risK_step {ks:List Kp} {j:Nat} {k:Kp} {a:Int} (h:ks[j]?=some k):risK a (ks.drop j)↔a<k.id/\trIs k.t/\risK k.id (ks.drop (j+1)):=by
 obtain ⟨hj,rfl⟩:=List.getElem?_eq_some_iff.1 h;rw [List.drop_eq_getElem_cons hj,risK]
theorem lasK_step {ks:List Kp} {j:Nat} {k:Kp} {a:Int} (h:ks[j]?=some k):lasK a (ks.drop j)=lasK k.id (ks.drop (j+1)):=by
 obtain ⟨hj,rfl⟩:=List.getElem?_eq_some_iff.1 h;rw [List.drop_eq_getElem_cons hj,lasK]
def plK (id:Int):List Kp->Nat
 | []=>0
 | k::ks=>if k.id=id then 0 else plK id ks+1
theorem plK_drop {id:Int}:∀ {ks:List Kp} {j:Nat},j<=plK id ks->plK id ks=j+plK id (ks.drop j)
 | ks,0,_=>by simp
 | [],j+1,h=>absurd h (Nat.not_succ_le_zero _)
 | k::ks,j+1,h=>by
  rw [plK] at h ⊢;split at h
  ·omega
  rename_i q
  rw [if_neg q,List.drop_succ_cons];have:=plK_drop (id:=id) (ks:=ks) (j:=j) (by omega);omega
theorem plK_here {id:Int} {ks:List Kp} {j:Nat} {k:Kp} (h:j<=plK id ks) (e:ks[j]?=some k) (q:k.id=id):plK id ks=j:=by
 obtain ⟨hj,rfl⟩:=List.getElem?_eq_some_iff.1 e;rw [plK_drop h,List.drop_eq_getElem_cons hj,plK,if_pos q];rfl
theorem plK_next {id:Int} {ks:List Kp} {j:Nat} {k:Kp} (h:j<=plK id ks) (e:ks[j]?=some k) (q:¬k.id=id):j+1<=plK id ks:=by
 obtain ⟨hj,rfl⟩:=List.getElem?_eq_some_iff.1 e;rw [plK_drop h,List.drop_eq_getElem_cons hj,plK,if_neg q];omega
theorem plK_at {id:Int}:∀ {ks:List Kp},plK id ks<ks.length->∃ k,ks[plK id ks]?=some k/\k.id=id
 | [],h=>absurd h (Nat.not_lt_zero _)
 | k::ks,h=>by
  rw [plK] at h ⊢;by_cases q:k.id=id
  ·rw [if_pos q];exact ⟨k,rfl,q⟩
  rw [if_neg q] at h ⊢;obtain ⟨k',h1,h2⟩:=plK_at (id:=id) (ks:=ks) (by simpa using h);exact ⟨k',by rw [List.getElem?_cons_succ];exact h1,h2⟩
def ktE (id:Int) (ks:List Kp):Int:=if plK id ks<ks.length then 0 else 13
def ktT (id:Int) (ks:List Kp):List Nd:=if plK id ks<ks.length then (ks.getD (plK id ks) Kp.zero).t else []
theorem ktE_ok {id:Int} {ks:List Kp} (h:ktE id ks=0):plK id ks<ks.length:=by
 unfold ktE at h;split at h
 ·assumption
 exact absurd h (by decide)
theorem ktE_no {id:Int} {ks:List Kp} (h:¬ktE id ks=0):ktE id ks=13/\¬plK id ks<ks.length:=by
 unfold ktE at h ⊢;split at h
 ·exact absurd rfl h
 rename_i q
 exact ⟨if_neg q,q⟩
abbrev anE (e:Int):An:=⟨e,0,[],[],false⟩
abbrev anN (n:Int):An:=⟨0,n,[],[],false⟩
abbrev anL (l:List Int):An:=⟨0,0,l,[],false⟩
abbrev anB (b:List Int):An:=⟨0,0,[],b,false⟩
def cntL (t:List Nd):Int:=((t.filter fun n=>decide (n.kind=1)).length:Int)
theorem cntL_step {t:List Nd} {j:Nat} (h:j<t.length):cntL (t.take (j+1))=cntL (t.take j)+(if (atN t j).kind=1 then 1 else 0):=by
 unfold cntL;rw [List.take_succ_eq_append_getElem h,List.filter_append,List.length_append,atN_some (List.getElem?_eq_getElem h)];by_cases q:t[j].kind=1
 ·rw [if_pos q];simp [q]
 rw [if_neg q];simp [q]
def askQ (t:List Nd) (what i:Int):An :=
 if what=9 then (if 0<=i/\i<t.length then anL (resL t i) else anE 3)
 else if what=10 then (if 0<=i/\i<leavesA t then anL ((forkL t i).map Prod.fst) else anE 3)
 else if what=11 then (if 0<=i/\i<leavesA t then anL (copI (2*i) t.length) else anE 3)
 else if what=12 then (if 0<=i/\i<t.length then anB (ofH t i) else anE 3)
 else if what=13 then ⟨0,0,[],[],decide (verL t)⟩
 else if what=14 then anB (opL t)
 else ⟨0,cntL t,[(leavesA t:Int)],[],false⟩
def oldE (s:Sa) (old:Int):Int:=if old=0 then 0 else ktE old s.kept
def oldT (s:Sa) (old:Int):List Nd:=if old=0 then s.t else ktT old s.kept
def askS (s:Sa) (o:Oo):An:=if 9<=o.what/\o.what<=15 then (if oldE s o.old=0 then askQ (oldT s o.old) o.what o.i else anE (oldE s o.old)) else anE 14
def dedE (s:Sa) (o:Oo):Int :=
 if o.what=1 then addE s.t o.lf
 else if o.what=2 then hadE s.t o.i
 else if o.what=3 then chaE s.t o.i o.lf
 else if o.what=4 then comE s.t o.i o.lf o.keys
 else if o.what=5 then (if s.kept.length=8\/s.next=1099511627776 then 10 else 0)
 else if o.what=6 then ktE o.i s.kept
 else if o.what=7 then ktE o.i s.kept
 else ogE o.b
def dedS (s:Sa) (o:Oo):Sa :=
 if o.what=1 then ⟨addL s.t o.lf,s.kept,s.next⟩
 else if o.what=2 then ⟨remL s.t o.i,s.kept,s.next⟩
 else if o.what=3 then ⟨chaL s.t o.i o.lf,s.kept,s.next⟩
 else if o.what=4 then ⟨comL s.t o.i o.lf o.keys,s.kept,s.next⟩
 else if o.what=5 then ⟨s.t,s.kept++[⟨s.next+1,s.t⟩],s.next+1⟩
 else if o.what=6 then ⟨ktT o.i s.kept,s.kept,s.next⟩
 else if o.what=7 then ⟨s.t,s.kept.eraseIdx (plK o.i s.kept),s.next⟩
 else ⟨ogT o.b,s.kept,s.next⟩
def dedN (s:Sa) (o:Oo):Int:=if o.what=1 then addI s.t o.lf else if o.what=5 then s.next+1 else 0
def stepS (s:Sa) (o:Oo):Sa:=if 1<=o.what/\o.what<=8 then (if dedE s o=0 then dedS s o else s) else s
def stepA (s:Sa) (o:Oo):An:=if 1<=o.what/\o.what<=8 then (if dedE s o=0 then anN (dedN s o) else anE (dedE s o)) else askS s o
def doS (s:Sa) (o:Oo):Sa:=stepS (saAs s) o
def doA (s:Sa) (o:Oo):An:=stepA (saAs s) o
def runS (s:Sa):List Oo->Sa
 | []=>s
 | o::os=>runS (doS s o) os
def runA (s:Sa):List Oo->List An
 | []=>[]
 | o::os=>doA s o::runA (doS s o) os
theorem runS_step {s:Sa} {os:List Oo} {j:Nat} {o:Oo} (h:os[j]?=some o):runS s (os.take (j+1))=doS (runS s (os.take j)) o:=by
 induction os generalizing s j with
 | nil=>simp at h
 | cons p ps ih =>
  cases j with
  | zero =>
   obtain rfl:p=o:=by simpa using h
   rfl
  | succ j =>
   rw [List.take_succ_cons,List.take_succ_cons,runS,runS];exact ih (by simpa using h)
theorem runA_len (s:Sa) (os:List Oo):(runA s os).length=os.length:=by
 induction os generalizing s with
 | nil=>rfl
 | cons p ps ih=>rw [runA,List.length_cons,List.length_cons,ih]
theorem runA_at {s:Sa} {os:List Oo} {j:Nat} {o:Oo} (h:os[j]?=some o):(runA s os)[j]?=some (doA (runS s (os.take j)) o):=by
 induction os generalizing s j with
 | nil=>simp at h
 | cons p ps ih =>
  cases j with
  | zero =>
   obtain rfl:p=o:=by simpa using h
   rfl
  | succ j =>
   rw [List.take_succ_cons,runA,runS,List.getElem?_cons_succ];exact ih (by simpa using h)
/- MdCat:
  Contract of slices.Concat of two rows of kept trees, which the program takes from Go's library.
-/
theorem infoKp [Lo]:(prog.info? 56).map (fun i=>(i.zero,i.size,i.bytes))=some (some (.agg (KpV.zero.cs Kp.zero)),2,32):=kKp.hi
def OwnKp [Lo] (w:World) (base:Nat) (ys:List Kp) (e:Ending) (w':World):Prop:=∃ v,e=.returned v/\OwnK kKp w' base base v ys/\Below base w w'/\base<=w'.heap.size
theorem wpList_append_kps [Lo] (w:World) {ops:Array Oper} {rest:List Oper} {o:Oper} {a:Act} {Q:Exit->Act->World->Prop} (hgd:o.guard=none) (s x:Operand)
  (ho:o.op=.call { callee:=.builtin .append,args:=#[s,x],argTypes:=#[23,23] }) (hty:o.type=23) (base:Nat) (v:Value) (xs ys:List Kp) (A:Option Addr) (m c:Nat)
  (hs:a.eval s=v) (hx:a.eval x=.slice A m c) (hown:OwnK kKp w base base v xs) (hO:SrcK kKp w base ⟨A,m,c⟩ ys) (hb:xs.length+ys.length<=1000000) (hbase:base<=w.heap.size)
  (h:∀ v' w',OwnK kKp w' base base v' (xs++ys)->Below base w w'->wpList prog ops Q rest (a.put o.dst v') w'):wpList prog ops Q (o::rest) a w:=by
 refine wpList_plain hgd fun K hK=>?_;obtain ⟨v',w',hrun,h1,h2⟩:=append_ks (K:=kKp) w base base v xs ys ⟨A,m,c⟩ hown hO Lr hb hbase;unfold Oper.wp;simp [execOp,ho,hty,resolve,invoke,builtin,hs,hx,hrun,Result.andThen];exact hK _ _ (h v' w' h1 h2)
set_option maxRecDepth 20000 in
theorem growK_nil [Lo] (n:Nat) (m:Int) (hm:m=n) (w:World) (hn:n<=1000000) :
  Calls prog 129 #[.slice none 0 0,.int .i64 m] w (OwnKp w w.heap.size []):=by
 subst hm;obtain ⟨i0,hi0,hz0,hz1,hz2⟩:=info_parts infoKp;by_cases h0:n=0
 ·subst h0
  go_enter func129,ntmps129
  go_wp2
  go_ret
  exact ⟨_,rfl,OwnK.nil kKp _ _ _,Below.refl _ _,Nat.le_refl _⟩
 have hr:=Lib.run_append_nil_zeros (P:=prog) w 23 3 23 56 i0 _ .i64 .i64 Tryz.underlying23 Tryz.underlying3 hi0 hz0 n (by omega) (by omega) (by omega) (by rw [hz2];omega);have hG:=grownCap_ge w n 0 56;have hG2:=grownCap_le_maxLen w n 0 56 (by unfold maxLen;omega);generalize grownCap w n 0 56=G at *;have HR:=Lib.hid hr;have hpos:0<n:=by omega
 have hG3:G<=9223372036854775807:=hG2;clear hr hG2
 go_enter func129,ntmps129
 go_wp2_with (at_builtin;refine Lib.wpList_append_run _ rfl _ _ _ _ rfl _ _ rfl rfl _ _ HR.out ?_)
 go_ret
 refine ⟨_,rfl,⟨[],rfl,⟨rfl,.inr ⟨w.heap.size,G,_,rfl,Nat.le_refl _,heap_alloc_new w.drew _,Nat.zero_le _,hG3,?_,rfl⟩⟩,fun p hp=>by cases hp⟩,((Below.refl _ _).drew).alloc Lr _,by simp⟩;rw [Array.size_append,size_zeroCells,size_zeroCells];show n*2+(G-n)*2=G*2;omega

def CatSumK (n1 n2:Nat) (s i:Value):Prop :=
 (i=.int .i64 0/\s=.int .i64 0)\/(i=.int .i64 1/\s=.int .i64 n1)\/(i=.int .i64 2/\s=.int .i64 ((n1:Int)+n2))
def CatRowK [Lo] (w:World) (x1 x2:List Kp) (v i:Value) (w':World):Prop :=
  Bw w w'/\w.heap.size<=w'.heap.size /\
  ((i=.int .i64 0/\OwnK kKp w' w.heap.size w.heap.size v []) \/
   (i=.int .i64 1/\OwnK kKp w' w.heap.size w.heap.size v x1) \/
   (i=.int .i64 2/\OwnK kKp w' w.heap.size w.heap.size v (x1++x2)))
theorem concatK [Lo] (b n1 n2 c1 c2:Nat) (A1 A2:Option Addr) (x1 x2:List Kp) (w:World)
    (h1:RwK kKp w w.heap.size ⟨A1,n1,c1⟩ x1) (h2:RwK kKp w w.heap.size ⟨A2,n2,c2⟩ x2) (hb:b<w.heap.size)
    (e1:w.cell? ⟨b,0,none⟩=some (.slice A1 n1 c1)) (e2:w.cell? ⟨b,1,none⟩=some (.slice A2 n2 c2))
    (hn:n1+n2<=1000000) :
    Calls prog 81 #[.slice (some ⟨b,0,none⟩) 2 2] w (OwnKp w w.heap.size (x1++x2)):=by
  have H1:=Lib.hid h1;have H2:=Lib.hid h2;have L1:Hid (x1.length=n1):=Lib.hid h1.len;have L2:Hid (x2.length=n2):=Lib.hid h2.len;have E1:=Lib.hid e1;have E2:=Lib.hid e2;clear h1 h2 e1 e2
  go_enter func81,ntmps81
  go_wp2
  go_loop [3,11] (fun s i=>CatSumK n1 n2 s i) (fun _ i=>2-(intOf i).toNat)
  case atStart=>exact .inl ⟨rfl,rfl⟩
  case round =>
    rcases hrel with ⟨rfl,rfl⟩ | ⟨rfl,rfl⟩ | ⟨rfl,rfl⟩
    · have e:=E1.out
      go_wp2
      go_round
      case rel=>exact .inr (.inl ⟨rfl,rfl⟩)
      case measure=>simp [intOf]
    · have e:=E2.out
      go_wp2
      go_round
      case rel=>exact .inr (.inr ⟨rfl,rfl⟩)
      case measure=>simp [intOf]
    · go_wp2_with fail
      refine (growK_nil (n1+n2) _ (by omega) _ hn).mono ?_;rintro e w1 ⟨v1,rfl,how1,hb1,hs1⟩;have HOW1:=Lib.hid how1;clear how1
      go_wp2_with fail
      go_loopw [6,27] (fun v i w'=>CatRowK w x1 x2 v i w') (fun _ i _=>2-(intOf i).toNat)
      case atStart=>exact ⟨hb1,hs1,.inl ⟨rfl,HOW1.out⟩⟩
      case round =>
        rcases hrel with ⟨hb2,hs2,⟨rfl,how2⟩ | ⟨rfl,how2⟩ | ⟨rfl,how2⟩⟩
        · have HOW2:=Lib.hid how2
          have e:=(hb2.cell (p:=⟨b,0,none⟩) hb).trans E1.out;clear how2
          go_wp2_with (at_builtin
                       refine wpList_append_kps _ rfl (.tmp 31) (.tmp 32) rfl rfl w.heap.size _ [] x1 A1 n1 c1 rfl rfl ?hown ?hO ?hb ?hbase ?_
                       case hown=>exact HOW2.out
                       case hO=>exact (H1.out.below hb2).src
                       case hb=>simp [L1.out];omega
                       case hbase=>exact hs2
                       intro v4 w4 hj4 hb4;have H4:=Lib.hid hj4;clear hj4)
          go_roundw
          case rel =>
            have h4:=H4.out;exact ⟨hb2.trans hb4,Nat.le_trans hs2 hb4.size,.inr (.inl ⟨rfl,h4⟩)⟩
          case measure=>simp [intOf]
        · have HOW2:=Lib.hid how2
          have e:=(hb2.cell (p:=⟨b,1,none⟩) hb).trans E2.out;clear how2
          go_wp2_with (at_builtin
                       refine wpList_append_kps _ rfl (.tmp 31) (.tmp 32) rfl rfl w.heap.size _ x1 x2 A2 n2 c2 rfl rfl ?hown ?hO ?hb ?hbase ?_
                       case hown=>exact HOW2.out
                       case hO=>exact (H2.out.below hb2).src
                       case hb=>simp [L1.out,L2.out];omega
                       case hbase=>exact hs2
                       intro v4 w4 hj4 hb4;have H4:=Lib.hid hj4;clear hj4)
          go_roundw
          case rel =>
            have h4:=H4.out;exact ⟨hb2.trans hb4,Nat.le_trans hs2 hb4.size,.inr (.inr ⟨rfl,h4⟩)⟩
          case measure=>simp [intOf]
        · have HOW2:=Lib.hid how2
          clear how2
          go_wp2
          go_ret
          exact ⟨_,rfl,HOW2.out,hb2,hs2⟩
theorem concatK_S [Lo] {W:World} {b:Nat} {tr:TypeId} {s1 s2:SlV} {x1 x2:List Kp} (r:RowAt W b tr #[s1.v,s2.v]) (h1:RwKp W W.heap.size s1 x1) (h2:RwKp W W.heap.size s2 x2) (hn:x1.length+x2.length<=1000000) :
  Calls prog 81 #[.slice (some ⟨b,0,none⟩) 2 2] W fun e W'=>∃ v,e=.returned v/\∃ s:SlV,v=s.v/\RwKp W' W'.heap.size s (x1++x2)/\Bw W W':=by
 have l1:=h1.len;have l2:=h2.len;refine (concatK b s1.m s2.m s1.c s2.c s1.A s2.A x1 x2 W h1.1 h2.1 r.lt (by rw [cell_of_row W b 0 _ tr _ r];rfl) (by rw [cell_of_row W b 1 _ tr _ r];rfl) (by omega)).mono fun e W' hR=>?_;obtain ⟨v,rfl,ho,hb,hs⟩:=hR;obtain ⟨s,rfl,hr⟩:=ho.kp hs;exact ⟨_,rfl,s,rfl,hr,hb⟩
end Go.Proofs.YtjjdcnkbibkmkaaGreatDoor
