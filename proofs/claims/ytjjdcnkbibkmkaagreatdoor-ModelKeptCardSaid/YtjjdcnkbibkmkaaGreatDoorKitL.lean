/-
  KitL: NdLift, NdLiftR.
-/
import Derived.Test.YtjjdcnkbibkmkaaGreatDoorKitN
import Derived.ChangeOld
import Derived.Deep.Slices
import Derived.DataReads
import Derived.SizedLaws
namespace Go.Proofs.YtjjdcnkbibkmkaaGreatDoor
open Go.Proofs.Tryz
open Go.ChangeShapes Go.WideShapes Go.ChangeAt Go.RowKit
set_option linter.unusedVariables false
variable {α:Type}

/- NdLift:
  Octets, numbers and nodes that came in; how much they may be.
-/
theorem own:ownKnob prog.godebug=none:=by kernel_rfl
theorem laidOut:laidOutB prog=true:=by kernel_rfl
def layOf:Option TypeDesc->Option (List (Nat × Nat))
 | some (.struct fs)=>some (fs.toList.map fun f=>(f.type,f.offset))
 | _=>none
theorem lay_str {P:Program} {t:TypeId} {ls:List (Nat × Nat)} (h:layOf (P.underlying t)=some ls):∃ fs,P.underlying t=some (.struct fs)/\fs.size=ls.length/\∀ (i:Nat) (p:Nat × Nat),ls[i]?=some p->∃ f,fs[i]?=some f/\f.type=p.1/\f.offset=p.2:=by
 cases hq:P.underlying t with
 | none=>rw [hq] at h;cases h
 | some d =>
  rw [hq] at h;cases d with
  | struct fs =>
   simp only [layOf,Option.some.injEq] at h;subst h;refine ⟨fs,rfl,by simp,fun i p hp=>?_⟩;rw [List.getElem?_map,Option.map_eq_some_iff] at hp;obtain ⟨f,hf,rfl⟩:=hp;exact ⟨f,by rw [<-Array.getElem?_toList];exact hf,rfl,rfl⟩
  | _=>cases h
theorem one_at {l:List α} {i:Nat} {x:α} (h:(l.drop i).take 1=[x]):l[i]?=some x:=by
 have:=congrArg (fun q:List α=>q[0]?) h;simpa [List.getElem?_take,List.getElem?_drop] using this
theorem many_at {l m:List α} {i n:Nat} (h:(l.drop i).take n=m):∀ j,j<n->l[i+j]?=m[j]?:=by
 intro j hj;rw [<-h,List.getElem?_take,if_pos hj,List.getElem?_drop]
theorem cells_at {w:World} {base:Nat} {a:Addr} {n:Nat} {cs:List Value} (h:w.cells? base a n=some cs):∀ j u,cs[j]?=some u->w.cell? (a.add j)=some u:=by
 have h1:=World.cells?_some h;obtain ⟨_,h2,h3⟩:=h1;intro j u hj;have hl:j<cs.length:=(List.getElem?_eq_some_iff.1 hj).1;rw [h3 j (by omega)];exact hj
section
variable {H:Type} {enc:TypeId × Value->H} {w:World} {spare:Nat->Bool} {held:Bool} {v:Value} {d:DataW H} {ps:List MemPlace} {r:Reach} {b0:Nat}
theorem cellsU8:prog.cellsOf 5=1:=by kernel_rfl
theorem open_bytesC {fuel:Nat} {cs:List Value} {x:DataW H × List MemPlace} (h:DataW.trod enc prog w 0 (fun _=>true) held fuel 26 cs=some x) :
  ∃ (s:SlV) (xs:List Int),cs=[s.v]/\Sl w w.heap.size s xs:=by
 rcases open_ints huo24 (show prog.underlying 5=some (.int .u8) by kernel_rfl) cellsU8 h with ⟨hcs,_⟩ | ⟨a,l,c,zs,hcs,_,hl,hm,hz,_,hcell,hwz⟩
 ·exact ⟨nilS,[],hcs,Sl.nil _ _⟩
 obtain ⟨h1,h2,h3⟩:=oct_of_row (len0:=l) (.inr ⟨a,rfl,hl,hm,by simpa using hz,hcell,hwz⟩:IsRow .u8 w (some a) l c zs);exact ⟨⟨some a,l,c⟩,_,hcs,h1,h2,h3⟩
end
section
variable {H:Type} {enc:TypeId × Value->H} {w:World} {spare:Nat->Bool} {held:Bool} {v:Value} {d:DataW H} {ps:List MemPlace} {r:Reach} {b0:Nat}
theorem open_numsC [Lo] (hq:w.heap.size<=lowB) {fuel:Nat} {cs:List Value} {x:DataW H × List MemPlace} (h:DataW.trod enc prog w 0 (fun _=>true) held fuel 36 cs=some x) :
  ∃ (s:SlV) (xs:List Int),cs=[s.v]/\SlN w w.heap.size s xs:=by
 rcases open_ints huIs huInt (show prog.cellsOf 3=1 by kernel_rfl) h with ⟨hcs,_⟩ | ⟨a,l,c,zs,hcs,_,hl,hm,hz,_,hcell,hwz⟩
 ·exact ⟨nilS,[],hcs,SlN.nil _ _⟩
 obtain ⟨h1,h2,h3⟩:=nums_of_row (len0:=l) (.inr ⟨a,rfl,hl,hm,by simpa using hz,hcell,hwz⟩:IsRow .i64 w (some a) l c zs);exact ⟨⟨some a,l,c⟩,_,hcs,h1,⟨h2,fun hm0 p hp=>.inl (by obtain ⟨b,o,e,hb,_⟩:=h3.2 hm0;rw [Option.some.inj (hp.symm.trans e)];exact Nat.lt_of_lt_of_le hb hq)⟩,h3⟩
end
section
variable {H:Type} {enc:TypeId × Value->H} {w:World} {spare:Nat->Bool} {held:Bool} {v:Value} {d:DataW H} {ps:List MemPlace} {r:Reach} {b0:Nat}
end
section
variable {H:Type} {enc:TypeId × Value->H} {w:World} {spare:Nat->Bool} {held:Bool} {v:Value} {d:DataW H} {ps:List MemPlace} {r:Reach} {b0:Nat}
theorem cellsLf:prog.cellsOf 28=4:=by kernel_rfl
theorem layLf:layOf (prog.underlying 28)=some [(26,0),(26,1),(3,2),(26,3)]:=by kernel_rfl
theorem open_LfC {fuel:Nat} {cs:List Value} {x:DataW H × List MemPlace} (h:DataW.trod enc prog w 0 (fun _=>true) held fuel 28 cs=some x) :
  ∃ (l:LfV) (L:Lf),cs=(l.cs L).toList/\IsLf w w.heap.size l L:=by
 obtain ⟨fs,hu,hsz,hf⟩:=lay_str layLf;obtain ⟨xs,n,_,_,hl,hlen,hfl⟩:=DataW.trod_struct hu h;rw [cellsLf] at hl;obtain ⟨f0,g0,t0,o0⟩:=hf 0 _ rfl;have h0:=hfl 0 f0 g0;rw [t0,o0,show prog.cellsOf 26=1 by kernel_rfl,List.getElem?_eq_getElem (by rw [hlen,hsz];decide)] at h0;obtain ⟨s0,x0,c0,p0⟩:=open_bytesC h0;obtain ⟨f1,g1,t1,o1⟩:=hf 1 _ rfl;have h1:=hfl 1 f1 g1;rw [t1,o1,show prog.cellsOf 26=1 by kernel_rfl,List.getElem?_eq_getElem (by rw [hlen,hsz];decide)] at h1;obtain ⟨s1,x1,c1,p1⟩:=open_bytesC h1;obtain ⟨f2,g2,t2,o2⟩:=hf 2 _ rfl;have h2:=hfl 2 f2 g2;rw [t2,o2,show prog.cellsOf 3=1 by kernel_rfl,List.getElem?_eq_getElem (by rw [hlen,hsz];decide)] at h2;obtain ⟨x2,c2,_,_⟩:=DataW.trod_int (show prog.underlying 3=some (.int .i64) by kernel_rfl) h2;obtain ⟨f3,g3,t3,o3⟩:=hf 3 _ rfl;have h3:=hfl 3 f3 g3;rw [t3,o3,show prog.cellsOf 26=1 by kernel_rfl,List.getElem?_eq_getElem (by rw [hlen,hsz];decide)] at h3;obtain ⟨s3,x3,c3,p3⟩:=open_bytesC h3;refine ⟨⟨s0,s1,s3⟩,⟨x0,x1,x2,x3⟩,?_,⟨p0,p1,p3⟩⟩;refine List.ext_getElem? fun i=>?_
 match i with
 | 0=>exact (one_at c0)
 | 1=>exact (one_at c1)
 | 2=>exact (one_at c2)
 | 3=>exact (one_at c3)
 | i+4 =>
  rw [List.getElem?_eq_none (by omega)];exact (List.getElem?_eq_none (by show 4<=i+4;omega)).symm
theorem cellsPn:prog.cellsOf 79=3:=by kernel_rfl
theorem layPn:layOf (prog.underlying 79)=some [(26,0),(26,1),(36,2)]:=by kernel_rfl
theorem open_PnC [Lo] (hq:w.heap.size<=lowB) {fuel:Nat} {cs:List Value} {x:DataW H × List MemPlace} (h:DataW.trod enc prog w 0 (fun _=>true) held fuel 79 cs=some x) :
  ∃ (l:PnV) (L:Pn),cs=(l.cs L).toList/\IsPn w w.heap.size l L:=by
 obtain ⟨fs,hu,hsz,hf⟩:=lay_str layPn;obtain ⟨xs,n,_,_,hl,hlen,hfl⟩:=DataW.trod_struct hu h;rw [cellsPn] at hl;obtain ⟨f0,g0,t0,o0⟩:=hf 0 _ rfl;have h0:=hfl 0 f0 g0;rw [t0,o0,show prog.cellsOf 26=1 by kernel_rfl,List.getElem?_eq_getElem (by rw [hlen,hsz];decide)] at h0;obtain ⟨s0,x0,c0,p0⟩:=open_bytesC h0;obtain ⟨f1,g1,t1,o1⟩:=hf 1 _ rfl;have h1:=hfl 1 f1 g1;rw [t1,o1,show prog.cellsOf 26=1 by kernel_rfl,List.getElem?_eq_getElem (by rw [hlen,hsz];decide)] at h1;obtain ⟨s1,x1,c1,p1⟩:=open_bytesC h1;obtain ⟨f2,g2,t2,o2⟩:=hf 2 _ rfl;have h2:=hfl 2 f2 g2;rw [t2,o2,show prog.cellsOf 36=1 by kernel_rfl,List.getElem?_eq_getElem (by rw [hlen,hsz];decide)] at h2;obtain ⟨s2,x2,c2,p2⟩:=open_numsC hq h2;refine ⟨⟨s0,s1,s2⟩,⟨x0,x1,x2⟩,?_,⟨p0,p1,p2⟩⟩;refine List.ext_getElem? fun i=>?_
 match i with
 | 0=>exact (one_at c0)
 | 1=>exact (one_at c1)
 | 2=>exact (one_at c2)
 | i+3 =>
  rw [List.getElem?_eq_none (by omega)];exact (List.getElem?_eq_none (by show 3<=i+3;omega)).symm
theorem cellsNd:prog.cellsOf 81=8:=by kernel_rfl
theorem layNd:layOf (prog.underlying 81)=some [(3,0),(28,1),(79,5)]:=by kernel_rfl
theorem open_NdC [Lo] (hq:w.heap.size<=lowB) {fuel:Nat} {cs:List Value} {x:DataW H × List MemPlace} (h:DataW.trod enc prog w 0 (fun _=>true) held fuel 81 cs=some x) :
  ∃ (l:NdV) (L:Nd),cs=(l.cs L).toList/\IsNd w w.heap.size l L:=by
 obtain ⟨fs,hu,hsz,hf⟩:=lay_str layNd;obtain ⟨xs,n,_,_,hl,hlen,hfl⟩:=DataW.trod_struct hu h;rw [cellsNd] at hl;obtain ⟨f0,g0,t0,o0⟩:=hf 0 _ rfl;have h0:=hfl 0 f0 g0;rw [t0,o0,show prog.cellsOf 3=1 by kernel_rfl,List.getElem?_eq_getElem (by rw [hlen,hsz];decide)] at h0;obtain ⟨x0,c0,_,_⟩:=DataW.trod_int (show prog.underlying 3=some (.int .i64) by kernel_rfl) h0;obtain ⟨f1,g1,t1,o1⟩:=hf 1 _ rfl;have h1:=hfl 1 f1 g1;rw [t1,o1,show prog.cellsOf 28=4 by kernel_rfl,List.getElem?_eq_getElem (by rw [hlen,hsz];decide)] at h1;obtain ⟨s1,x1,c1,p1⟩:=open_LfC h1;obtain ⟨f2,g2,t2,o2⟩:=hf 2 _ rfl;have h2:=hfl 2 f2 g2;rw [t2,o2,show prog.cellsOf 79=3 by kernel_rfl,List.getElem?_eq_getElem (by rw [hlen,hsz];decide)] at h2;obtain ⟨s2,x2,c2,p2⟩:=open_PnC hq h2;refine ⟨⟨s1,s2⟩,⟨x0,x1,x2⟩,?_,⟨p1,p2⟩⟩;refine List.ext_getElem? fun i=>?_
 match i with
 | 0=>exact (one_at c0)
 | 1=>exact (many_at c1 0 (by decide))
 | 2=>exact (many_at c1 1 (by decide))
 | 3=>exact (many_at c1 2 (by decide))
 | 4=>exact (many_at c1 3 (by decide))
 | 5=>exact (many_at c2 0 (by decide))
 | 6=>exact (many_at c2 1 (by decide))
 | 7=>exact (many_at c2 2 (by decide))
 | i+8 =>
  rw [List.getElem?_eq_none (by omega)];exact (List.getElem?_eq_none (by show 8<=i+8;omega)).symm
end
/- NdLiftR:
  Rows of nodes that came in.
-/
section
variable {H:Type} {enc:TypeId × Value->H} {w:World} {spare:Nat->Bool} {held:Bool} {v:Value} {d:DataW H} {ps:List MemPlace} {r:Reach} {b0:Nat}
theorem huNds:prog.underlying 22=some (.slice 81):=by kernel_rfl
theorem open_rowNd [Lo] (hq:w.heap.size<=lowB) {fuel:Nat} {cs:List Value} {x:DataW H × List MemPlace} (h:DataW.trod enc prog w 0 (fun _=>true) held fuel 22 cs=some x) :
  ∃ (s:SlV) (Ls:List Nd),cs=[s.v]/\RwNd w w.heap.size s Ls:=by
 rcases Go.Deep.open_slice huNds h with ⟨hcs,_⟩ | ⟨a,len,cap,m,n,D,Pl,hcs,_,hl,hm,hmm,_,hx⟩
 ·exact ⟨nilS,[],hcs,Nat.le_refl _,Nat.zero_le _,rfl,fun q=>absurd q (by simp)⟩
 rw [if_pos rfl] at hmm;subst hmm;have key:∀ i,i<m->∃ (l:NdV) (L:Nd),IsNd w w.heap.size l L/\∀ j u,(l.cs L)[j]?=some u->w.cell? ((a.add (i*8)).add j)=some u:=by
  intro i hi;obtain ⟨cs',h1,h2⟩:=hx i hi;obtain ⟨l,L,e,h3⟩:=open_NdC hq h2;rw [cellsNd] at h1;refine ⟨l,L,h3,fun j u hu=>cells_at h1 j u ?_⟩;rw [e,Array.getElem?_toList];exact hu
 obtain ⟨b,off,spot⟩:=a;refine ⟨⟨some ⟨b,off,spot⟩,len,m⟩,(List.range len).pmap (fun i hi=>(key i hi).choose_spec.choose) (fun i hi=>by have:=List.mem_range.1 hi;omega),hcs,hl,hm,by simp,fun hpos=>?_⟩;have hpos:0<len:=hpos;obtain ⟨l0,L0,_,hc0⟩:=key 0 (by omega);have hc:=hc0 0 _ rfl;have hspot:spot=none:=by simpa [Addr.add] using World.cell?_spot hc
 subst hspot;refine ⟨b,off,rfl,?_,fun i L hL=>?_⟩
 ·have:=World.block_lt_of_cell? w _ hc;simpa [Addr.add] using this
 rw [List.getElem?_pmap,Option.pmap_eq_some_iff] at hL;obtain ⟨i',hi',h4,rfl⟩:=hL;have hi:i'=i:=by
  rw [List.getElem?_range (by have:=(List.getElem?_eq_some_iff.1 h4).1;simpa using this)] at h4;exact (Option.some.inj h4).symm
 subst hi;refine ⟨_,(key i' hi').choose_spec.choose_spec.1,fun j u hu=>?_⟩;have:=(key i' hi').choose_spec.choose_spec.2 j u hu;simp only [Addr.add_lit] at this;exact this
end
end Go.Proofs.YtjjdcnkbibkmkaaGreatDoor
