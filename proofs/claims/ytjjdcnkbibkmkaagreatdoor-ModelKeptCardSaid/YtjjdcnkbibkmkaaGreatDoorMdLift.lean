/-
  States, operations, and rows of them, that came in.
-/
import Derived.Test.YtjjdcnkbibkmkaaGreatDoorKitM
namespace Go.Proofs.YtjjdcnkbibkmkaaGreatDoor
open Go.Proofs.Tryz
open Go.ChangeShapes Go.WideShapes Go.ChangeAt Go.RowKit
set_option linter.unusedVariables false

section
variable {H:Type} {enc:TypeId × Value->H} {w:World} {spare:Nat->Bool} {held:Bool} {v:Value} {d:DataW H} {ps:List MemPlace} {r:Reach} {b0:Nat}
theorem wf_i64 {x:Int} (h:(Lit.int .i64 x).wf=true):I64 x:=by
 simp [Lit.wf,IntKind.min,IntKind.max,IntKind.signed,IntKind.bits] at h;exact ⟨by omega,by omega⟩
theorem cellsOo:prog.cellsOf 31=9:=by kernel_rfl
theorem layOo:layOf (prog.underlying 31)=some [(3,0),(3,1),(28,2),(29,6),(26,7),(3,8)]:=by kernel_rfl
theorem open_OoC {fuel:Nat} {cs:List Value} {x:DataW H × List MemPlace} (h:DataW.trod enc prog w 0 (fun _=>true) held fuel 31 cs=some x) :
  ∃ (l:OoV) (L:Oo),cs=(l.cs L).toList/\IsOo w w.heap.size l L:=by
 obtain ⟨fs,hu,hsz,hf⟩:=lay_str layOo;obtain ⟨xs,n,_,_,hl,hlen,hfl⟩:=DataW.trod_struct hu h;rw [cellsOo] at hl;obtain ⟨f0,g0,t0,o0⟩:=hf 0 _ rfl;have h0:=hfl 0 f0 g0;rw [t0,o0,show prog.cellsOf 3=1 by kernel_rfl,List.getElem?_eq_getElem (by rw [hlen,hsz];decide)] at h0;obtain ⟨x0,c0,_,wf0⟩:=DataW.trod_int (show prog.underlying 3=some (.int .i64) by kernel_rfl) h0;obtain ⟨f1,g1,t1,o1⟩:=hf 1 _ rfl;have h1:=hfl 1 f1 g1;rw [t1,o1,show prog.cellsOf 3=1 by kernel_rfl,List.getElem?_eq_getElem (by rw [hlen,hsz];decide)] at h1;obtain ⟨x1,c1,_,_⟩:=DataW.trod_int (show prog.underlying 3=some (.int .i64) by kernel_rfl) h1;obtain ⟨f2,g2,t2,o2⟩:=hf 2 _ rfl;have h2:=hfl 2 f2 g2;rw [t2,o2,show prog.cellsOf 28=4 by kernel_rfl,List.getElem?_eq_getElem (by rw [hlen,hsz];decide)] at h2;obtain ⟨s2,x2,c2,p2⟩:=open_LfC h2;obtain ⟨f3,g3,t3,o3⟩:=hf 3 _ rfl;have h3:=hfl 3 f3 g3;rw [t3,o3,show prog.cellsOf 29=1 by kernel_rfl,List.getElem?_eq_getElem (by rw [hlen,hsz];decide)] at h3;obtain ⟨s3,x3,c3,p3⟩:=open_rowOc h3;obtain ⟨f4,g4,t4,o4⟩:=hf 4 _ rfl;have h4:=hfl 4 f4 g4;rw [t4,o4,show prog.cellsOf 26=1 by kernel_rfl,List.getElem?_eq_getElem (by rw [hlen,hsz];decide)] at h4;obtain ⟨s4,x4,c4,p4⟩:=open_bytesC h4;obtain ⟨f5,g5,t5,o5⟩:=hf 5 _ rfl;have h5:=hfl 5 f5 g5;rw [t5,o5,show prog.cellsOf 3=1 by kernel_rfl,List.getElem?_eq_getElem (by rw [hlen,hsz];decide)] at h5;obtain ⟨x5,c5,_,_⟩:=DataW.trod_int (show prog.underlying 3=some (.int .i64) by kernel_rfl) h5;refine ⟨⟨s2,s3,s4⟩,⟨x0,x1,x2,x3,x4,x5⟩,?_,⟨p2,p3,p4,wf_i64 wf0⟩⟩;refine List.ext_getElem? fun i=>?_
 match i with
 | 0=>exact (one_at c0)
 | 1=>exact (one_at c1)
 | 2=>exact (many_at c2 0 (by decide))
 | 3=>exact (many_at c2 1 (by decide))
 | 4=>exact (many_at c2 2 (by decide))
 | 5=>exact (many_at c2 3 (by decide))
 | 6=>exact (one_at c3)
 | 7=>exact (one_at c4)
 | 8=>exact (one_at c5)
 | i+9 =>
  rw [List.getElem?_eq_none (by omega)];exact (List.getElem?_eq_none (by show 9<=i+9;omega)).symm
set_option maxRecDepth 20000 in
theorem open_OoS (hval:Value.okWide prog w r b0 31 v) (hd:DataW.Trod enc prog w 0 (fun _=>true) held 31 v d ps):∃ (l:OoV) (L:Oo),v=.agg (l.cs L)/\IsOo w w.heap.size l L:=by
 obtain ⟨fs,hu,_⟩:=lay_str layOo;obtain ⟨cs,rfl,_,_⟩:∃ cs,v=.agg cs/\cs.size=prog.cellsOf 31/\Row.okWide prog w r b0 31 cs:=by
  simpa [Value.okWide,hu] using hval
 obtain ⟨fuel,hf⟩:=hd;obtain ⟨l,L,e,h⟩:=open_OoC hf;exact ⟨l,L,congrArg Value.agg (Array.toList_inj.1 e),h⟩
theorem huOos:prog.underlying 44=some (.slice 31):=by kernel_rfl
theorem open_rowOo {fuel:Nat} {cs:List Value} {x:DataW H × List MemPlace} (h:DataW.trod enc prog w 0 (fun _=>true) held fuel 44 cs=some x) :
  ∃ (s:SlV) (Ls:List Oo),cs=[s.v]/\RwOo w w.heap.size s Ls:=by
 rcases Go.Deep.open_slice huOos h with ⟨hcs,_⟩ | ⟨a,len,cap,m,n,D,Pl,hcs,_,hl,hm,hmm,_,hx⟩
 ·exact ⟨nilS,[],hcs,Nat.le_refl _,Nat.zero_le _,rfl,fun q=>absurd q (by simp)⟩
 rw [if_pos rfl] at hmm;subst hmm;have key:∀ i,i<m->∃ (l:OoV) (L:Oo),IsOo w w.heap.size l L/\∀ j u,(l.cs L)[j]?=some u->w.cell? ((a.add (i*9)).add j)=some u:=by
  intro i hi;obtain ⟨cs',h1,h2⟩:=hx i hi;obtain ⟨l,L,e,h3⟩:=open_OoC h2;rw [cellsOo] at h1;refine ⟨l,L,h3,fun j u hu=>cells_at h1 j u ?_⟩;rw [e,Array.getElem?_toList];exact hu
 obtain ⟨b,off,spot⟩:=a;refine ⟨⟨some ⟨b,off,spot⟩,len,m⟩,(List.range len).pmap (fun i hi=>(key i hi).choose_spec.choose) (fun i hi=>by have:=List.mem_range.1 hi;omega),hcs,hl,hm,by simp,fun hpos=>?_⟩;have hpos:0<len:=hpos;obtain ⟨l0,L0,_,hc0⟩:=key 0 (by omega);have hc:=hc0 0 _ rfl;have hspot:spot=none:=by simpa [Addr.add] using World.cell?_spot hc
 subst hspot;refine ⟨b,off,rfl,?_,fun i L hL=>?_⟩
 ·have:=World.block_lt_of_cell? w _ hc;simpa [Addr.add] using this
 rw [List.getElem?_pmap,Option.pmap_eq_some_iff] at hL;obtain ⟨i',hi',h4,rfl⟩:=hL;have hi:i'=i:=by
  rw [List.getElem?_range (by have:=(List.getElem?_eq_some_iff.1 h4).1;simpa using this)] at h4;exact (Option.some.inj h4).symm
 subst hi;refine ⟨_,(key i' hi').choose_spec.choose_spec.1,fun j u hu=>?_⟩;have:=(key i' hi').choose_spec.choose_spec.2 j u hu;simp only [Addr.add_lit] at this;exact this
set_option maxRecDepth 20000 in
theorem open_rowOoS (hval:Value.okWide prog w r b0 44 v) (hd:DataW.Trod enc prog w 0 (fun _=>true) held 44 v d ps):∃ (s:SlV) (Ls:List Oo),v=s.v/\RwOo w w.heap.size s Ls:=by
 obtain ⟨a,l,c,rfl⟩:=okWide_slice huOos hval;obtain ⟨fuel,hf⟩:=hd;obtain ⟨s,Ls,hcs,h⟩:=open_rowOo hf;exact ⟨s,Ls,by simpa [Value.cells] using hcs,h⟩
theorem cellsKp:prog.cellsOf 56=2:=by kernel_rfl
theorem layKp:layOf (prog.underlying 56)=some [(3,0),(22,1)]:=by kernel_rfl
theorem open_KpC [Lo] (hq:w.heap.size<=lowB) {fuel:Nat} {cs:List Value} {x:DataW H × List MemPlace} (h:DataW.trod enc prog w 0 (fun _=>true) held fuel 56 cs=some x) :
  ∃ (l:KpV) (L:Kp),cs=(l.cs L).toList/\IsKp w w.heap.size l L:=by
 obtain ⟨fs,hu,hsz,hf⟩:=lay_str layKp;obtain ⟨xs,n,_,_,hl,hlen,hfl⟩:=DataW.trod_struct hu h;rw [cellsKp] at hl;obtain ⟨f0,g0,t0,o0⟩:=hf 0 _ rfl;have h0:=hfl 0 f0 g0;rw [t0,o0,show prog.cellsOf 3=1 by kernel_rfl,List.getElem?_eq_getElem (by rw [hlen,hsz];decide)] at h0;obtain ⟨x0,c0,_,_⟩:=DataW.trod_int (show prog.underlying 3=some (.int .i64) by kernel_rfl) h0;obtain ⟨f1,g1,t1,o1⟩:=hf 1 _ rfl;have h1:=hfl 1 f1 g1;rw [t1,o1,show prog.cellsOf 22=1 by kernel_rfl,List.getElem?_eq_getElem (by rw [hlen,hsz];decide)] at h1;obtain ⟨s1,x1,c1,p1⟩:=open_rowNd hq h1;refine ⟨⟨s1⟩,⟨x0,x1⟩,?_,⟨p1⟩⟩;refine List.ext_getElem? fun i=>?_
 match i with
 | 0=>exact (one_at c0)
 | 1=>exact (one_at c1)
 | i+2 =>
  rw [List.getElem?_eq_none (by omega)];exact (List.getElem?_eq_none (by show 2<=i+2;omega)).symm
theorem huKps:prog.underlying 23=some (.slice 56):=by kernel_rfl
theorem open_rowKp0 [Lo] (hq:w.heap.size<=lowB) {fuel:Nat} {cs:List Value} {x:DataW H × List MemPlace} (h:DataW.trod enc prog w 0 (fun _=>true) held fuel 23 cs=some x) :
  ∃ (s:SlV) (Ls:List Kp),cs=[s.v]/\RwK kKp w w.heap.size s Ls:=by
 rcases Go.Deep.open_slice huKps h with ⟨hcs,_⟩ | ⟨a,len,cap,m,n,D,Pl,hcs,_,hl,hm,hmm,_,hx⟩
 ·exact ⟨nilS,[],hcs,Nat.le_refl _,Nat.zero_le _,rfl,fun q=>absurd q (by simp)⟩
 rw [if_pos rfl] at hmm;subst hmm;have key:∀ i,i<m->∃ (l:KpV) (L:Kp),IsKp w w.heap.size l L/\∀ j u,(l.cs L)[j]?=some u->w.cell? ((a.add (i*2)).add j)=some u:=by
  intro i hi;obtain ⟨cs',h1,h2⟩:=hx i hi;obtain ⟨l,L,e,h3⟩:=open_KpC hq h2;rw [cellsKp] at h1;refine ⟨l,L,h3,fun j u hu=>cells_at h1 j u ?_⟩;rw [e,Array.getElem?_toList];exact hu
 obtain ⟨b,off,spot⟩:=a;refine ⟨⟨some ⟨b,off,spot⟩,len,m⟩,(List.range len).pmap (fun i hi=>(key i hi).choose_spec.choose) (fun i hi=>by have:=List.mem_range.1 hi;omega),hcs,hl,hm,by simp,fun hpos=>?_⟩;have hpos:0<len:=hpos;obtain ⟨l0,L0,_,hc0⟩:=key 0 (by omega);have hc:=hc0 0 _ rfl;have hspot:spot=none:=by simpa [Addr.add] using World.cell?_spot hc
 subst hspot;refine ⟨b,off,rfl,?_,fun i L hL=>?_⟩
 ·have:=World.block_lt_of_cell? w _ hc;simpa [Addr.add] using this
 rw [List.getElem?_pmap,Option.pmap_eq_some_iff] at hL;obtain ⟨i',hi',h4,rfl⟩:=hL;have hi:i'=i:=by
  rw [List.getElem?_range (by have:=(List.getElem?_eq_some_iff.1 h4).1;simpa using this)] at h4;exact (Option.some.inj h4).symm
 subst hi;refine ⟨_,(key i' hi').choose_spec.choose_spec.1,fun j u hu=>?_⟩;have:=(key i' hi').choose_spec.choose_spec.2 j u hu;simp only [Addr.add_lit] at this;exact this
theorem open_rowKp [Lo] (hq:w.heap.size<=lowB) {fuel:Nat} {cs:List Value} {x:DataW H × List MemPlace} (h:DataW.trod enc prog w 0 (fun _=>true) held fuel 23 cs=some x):∃ (s:SlV) (Ls:List Kp),cs=[s.v]/\RwKp w w.heap.size s Ls:=by
 obtain ⟨s,Ls,e,h⟩:=open_rowKp0 hq h;refine ⟨s,Ls,e,h,fun hm p hp=>?_⟩;obtain ⟨b,o,e2,hB,_⟩:=h.2.2.2 hm;rw [e2] at hp;obtain rfl:=Option.some.inj hp;exact .inl (Nat.lt_of_lt_of_le hB hq)
theorem cellsSa:prog.cellsOf 25=3:=by kernel_rfl
theorem laySa:layOf (prog.underlying 25)=some [(22,0),(23,1),(3,2)]:=by kernel_rfl
theorem open_SaC [Lo] (hq:w.heap.size<=lowB) {fuel:Nat} {cs:List Value} {x:DataW H × List MemPlace} (h:DataW.trod enc prog w 0 (fun _=>true) held fuel 25 cs=some x) :
  ∃ (l:SaV) (L:Sa),cs=(l.cs L).toList/\IsSa w w.heap.size l L:=by
 obtain ⟨fs,hu,hsz,hf⟩:=lay_str laySa;obtain ⟨xs,n,_,_,hl,hlen,hfl⟩:=DataW.trod_struct hu h;rw [cellsSa] at hl;obtain ⟨f0,g0,t0,o0⟩:=hf 0 _ rfl;have h0:=hfl 0 f0 g0;rw [t0,o0,show prog.cellsOf 22=1 by kernel_rfl,List.getElem?_eq_getElem (by rw [hlen,hsz];decide)] at h0;obtain ⟨s0,x0,c0,p0⟩:=open_rowNd hq h0;obtain ⟨f1,g1,t1,o1⟩:=hf 1 _ rfl;have h1:=hfl 1 f1 g1;rw [t1,o1,show prog.cellsOf 23=1 by kernel_rfl,List.getElem?_eq_getElem (by rw [hlen,hsz];decide)] at h1;obtain ⟨s1,x1,c1,p1⟩:=open_rowKp hq h1;obtain ⟨f2,g2,t2,o2⟩:=hf 2 _ rfl;have h2:=hfl 2 f2 g2;rw [t2,o2,show prog.cellsOf 3=1 by kernel_rfl,List.getElem?_eq_getElem (by rw [hlen,hsz];decide)] at h2;obtain ⟨x2,c2,_,_⟩:=DataW.trod_int (show prog.underlying 3=some (.int .i64) by kernel_rfl) h2;refine ⟨⟨s0,s1⟩,⟨x0,x1,x2⟩,?_,⟨p0,p1⟩⟩;refine List.ext_getElem? fun i=>?_
 match i with
 | 0=>exact (one_at c0)
 | 1=>exact (one_at c1)
 | 2=>exact (one_at c2)
 | i+3 =>
  rw [List.getElem?_eq_none (by omega)];exact (List.getElem?_eq_none (by show 3<=i+3;omega)).symm
set_option maxRecDepth 20000 in
theorem open_SaS [Lo] (hq:w.heap.size<=lowB) (hval:Value.okWide prog w r b0 25 v) (hd:DataW.Trod enc prog w 0 (fun _=>true) held 25 v d ps):∃ (l:SaV) (L:Sa),v=.agg (l.cs L)/\IsSa w w.heap.size l L:=by
 obtain ⟨fs,hu,_⟩:=lay_str laySa;obtain ⟨cs,rfl,_,_⟩:∃ cs,v=.agg cs/\cs.size=prog.cellsOf 25/\Row.okWide prog w r b0 25 cs:=by
  simpa [Value.okWide,hu] using hval
 obtain ⟨fuel,hf⟩:=hd;obtain ⟨l,L,e,h⟩:=open_SaC hq hf;exact ⟨l,L,congrArg Value.agg (Array.toList_inj.1 e),h⟩
end
end Go.Proofs.YtjjdcnkbibkmkaaGreatDoor
