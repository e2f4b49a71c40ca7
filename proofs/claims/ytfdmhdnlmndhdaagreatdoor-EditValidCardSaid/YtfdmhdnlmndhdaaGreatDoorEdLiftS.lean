/-
  Steps, and rows of them, that came in.
-/
import Derived.Test.YtfdmhdnlmndhdaaGreatDoorEdSp
import Derived.Test.YtfdmhdnlmndhdaaGreatDoorChWk
import Derived.Test.YtfdmhdnlmndhdaaGreatDoorKitL
namespace Go.Proofs.YtfdmhdnlmndhdaaGreatDoor
open Go.ChangeShapes Go.WideShapes Go.ChangeAt Go.RowKit
set_option linter.unusedVariables false

section
variable {H:Type} {enc:TypeId × Value→H} {w:World} {spare:Nat→Bool} {held:Bool} {v:Value} {d:DataW H} {ps:List MemPlace} {r:Reach} {b0:Nat}
theorem open_boolC {fuel:Nat} {cs:List Value} {x:DataW H × List MemPlace} (h:DataW.trod enc Tryz.prog w 0 (fun _=>true) held fuel 4 cs=some x):∃ b:Bool,cs=[.bool b]:=by
 obtain ⟨b,e,_⟩:=DataW.trod_bool (show Tryz.prog.underlying 4=some .bool by kernel_rfl) h
 exact ⟨b,e⟩
theorem cellsSp:Tryz.prog.cellsOf 43=8:=by kernel_rfl
theorem laySp:layOf (Tryz.prog.underlying 43)=some [(3,0),(3,1),(25,2),(26,6),(4,7)]:=by kernel_rfl
theorem open_SpC {fuel:Nat} {cs:List Value} {x:DataW H × List MemPlace} (h:DataW.trod enc Tryz.prog w 0 (fun _=>true) held fuel 43 cs=some x) :
  ∃ (l:SpV) (L:Sp),cs=(l.cs L).toList∧IsSp w w.heap.size l L:=by
 obtain ⟨fs,hu,hsz,hf⟩:=lay_str laySp
 obtain ⟨xs,n,_,_,hl,hlen,hfl⟩:=DataW.trod_struct hu h
 rw [cellsSp] at hl
 obtain ⟨f0,g0,t0,o0⟩:=hf 0 _ rfl
 have h0:=hfl 0 f0 g0
 rw [t0,o0,show Tryz.prog.cellsOf 3=1 by kernel_rfl,List.getElem?_eq_getElem (by rw [hlen,hsz];decide)] at h0
 obtain ⟨x0,c0,_,_⟩:=DataW.trod_int (show Tryz.prog.underlying 3=some (.int .i64) by kernel_rfl) h0
 obtain ⟨f1,g1,t1,o1⟩:=hf 1 _ rfl
 have h1:=hfl 1 f1 g1
 rw [t1,o1,show Tryz.prog.cellsOf 3=1 by kernel_rfl,List.getElem?_eq_getElem (by rw [hlen,hsz];decide)] at h1
 obtain ⟨x1,c1,_,_⟩:=DataW.trod_int (show Tryz.prog.underlying 3=some (.int .i64) by kernel_rfl) h1
 obtain ⟨f2,g2,t2,o2⟩:=hf 2 _ rfl
 have h2:=hfl 2 f2 g2
 rw [t2,o2,show Tryz.prog.cellsOf 25=4 by kernel_rfl,List.getElem?_eq_getElem (by rw [hlen,hsz];decide)] at h2
 obtain ⟨s2,x2,c2,p2⟩:=open_LfC h2
 obtain ⟨f3,g3,t3,o3⟩:=hf 3 _ rfl
 have h3:=hfl 3 f3 g3
 rw [t3,o3,show Tryz.prog.cellsOf 26=1 by kernel_rfl,List.getElem?_eq_getElem (by rw [hlen,hsz];decide)] at h3
 obtain ⟨s3,x3,c3,p3⟩:=open_rowOc h3
 obtain ⟨f4,g4,t4,o4⟩:=hf 4 _ rfl
 have h4:=hfl 4 f4 g4
 rw [t4,o4,show Tryz.prog.cellsOf 4=1 by kernel_rfl,List.getElem?_eq_getElem (by rw [hlen,hsz];decide)] at h4
 obtain ⟨x4,c4⟩:=open_boolC h4
 refine ⟨⟨s2,s3⟩,⟨x0,x1,x2,x3,x4⟩,?_,⟨p2,p3⟩⟩
 refine List.ext_getElem? fun i=>?_
 match i with
 | 0=>exact (one_at c0)
 | 1=>exact (one_at c1)
 | 2=>exact (many_at c2 0 (by decide))
 | 3=>exact (many_at c2 1 (by decide))
 | 4=>exact (many_at c2 2 (by decide))
 | 5=>exact (many_at c2 3 (by decide))
 | 6=>exact (one_at c3)
 | 7=>exact (one_at c4)
 | i+8 =>
  rw [List.getElem?_eq_none (by omega)]
  exact (List.getElem?_eq_none (by show 8≤i+8;omega)).symm
set_option maxRecDepth 20000 in
theorem open_SpS (hval:Value.okWide Tryz.prog w r b0 43 v) (hd:DataW.Trod enc Tryz.prog w 0 (fun _=>true) held 43 v d ps):∃ (l:SpV) (L:Sp),v=.agg (l.cs L)∧IsSp w w.heap.size l L:=by
 obtain ⟨fs,hu,_⟩:=lay_str laySp
 obtain ⟨cs,rfl,_,_⟩:∃ cs,v=.agg cs∧cs.size=Tryz.prog.cellsOf 43∧Row.okWide Tryz.prog w r b0 43 cs:=by
  simpa [Value.okWide,hu] using hval
 obtain ⟨fuel,hf⟩:=hd
 obtain ⟨l,L,e,h⟩:=open_SpC hf
 exact ⟨l,L,congrArg Value.agg (Array.toList_inj.1 e),h⟩
theorem huSps:Tryz.prog.underlying 39=some (.slice 43):=by kernel_rfl
theorem open_rowSp {fuel:Nat} {cs:List Value} {x:DataW H × List MemPlace} (h:DataW.trod enc Tryz.prog w 0 (fun _=>true) held fuel 39 cs=some x) :
  ∃ (s:SlV) (Ls:List Sp),cs=[s.v]∧RwSp w w.heap.size s Ls:=by
 rcases Go.Deep.open_slice huSps h with ⟨hcs,_⟩ | ⟨a,len,cap,m,n,D,Pl,hcs,_,hl,hm,hmm,_,hx⟩
 ·exact ⟨nilS,[],hcs,Nat.le_refl _,Nat.zero_le _,rfl,fun q=>absurd q (by simp)⟩
 rw [if_pos rfl] at hmm
 subst hmm
 have key:∀ i,i<m→∃ (l:SpV) (L:Sp),IsSp w w.heap.size l L∧∀ j u,(l.cs L)[j]?=some u→w.cell? ((a.add (i*8)).add j)=some u:=by
  intro i hi
  obtain ⟨cs',h1,h2⟩:=hx i hi
  obtain ⟨l,L,e,h3⟩:=open_SpC h2
  rw [cellsSp] at h1
  refine ⟨l,L,h3,fun j u hu=>cells_at h1 j u ?_⟩
  rw [e,Array.getElem?_toList]
  exact hu
 obtain ⟨b,off,spot⟩:=a
 refine ⟨⟨some ⟨b,off,spot⟩,len,m⟩,(List.range len).pmap (fun i hi=>(key i hi).choose_spec.choose) (fun i hi=>by have:=List.mem_range.1 hi;omega),hcs,hl,hm,by simp,fun hpos=>?_⟩
 have hpos:0<len:=hpos
 obtain ⟨l0,L0,_,hc0⟩:=key 0 (by omega)
 have hc:=hc0 0 _ rfl
 have hspot:spot=none:=by simpa [Addr.add] using World.cell?_spot hc
 subst hspot
 refine ⟨b,off,rfl,?_,fun i L hL=>?_⟩
 ·have:=World.block_lt_of_cell? w _ hc
  simpa [Addr.add] using this
 rw [List.getElem?_pmap,Option.pmap_eq_some_iff] at hL
 obtain ⟨i',hi',h4,rfl⟩:=hL
 have hi:i'=i:=by
  rw [List.getElem?_range (by have:=(List.getElem?_eq_some_iff.1 h4).1;simpa using this)] at h4
  exact (Option.some.inj h4).symm
 subst hi
 refine ⟨_,(key i' hi').choose_spec.choose_spec.1,fun j u hu=>?_⟩
 have:=(key i' hi').choose_spec.choose_spec.2 j u hu
 simp only [Addr.add_lit] at this
 exact this
set_option maxRecDepth 20000 in
theorem open_rowSpS (hval:Value.okWide Tryz.prog w r b0 39 v) (hd:DataW.Trod enc Tryz.prog w 0 (fun _=>true) held 39 v d ps):∃ (s:SlV) (Ls:List Sp),v=s.v∧RwSp w w.heap.size s Ls:=by
 obtain ⟨a,l,c,rfl⟩:=okWide_slice huSps hval
 obtain ⟨fuel,hf⟩:=hd
 obtain ⟨s,Ls,hcs,h⟩:=open_rowSp hf
 exact ⟨s,Ls,by simpa [Value.cells] using hcs,h⟩
end
end Go.Proofs.YtfdmhdnlmndhdaaGreatDoor
