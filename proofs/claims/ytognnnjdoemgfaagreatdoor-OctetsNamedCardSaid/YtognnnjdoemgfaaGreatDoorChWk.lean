/-
  Rows of nodes whose contents lie in known blocks; rows of slices of octets that are joined, and written; labels: rules.
-/
import Derived.Test.YtognnnjdoemgfaaGreatDoorKitD
import Derived.Test.YtognnnjdoemgfaaGreatDoorKitL
import Derived.Scope
namespace Go.Proofs.YtognnnjdoemgfaaGreatDoor
open Go.ChangeShapes Go.WideShapes Go.ChangeAt Go.RowKit
set_option linter.unusedVariables false

section
variable {P:Program} {Q:Exit→Act→World→Prop} {n:Nat} {E:Env} {w:World}
end
/-- It lies in one of these blocks, if it lies anywhere. -/
def InS (M:Nat→Prop) (s:SlV):Prop:=0<s.m→∀ p,s.A=some p→M p.block
structure InNd (M:Nat→Prop) (l:NdV):Prop where
 enc:InS M l.leaf.enc
 cred:InS M l.leaf.cred
 par:InS M l.leaf.par
 ienc:InS M l.inner.enc
 hash:InS M l.inner.hash
 unm:InS M l.inner.unm
section
variable {w w':World} {B B' g:Nat} {s:SlV} {xs:List Int} {l:NdV} {L:Nd} {M M':Nat→Prop}
theorem InS.nil (M:Nat→Prop):InS M nilS:=fun h=>absurd h (Nat.lt_irrefl 0)
theorem InS.mono (h:InS M s) (g:∀ k,M k→M' k):InS M' s:=fun h0 p e=>g _ (h h0 p e)
theorem InS.of (h:Sl w B s xs) (g:∀ k,k<B→M k):InS M s:=fun h0 p e=>by
 obtain ⟨b,o,e2,hb,_⟩:=h.2.2.2.2 h0
 rw [e2] at e
 obtain rfl:p=⟨b,o,none⟩:=(Option.some.inj e).symm
 exact g b hb
theorem InS.ofN (h:SlN w B s xs) (g:∀ k,k<B→M k):InS M s:=fun h0 p e=>by
 obtain ⟨b,o,e2,hb,_⟩:=h.2.2.2 h0
 rw [e2] at e
 obtain rfl:p=⟨b,o,none⟩:=(Option.some.inj e).symm
 exact g b hb
theorem InNd.mono (h:InNd M l) (g:∀ k,M k→M' k):InNd M' l:=⟨h.enc.mono g,h.cred.mono g,h.par.mono g,h.ienc.mono g,h.hash.mono g,h.unm.mono g⟩
theorem InNd.zero (M:Nat→Prop):InNd M NdV.zero:=⟨.nil M,.nil M,.nil M,.nil M,.nil M,.nil M⟩
theorem InNd.of (h:IsNd w B l L) (g:∀ k,k<B→M k):InNd M l:=⟨.of h.leaf.enc g,.of h.leaf.cred g,.of h.leaf.par g,.of h.inner.enc g,.of h.inner.hash g,.ofN h.inner.unm g⟩
theorem InNd.off (h:InNd M l) (g:¬M B):OffNd B l:=by
 have f:∀ {s:SlV},InS M s→OffS B s:=fun h h0 p e q=>g (q▸h h0 p e)
 exact ⟨f h.enc,f h.cred,f h.par,f h.ienc,f h.hash,f h.unm⟩
theorem Sl.inn (h:Sl w w.heap.size s xs) (f:InS M s) (k:Kept M w w'):Sl w' w'.heap.size s xs :=
 ⟨h.1,h.2.1,h.2.2.1,h.2.2.2.1,fun h0=>by
  obtain ⟨b,o,e,hb,hc⟩:=h.2.2.2.2 h0
  exact ⟨b,o,e,Nat.lt_of_lt_of_le hb k.size,fun i z hi=>(World.cell?_of_block (w:=w) (a:=⟨b,o+i,none⟩) (k.block b hb (f h0 _ e))).trans (hc i z hi)⟩⟩
theorem SlN.inn (h:SlN w w.heap.size s xs) (f:InS M s) (k:Kept M w w'):SlN w' w'.heap.size s xs :=
 ⟨h.1,h.2.1,h.2.2.1,fun h0=>by
  obtain ⟨b,o,e,hb,hc⟩:=h.2.2.2 h0
  exact ⟨b,o,e,Nat.lt_of_lt_of_le hb k.size,fun i z hi=>(World.cell?_of_block (w:=w) (a:=⟨b,o+i,none⟩) (k.block b hb (f h0 _ e))).trans (hc i z hi)⟩⟩
theorem IsNd.inn (h:IsNd w w.heap.size l L) (f:InNd M l) (k:Kept M w w'):IsNd w' w'.heap.size l L :=
 ⟨⟨h.leaf.enc.inn f.enc k,h.leaf.cred.inn f.cred k,h.leaf.par.inn f.par k⟩,⟨h.inner.enc.inn f.ienc k,h.inner.hash.inn f.hash k,h.inner.unm.inn f.unm k⟩⟩
/-- Octets in a row of octets lie in no row of nodes. -/
theorem OffS.u8 {cs:Array Value} {t:TypeId} (h:U8 w s.A) (r:RowAt w g t cs) (ht:t≠5):OffS g s:=fun _ p e q=>by
 obtain ⟨c,hc⟩:=h p e
 unfold RowAt at r
 rw [q,r] at hc
 injection hc with hc
 injection hc with _ hc
 exact ht hc
theorem Hs.lit {b m:Nat} {cs:Array Value} (h:Sl w B ⟨some ⟨b,0,none⟩,m,m⟩ xs) (hB:B≤w.heap.size) (r:RowAt w b 5 cs):Hs w ⟨some ⟨b,0,none⟩,m,m⟩ xs :=
 ⟨h.more hB,fun p e=>by
  obtain rfl:p=⟨b,0,none⟩:=(Option.some.inj e).symm
  exact ⟨cs,r⟩⟩
theorem Hs.nil (w:World):Hs w nilS []:=⟨Sl.nil _ _,fun p e=>by cases e⟩
end
/-- A row of nodes of one's own, in block g; what they say lies in the blocks of M. -/
def OwnNm (M:Nat→Prop) (w:World) (g:Nat) (s:SlV) (Ls:List Nd):Prop:=s.A=some ⟨g,0,none⟩∧∃ (ps:List NdP) (cur:Array Value),ps.map (·.2)=Ls∧s.m=ps.length∧s.m≤s.c∧s.c≤maxLen∧RowAt w g 38 cur∧cur.size=s.c*8∧cur.toList.take (ps.length*8)=ndCells ps∧∀ p∈ps,IsNd w w.heap.size p.1 p.2∧InNd M p.1
section
variable {w w':World} {B B' g T:Nat} {s r:SlV} {xs:List Int} {l:NdV} {L:Nd} {Ls Ms:List Nd} {M M' m:Nat→Prop}
theorem OwnNm.cast (h:OwnNm M w g s Ls) (e:Ls=Ms):OwnNm M w g s Ms:=e▸h
theorem OwnNm.mono (h:OwnNm M w g s Ls) (f:∀ k,M k→M' k):OwnNm M' w g s Ls:=by
 obtain ⟨e,ps,cur,h1,h2,h3,h4,h5,h6,h7,h8⟩:=h
 exact ⟨e,ps,cur,h1,h2,h3,h4,h5,h6,h7,fun p q=>⟨(h8 p q).1,(h8 p q).2.mono f⟩⟩
theorem OwnNm.lt (h:OwnNm M w g s Ls):g<w.heap.size:=by
 obtain ⟨_,ps,cur,_,_,_,_,hr,_⟩:=h
 exact hr.lt
theorem OwnNm.len (h:OwnNm M w g s Ls):Ls.length=s.m:=by
 obtain ⟨_,ps,cur,rfl,e,_⟩:=h
 rw [e,List.length_map]
theorem OwnNm.kept (h:OwnNm M w g s Ls) (k:Kept m w w') (hm:∀ q,M q→m q) (hg:m g):OwnNm M w' g s Ls:=by
 obtain ⟨e,ps,cur,h1,h2,h3,h4,h5,h6,h7,h8⟩:=h
 exact ⟨e,ps,cur,h1,h2,h3,h4,k.row hg h5,h6,h7,fun p q=>⟨(h8 p q).1.inn (h8 p q).2 (k.mono fun i _ z=>hm i z),(h8 p q).2⟩⟩
theorem OwnNm.below (h:OwnNm M w g s Ls) (k:Below w.heap.size w w'):OwnNm M w' g s Ls:=h.kept (m:=fun _=>True) (Below.kept k) (fun _ _=>trivial) trivial
theorem OwnNm.alt {b:Nat} (h:OwnNm M w g s Ls) (k:Alt w w' b) (hb:¬M b) (hg:g≠b):OwnNm M w' g s Ls:=h.kept k (fun q z e=>hb (e▸z)) hg
theorem OwnNm.of {base:Nat} (h:OwnNd w base B s.v Ls) (hw:B≤w.heap.size) (hpos:0<Ls.length):∃ g,base≤g∧g<w.heap.size∧OwnNm (fun k=>k<B) w g s Ls:=by
 obtain ⟨ps,rfl,ho,hp⟩:=h
 rw [List.length_map] at hpos
 rcases ho.2 with ⟨e,h0⟩ | ⟨g,cap,cur,e,hg,hh,h1,h2,h3,h4⟩
 ·omega
 obtain rfl:s=⟨some ⟨g,0,none⟩,ps.length,cap⟩:=SlV.v_inj e
 exact ⟨g,hg,(Array.getElem?_eq_some_iff.1 hh).1,rfl,ps,cur,rfl,rfl,h1,h2,hh,h3,h4,fun p q=>⟨(hp p q).more hw,.of (hp p q) fun _ z=>z⟩⟩
theorem OwnNm.set (h:OwnNm M w g s Ls) (hM:¬M g) {i:Nat} (hi:i<Ls.length) (hl:IsNd w w.heap.size l L) (ho:InNd M l) {new:Array Value} (st:Set1 w w' g 38 new)
  (hnew:∀ cur:Array Value,RowAt w g 38 cur→new.toList=cur.toList.take (0+i*8)++(l.cs L).toList++cur.toList.drop (0+i*8+8)):OwnNm M w' g s (Ls.set i L):=by
 obtain ⟨e,ps,cur,rfl,h2,h3,h4,h5,h6,h7,h8⟩:=h
 rw [List.length_map] at hi
 have hnew:=hnew cur h5
 have k:Kept M w w':=(Kept.mono st.alt fun i _ z q=>hM (q▸z))
 have hT:cur.toList=ndCells ps++cur.toList.drop (ps.length*8):=by
  conv=>lhs;rw [←List.take_append_drop (ps.length*8) cur.toList,h7]
 generalize hR:cur.toList.drop (ps.length*8)=R at hT
 have hlen:=ndCells_len ps
 have hnw:new.toList=ndCells (ps.set i (l,L))++R:=by
  rw [hnew,←ndCells_set ps i (l,L) hi,hT,Nat.zero_add,List.take_append_of_le_length (by omega),List.drop_append_of_le_length (by omega)]
  simp only [List.append_assoc,ndc]
 refine ⟨e,ps.set i (l,L),new,by rw [List.map_set],by rw [List.length_set];exact h2,h3,h4,st.row,?_,?_,fun p hp=>?_⟩
 ·have hc:cur.toList.length=s.c*8:=by
   rw [Array.length_toList]
   exact h6
  rw [←Array.length_toList,hnw,List.length_append,ndCells_len,List.length_set,←hR,List.length_drop,hc]
  omega
 ·rw [hnw]
  exact List.take_left' (by rw [ndCells_len])
 rcases List.mem_or_eq_of_mem_set hp with q | q
 ·exact ⟨(h8 p q).1.inn (h8 p q).2 k,(h8 p q).2⟩
 subst q
 exact ⟨hl.inn ho k,ho⟩
end
section
variable {ops:Array Oper} {Q:Exit→Act→World→Prop} {n d:Nat} {E:Env} {o:Oper} {rest:List Oper} {w w':World} {x y z:Operand} {ty:TypeId} {g T base:Nat} {s r:SlV} {l:NdV} {L:Nd} {Ls:List Nd} {xs:List Int} {M:Nat→Prop} {u:Value} {Xs Ys:List (List Int)}
theorem OwnOc.hs (h:OwnOc w base s.v Xs):∃ ps:List OcP,ps.map (·.2)=Xs∧s.m=ps.length∧(∀ p∈ps,Hs w p.1 p.2)∧(0<s.m→∃ b,s.A=some ⟨b,0,none⟩∧∀ j u,(ps.map (·.1.v))[j]?=some u→w.cell? ⟨b,j,none⟩=some u):=by
 obtain ⟨ps,rfl,ho,hp⟩:=h
 rcases ho.2 with ⟨e,h0⟩ | ⟨g,cap,cur,e,hg,hh,h1,h2,h3,h4⟩
 ·obtain rfl:s=nilS:=SlV.v_inj e
  exact ⟨ps,rfl,h0.symm,hp,fun q=>absurd q (Nat.lt_irrefl 0)⟩
 obtain rfl:s=⟨some ⟨g,0,none⟩,ps.length,cap⟩:=SlV.v_inj e
 refine ⟨ps,rfl,rfl,hp,fun _=>⟨g,rfl,fun j u hu=>?_⟩⟩
 have:=ho.cells (g:=g) rfl j u hu
 rw [Addr.add_lit] at this
 simpa using this
theorem RwOc.tail {B l:Nat} (h:RwOc w B s Xs) (hl:l≤s.m):RwOc w B ⟨cutA s.A l s.c,s.m-l,s.c-l⟩ (Xs.drop l):=by
 have hc:=h.cap
 have hle:=h.len
 refine ⟨by show s.m-l≤s.c-l;omega,by have:=h.2.1;show s.c-l≤_;omega,by rw [List.length_drop,hle],fun hm=>?_⟩
 have hm:0<s.m-l:=hm
 obtain ⟨b,o,e,hB,hcell⟩:=h.2.2.2 (by omega)
 refine ⟨b,o+l,?_,hB,fun i xs hx=>?_⟩
 ·show cutA s.A l s.c=_
  rw [e]
  unfold cutA
  rw [if_neg (by omega),Option.map_some,Addr.add_lit,Nat.mul_one]
 rw [List.getElem?_drop] at hx
 obtain ⟨r,h1,h2⟩:=hcell (l+i) xs hx
 exact ⟨r,h1,by rw [show o+l+i*1=o+(l+i)*1 by omega];exact h2⟩
/-- A slice is written into a row of one's own of slices of octets. -/
theorem OwnOc.set (h:OwnOc w base s.v Xs) {i:Nat} (hi:i<Xs.length) (hs:Hs w r xs):∃ g cap cur,s=⟨some ⟨g,0,none⟩,Xs.length,cap⟩∧base≤g∧RowAt w g 23 cur∧cur.size=cap∧Xs.length≤cap∧∀ w',Set1 w w' g 23 (cur.setIfInBounds i r.v)→OwnOc w' base s.v (Xs.set i xs):=by
 obtain ⟨ps,rfl,ho,hp⟩:=h
 rw [List.length_map] at hi ⊢
 rcases ho.2 with ⟨e,h0⟩ | ⟨g,cap,cur,e,hg,hh,h1,h2,h3,h4⟩
 ·omega
 obtain rfl:s=⟨some ⟨g,0,none⟩,ps.length,cap⟩:=SlV.v_inj e
 have hcc:cur.size=cap:=by omega
 refine ⟨g,cap,cur,rfl,hg,hh,hcc,h1,fun w' st=>⟨ps.set i (r,xs),by rw [List.map_set],⟨by rw [List.length_map,Nat.mul_one],.inr ⟨g,cap,_,by rw [List.length_set],hg,st.row,by rw [List.length_set];exact h1,h2,by rw [Array.size_setIfInBounds];omega,?_⟩⟩,fun p hq=>?_⟩⟩
 ·rw [List.length_set,Array.toList_setIfInBounds,List.map_set,List.take_set,h4]
 have k:Alt w w' g:=st.alt
 have hne:∀ k cs,w.heap[k]?=some (.cells cs 5 (0,0))→k≠g:=fun k cs e q=>by
  rw [q,hh] at e
  exact oc_ne_u8 (by injection e with e;injection e)
 rcases List.mem_or_eq_of_mem_set hq with z | z
 ·exact (hp p z).kept k hne
 subst z
 exact hs.kept k hne
end
section
variable {P:Program} {Q:Exit→Act→World→Prop} {n:Nat} {E:Env} {w:World} {v u z:Value} {ds:List Deferred}
end
/-- All its octets, wherever it begins. -/
def InA (M:Nat→Prop) (s:SlV):Prop:=∀ p,s.A=some p→M p.block
section
variable {w w':World} {B n:Nat} {s:SlV} {xs:List Int} {M M':Nat→Prop}
theorem InA.nil (M:Nat→Prop):InA M nilS:=fun p e=>by cases e
theorem InA.in (h:InA M s):InS M s:=fun _=>h
theorem InA.mono (h:InA M s) (g:∀ k,M k→M' k):InA M' s:=fun p e=>g _ (h p e)
theorem Hs.inn (h:Hs w s xs) (f:InA M s) (k:Kept M w w'):Hs w' s xs :=
 ⟨h.1.inn f.in k,fun p e=>by
  obtain ⟨cs,hc⟩:=h.2 p e
  exact ⟨cs,(k.block p.block (Array.getElem?_eq_some_iff.1 hc).1 (f p e)).trans hc⟩⟩
theorem Hs.lt (h:Hs w s xs):∀ p,s.A=some p→p.block<w.heap.size:=fun p e=>by
 obtain ⟨cs,hc⟩:=h.2 p e
 exact (Array.getElem?_eq_some_iff.1 hc).1
end
section
variable {H:Type} {enc:TypeId × Value→H} {w:World} {spare:Nat→Bool} {held:Bool} {v:Value} {d:DataW H} {ps:List MemPlace} {r:Reach} {b0:Nat}
end
end Go.Proofs.YtognnnjdoemgfaaGreatDoor
