/-
  Rows of nodes whose contents lie in known blocks; rows of slices of octets that are joined, and written; labels: rules.
-/
import Derived.Test.YtfdmhdnlmndhdaaGreatDoorKitD
import Derived.Test.YtfdmhdnlmndhdaaGreatDoorKitL
import Derived.Scope
namespace Go.Proofs.YtfdmhdnlmndhdaaGreatDoor
open Go.ChangeShapes Go.WideShapes Go.ChangeAt Go.RowKit
set_option linter.unusedVariables false

section
variable {P:Program} {Q:Exit→Act→World→Prop} {n:Nat} {E:Env} {w:World}
theorem cg_scope {c:Code} (h:CG P (Exit.noGoto Q) n E c w):CG P Q n E (.scope c) w:=fun a ha=>wp_scope_straight (h a ha)
theorem eg_scope_ret (h:∀ a,Holds n E a→Q .ret a w):∀ a,Holds n E a→Exit.noGoto Q .ret a w:=h
theorem cg_label {l:Nat} (h:∀ a,Holds n E a→Q .normal a w):CG P Q n E (.label l) w:=fun a ha=>wp_label (h a ha)
end
/-- The cells of a node's second part. -/
theorem nd_sub {w:World} {b j:Nat} {l:NdV} {L:Nd} (hc:∀ k u,(l.cs L)[k]?=some u→w.cell? ⟨b,j+k,none⟩=some u):∀ k u,(l.inner.cs L.inner)[k]?=some u→w.cell? ⟨b,j+5+k,none⟩=some u:=fun k u e=>by
 have hk:k<3:=(Array.getElem?_eq_some_iff.1 e).1
 rw [Nat.add_assoc]
 refine hc (5+k) u ?_
 match k,hk with
 | 0,_=>exact e
 | 1,_=>exact e
 | 2,_=>exact e
/-- It lies in one of these blocks, if it lies anywhere. -/
def InS (M:Nat→Prop) (s:SlV):Prop:=0<s.m→∀ p,s.A=some p→M p.block
structure InNd (M:Nat→Prop) (l:NdV):Prop where
 enc:InS M l.leaf.enc
 cred:InS M l.leaf.cred
 par:InS M l.leaf.par
 ienc:InS M l.inner.enc
 hash:InS M l.inner.hash
 unm:InS M l.inner.unm
section
variable {w w':World} {B B' g:Nat} {s:SlV} {xs:List Int} {l:NdV} {L:Nd} {M M':Nat→Prop}
theorem InS.nil (M:Nat→Prop):InS M nilS:=fun h=>absurd h (Nat.lt_irrefl 0)
theorem InS.mono (h:InS M s) (g:∀ k,M k→M' k):InS M' s:=fun h0 p e=>g _ (h h0 p e)
theorem InS.of (h:Sl w B s xs) (g:∀ k,k<B→M k):InS M s:=fun h0 p e=>by
 obtain ⟨b,o,e2,hb,_⟩:=h.2.2.2.2 h0
 rw [e2] at e
 obtain rfl:p=⟨b,o,none⟩:=(Option.some.inj e).symm
 exact g b hb
theorem InS.ofN (h:SlN w B s xs) (g:∀ k,k<B→M k):InS M s:=fun h0 p e=>by
 obtain ⟨b,o,e2,hb,_⟩:=h.2.2.2 h0
 rw [e2] at e
 obtain rfl:p=⟨b,o,none⟩:=(Option.some.inj e).symm
 exact g b hb
theorem InNd.mono (h:InNd M l) (g:∀ k,M k→M' k):InNd M' l:=⟨h.enc.mono g,h.cred.mono g,h.par.mono g,h.ienc.mono g,h.hash.mono g,h.unm.mono g⟩
theorem InNd.zero (M:Nat→Prop):InNd M NdV.zero:=⟨.nil M,.nil M,.nil M,.nil M,.nil M,.nil M⟩
theorem InNd.of (h:IsNd w B l L) (g:∀ k,k<B→M k):InNd M l:=⟨.of h.leaf.enc g,.of h.leaf.cred g,.of h.leaf.par g,.of h.inner.enc g,.of h.inner.hash g,.ofN h.inner.unm g⟩
theorem InNd.off (h:InNd M l) (g:¬M B):OffNd B l:=by
 have f:∀ {s:SlV},InS M s→OffS B s:=fun h h0 p e q=>g (q▸h h0 p e)
 exact ⟨f h.enc,f h.cred,f h.par,f h.ienc,f h.hash,f h.unm⟩
theorem Sl.inn (h:Sl w w.heap.size s xs) (f:InS M s) (k:Kept M w w'):Sl w' w'.heap.size s xs :=
 ⟨h.1,h.2.1,h.2.2.1,h.2.2.2.1,fun h0=>by
  obtain ⟨b,o,e,hb,hc⟩:=h.2.2.2.2 h0
  exact ⟨b,o,e,Nat.lt_of_lt_of_le hb k.size,fun i z hi=>(World.cell?_of_block (w:=w) (a:=⟨b,o+i,none⟩) (k.block b hb (f h0 _ e))).trans (hc i z hi)⟩⟩
theorem SlN.inn (h:SlN w w.heap.size s xs) (f:InS M s) (k:Kept M w w'):SlN w' w'.heap.size s xs :=
 ⟨h.1,h.2.1,h.2.2.1,fun h0=>by
  obtain ⟨b,o,e,hb,hc⟩:=h.2.2.2 h0
  exact ⟨b,o,e,Nat.lt_of_lt_of_le hb k.size,fun i z hi=>(World.cell?_of_block (w:=w) (a:=⟨b,o+i,none⟩) (k.block b hb (f h0 _ e))).trans (hc i z hi)⟩⟩
theorem IsNd.inn (h:IsNd w w.heap.size l L) (f:InNd M l) (k:Kept M w w'):IsNd w' w'.heap.size l L :=
 ⟨⟨h.leaf.enc.inn f.enc k,h.leaf.cred.inn f.cred k,h.leaf.par.inn f.par k⟩,⟨h.inner.enc.inn f.ienc k,h.inner.hash.inn f.hash k,h.inner.unm.inn f.unm k⟩⟩
/-- Octets in a row of octets lie in no row of nodes. -/
theorem OffS.u8 {cs:Array Value} {t:TypeId} (h:U8 w s.A) (r:RowAt w g t cs) (ht:t≠5):OffS g s:=fun _ p e q=>by
 obtain ⟨c,hc⟩:=h p e
 unfold RowAt at r
 rw [q,r] at hc
 injection hc with hc
 injection hc with _ hc
 exact ht hc
theorem nd_ne_u8:50≠5:=by decide
theorem OwnNa.offu8 {T:Nat} {r:SlV} {Ls:List Nd} (h:OwnNa w g T s Ls) (hr:Hs w r xs):OffS g r:=by
 obtain ⟨_,_,ps,cur,_,_,_,_,h5,_⟩:=h
 exact OffS.u8 hr.2 h5 nd_ne_u8
theorem Hs.lit {b m:Nat} {cs:Array Value} (h:Sl w B ⟨some ⟨b,0,none⟩,m,m⟩ xs) (hB:B≤w.heap.size) (r:RowAt w b 5 cs):Hs w ⟨some ⟨b,0,none⟩,m,m⟩ xs :=
 ⟨h.more hB,fun p e=>by
  obtain rfl:p=⟨b,0,none⟩:=(Option.some.inj e).symm
  exact ⟨cs,r⟩⟩
theorem Hs.nil (w:World):Hs w nilS []:=⟨Sl.nil _ _,fun p e=>by cases e⟩
end
/-- A row of nodes of one's own, in block g; what they say lies in the blocks of M. -/
def OwnNm (M:Nat→Prop) (w:World) (g:Nat) (s:SlV) (Ls:List Nd):Prop:=s.A=some ⟨g,0,none⟩∧∃ (ps:List NdP) (cur:Array Value),ps.map (·.2)=Ls∧s.m=ps.length∧s.m≤s.c∧s.c≤maxLen∧RowAt w g 50 cur∧cur.size=s.c*8∧cur.toList.take (ps.length*8)=ndCells ps∧∀ p∈ps,IsNd w w.heap.size p.1 p.2∧InNd M p.1
section
variable {w w':World} {B B' g T:Nat} {s r:SlV} {xs:List Int} {l:NdV} {L:Nd} {Ls Ms:List Nd} {M M' m:Nat→Prop}
theorem OwnNm.cast (h:OwnNm M w g s Ls) (e:Ls=Ms):OwnNm M w g s Ms:=e▸h
theorem OwnNm.mono (h:OwnNm M w g s Ls) (f:∀ k,M k→M' k):OwnNm M' w g s Ls:=by
 obtain ⟨e,ps,cur,h1,h2,h3,h4,h5,h6,h7,h8⟩:=h
 exact ⟨e,ps,cur,h1,h2,h3,h4,h5,h6,h7,fun p q=>⟨(h8 p q).1,(h8 p q).2.mono f⟩⟩
theorem OwnNm.na (h:OwnNm M w g s Ls) (hg:¬M g):OwnNa w g w.heap.size s Ls:=by
 obtain ⟨e,ps,cur,h1,h2,h3,h4,h5,h6,h7,h8⟩:=h
 exact ⟨e,Nat.le_refl _,ps,cur,h1,h2,h3,h4,h5,h6,h7,fun p q=>⟨(h8 p q).1,(h8 p q).2.off hg⟩⟩
theorem OwnNm.lt (h:OwnNm M w g s Ls):g<w.heap.size:=by
 obtain ⟨_,ps,cur,_,_,_,_,hr,_⟩:=h
 exact hr.lt
theorem OwnNm.len (h:OwnNm M w g s Ls):Ls.length=s.m:=by
 obtain ⟨_,ps,cur,rfl,e,_⟩:=h
 rw [e,List.length_map]
theorem OwnNm.kept (h:OwnNm M w g s Ls) (k:Kept m w w') (hm:∀ q,M q→m q) (hg:m g):OwnNm M w' g s Ls:=by
 obtain ⟨e,ps,cur,h1,h2,h3,h4,h5,h6,h7,h8⟩:=h
 exact ⟨e,ps,cur,h1,h2,h3,h4,k.row hg h5,h6,h7,fun p q=>⟨(h8 p q).1.inn (h8 p q).2 (k.mono fun i _ z=>hm i z),(h8 p q).2⟩⟩
theorem OwnNm.below (h:OwnNm M w g s Ls) (k:Below w.heap.size w w'):OwnNm M w' g s Ls:=h.kept (m:=fun _=>True) (Below.kept k) (fun _ _=>trivial) trivial
theorem OwnNm.alt {b:Nat} (h:OwnNm M w g s Ls) (k:Alt w w' b) (hb:¬M b) (hg:g≠b):OwnNm M w' g s Ls:=h.kept k (fun q z e=>hb (e▸z)) hg
theorem OwnNm.of {base:Nat} (h:OwnNd w base B s.v Ls) (hw:B≤w.heap.size) (hpos:0<Ls.length):∃ g,base≤g∧g<w.heap.size∧OwnNm (fun k=>k<B) w g s Ls:=by
 obtain ⟨ps,rfl,ho,hp⟩:=h
 rw [List.length_map] at hpos
 rcases ho.2 with ⟨e,h0⟩ | ⟨g,cap,cur,e,hg,hh,h1,h2,h3,h4⟩
 ·omega
 obtain rfl:s=⟨some ⟨g,0,none⟩,ps.length,cap⟩:=SlV.v_inj e
 exact ⟨g,hg,(Array.getElem?_eq_some_iff.1 hh).1,rfl,ps,cur,rfl,rfl,h1,h2,hh,h3,h4,fun p q=>⟨(hp p q).more hw,.of (hp p q) fun _ z=>z⟩⟩
theorem OwnNm.set (h:OwnNm M w g s Ls) (hM:¬M g) {i:Nat} (hi:i<Ls.length) (hl:IsNd w w.heap.size l L) (ho:InNd M l) {new:Array Value} (st:Set1 w w' g 50 new)
  (hnew:∀ cur:Array Value,RowAt w g 50 cur→new.toList=cur.toList.take (0+i*8)++(l.cs L).toList++cur.toList.drop (0+i*8+8)):OwnNm M w' g s (Ls.set i L):=by
 obtain ⟨e,ps,cur,rfl,h2,h3,h4,h5,h6,h7,h8⟩:=h
 rw [List.length_map] at hi
 have hnew:=hnew cur h5
 have k:Kept M w w':=(Kept.mono st.alt fun i _ z q=>hM (q▸z))
 have hT:cur.toList=ndCells ps++cur.toList.drop (ps.length*8):=by
  conv=>lhs;rw [←List.take_append_drop (ps.length*8) cur.toList,h7]
 generalize hR:cur.toList.drop (ps.length*8)=R at hT
 have hlen:=ndCells_len ps
 have hnw:new.toList=ndCells (ps.set i (l,L))++R:=by
  rw [hnew,←ndCells_set ps i (l,L) hi,hT,Nat.zero_add,List.take_append_of_le_length (by omega),List.drop_append_of_le_length (by omega)]
  simp only [List.append_assoc,ndc]
 refine ⟨e,ps.set i (l,L),new,by rw [List.map_set],by rw [List.length_set];exact h2,h3,h4,st.row,?_,?_,fun p hp=>?_⟩
 ·have hc:cur.toList.length=s.c*8:=by
   rw [Array.length_toList]
   exact h6
  rw [←Array.length_toList,hnw,List.length_append,ndCells_len,List.length_set,←hR,List.length_drop,hc]
  omega
 ·rw [hnw]
  exact List.take_left' (by rw [ndCells_len])
 rcases List.mem_or_eq_of_mem_set hp with q | q
 ·exact ⟨(h8 p q).1.inn (h8 p q).2 k,(h8 p q).2⟩
 subst q
 exact ⟨hl.inn ho k,ho⟩
end
section
variable {ops:Array Oper} {Q:Exit→Act→World→Prop} {n d:Nat} {E:Env} {o:Oper} {rest:List Oper} {w w':World} {x y z:Operand} {ty:TypeId} {g T base:Nat} {s r:SlV} {l:NdV} {L:Nd} {Ls:List Nd} {xs:List Int} {M:Nat→Prop} {u:Value} {Xs Ys:List (List Int)}
/-- A node is written into such a row. -/
theorem lg_stM {i:Nat} (hown:OwnNm M w g s Ls) (hM:¬M g) (hl:IsNd w w.heap.size l L) (hof:InNd M l) (hi:i<Ls.length) (hw:Want ops E o true) (ho:o.op=.store 50 x y) (hx:val E x=some (pv g (0+i*8))) (hy:val E y=some (.agg (l.cs L))) (hd:o.dst=none)
  (h:∀ w' new,Set1 w w' g 50 new→OwnNm M w' g s (Ls.set i L)→LG Tryz.prog ops Q n E rest w'):LG Tryz.prog ops Q n E (o::rest) w:=by
 have hm:=hown.len
 have hown2:=hown
 obtain ⟨e,ps,cur,h1,h2,h3,h4,h5,h6,h7,h8⟩:=hown
 refine lg_st (j:=0+i*8) hw h5 ho hx hy (by kernel_rfl) (by kernel_rfl) (by rw [h6];show 0+i*8+8≤_;omega) rfl hd fun w' st=>h w' _ st (hown2.set hM hi hl hof st fun cur' r'=>?_)
 obtain rfl:cur=cur':=by
  unfold RowAt at h5 r'
  rw [h5] at r'
  injection r' with r'
  injection r'
 rfl
theorem OwnOc.hs (h:OwnOc w base s.v Xs):∃ ps:List OcP,ps.map (·.2)=Xs∧s.m=ps.length∧(∀ p∈ps,Hs w p.1 p.2)∧(0<s.m→∃ b,s.A=some ⟨b,0,none⟩∧∀ j u,(ps.map (·.1.v))[j]?=some u→w.cell? ⟨b,j,none⟩=some u):=by
 obtain ⟨ps,rfl,ho,hp⟩:=h
 rcases ho.2 with ⟨e,h0⟩ | ⟨g,cap,cur,e,hg,hh,h1,h2,h3,h4⟩
 ·obtain rfl:s=nilS:=SlV.v_inj e
  exact ⟨ps,rfl,h0.symm,hp,fun q=>absurd q (Nat.lt_irrefl 0)⟩
 obtain rfl:s=⟨some ⟨g,0,none⟩,ps.length,cap⟩:=SlV.v_inj e
 refine ⟨ps,rfl,rfl,hp,fun _=>⟨g,rfl,fun j u hu=>?_⟩⟩
 have:=ho.cells (g:=g) rfl j u hu
 rw [Addr.add_lit] at this
 simpa using this
theorem RwOc.tail {B l:Nat} (h:RwOc w B s Xs) (hl:l≤s.m):RwOc w B ⟨cutA s.A l s.c,s.m-l,s.c-l⟩ (Xs.drop l):=by
 have hc:=h.cap
 have hle:=h.len
 refine ⟨by show s.m-l≤s.c-l;omega,by have:=h.2.1;show s.c-l≤_;omega,by rw [List.length_drop,hle],fun hm=>?_⟩
 have hm:0<s.m-l:=hm
 obtain ⟨b,o,e,hB,hcell⟩:=h.2.2.2 (by omega)
 refine ⟨b,o+l,?_,hB,fun i xs hx=>?_⟩
 ·show cutA s.A l s.c=_
  rw [e]
  unfold cutA
  rw [if_neg (by omega),Option.map_some,Addr.add_lit,Nat.mul_one]
 rw [List.getElem?_drop] at hx
 obtain ⟨r,h1,h2⟩:=hcell (l+i) xs hx
 exact ⟨r,h1,by rw [show o+l+i*1=o+(l+i)*1 by omega];exact h2⟩
/-- A slice is written into a row of one's own of slices of octets. -/
theorem OwnOc.set (h:OwnOc w base s.v Xs) {i:Nat} (hi:i<Xs.length) (hs:Hs w r xs):∃ g cap cur,s=⟨some ⟨g,0,none⟩,Xs.length,cap⟩∧base≤g∧RowAt w g 23 cur∧cur.size=cap∧Xs.length≤cap∧∀ w',Set1 w w' g 23 (cur.setIfInBounds i r.v)→OwnOc w' base s.v (Xs.set i xs):=by
 obtain ⟨ps,rfl,ho,hp⟩:=h
 rw [List.length_map] at hi ⊢
 rcases ho.2 with ⟨e,h0⟩ | ⟨g,cap,cur,e,hg,hh,h1,h2,h3,h4⟩
 ·omega
 obtain rfl:s=⟨some ⟨g,0,none⟩,ps.length,cap⟩:=SlV.v_inj e
 have hcc:cur.size=cap:=by omega
 refine ⟨g,cap,cur,rfl,hg,hh,hcc,h1,fun w' st=>⟨ps.set i (r,xs),by rw [List.map_set],⟨by rw [List.length_map,Nat.mul_one],.inr ⟨g,cap,_,by rw [List.length_set],hg,st.row,by rw [List.length_set];exact h1,h2,by rw [Array.size_setIfInBounds];omega,?_⟩⟩,fun p hq=>?_⟩⟩
 ·rw [List.length_set,Array.toList_setIfInBounds,List.map_set,List.take_set,h4]
 have k:Alt w w' g:=st.alt
 have hne:∀ k cs,w.heap[k]?=some (.cells cs 5 (0,0))→k≠g:=fun k cs e q=>by
  rw [q,hh] at e
  exact oc_ne_u8 (by injection e with e;injection e)
 rcases List.mem_or_eq_of_mem_set hq with z | z
 ·exact (hp p z).kept k hne
 subst z
 exact hs.kept k hne
theorem OwnOc.addr {i:Nat} (h:OwnOc w base s.v Xs) (hi:i<Xs.length):∃ g,s.A=some ⟨g,0,none⟩∧base≤g∧g<w.heap.size:=by
 obtain ⟨ps,rfl,ho,hp⟩:=h
 rw [List.length_map] at hi
 rcases ho.2 with ⟨e,h0⟩ | ⟨g,cap,cur,e,hg,hh,_⟩
 ·omega
 obtain rfl:s=⟨some ⟨g,0,none⟩,ps.length,cap⟩:=SlV.v_inj e
 exact ⟨g,rfl,hg,(Array.getElem?_eq_some_iff.1 hh).1⟩
end
section
variable {P:Program} {Q:Exit→Act→World→Prop} {n:Nat} {E:Env} {w:World} {v u z:Value} {ds:List Deferred}
theorem res_tmp3 {fn:Func} {p q r:Tmp} {w':World} (h:fn.results=#[.tmp p,.tmp q,.tmp r]) (hp:look E p=some v) (hq:look E q=some u) (hr:look E r=some z):∀ a,Holds n E a→(results fn a.tmps).run P w'=.ok (.tuple #[v,u,z]) w':=fun a ha=>by
 have h1:=ha.2.2 p _ hp
 have h2:=ha.2.2 q _ hq
 have h3:=ha.2.2 r _ hr
 simp [results,h,h1,h2,h3]
/-- A range of two variables that are both taken. -/
theorem cx_told3 {α:Type} {g:Operand} {p q d1 d2:Nat} {asg body:Code} {gf:FuncId} {lb:Array Value} {e1 e2:α→Value} {xs:List α} {dep:Nat→Prop} {m0:Nat→Prop}
  (hf : ((P.funcs[gf]?).map fun fn => (fn.name == "runtime.NumGoroutine", fn.body.isNone)) = some (false, false))
  (hg:val E g=some (.func (.func gf) #[] lb)) (hT:Tells P gf lb (fun x=>#[e1 x,e2 x]) xs dep w) (hm:∀ k,m0 k→¬dep k∧k<w.heap.size) (hdl:∀ k,w.heap.size≤k→¬dep k) (hp:p<n) (hq:q<n)
  (I:List α→(Nat→Prop)→World→Prop) (Ix:Code→List α→(Nat→Prop)→World→Prop) (hI:Lasts w.heap.size I) (hIx:∀ c,Lasts w.heap.size (Ix c)) (h0:I [] m0 w)
  (hassign:∀ l x W,CX (some l) [] P (Exit.then (fun a' W'=>W'=W∧Holds n ((d2,e2 x)::(d1,e1 x)::(q,e2 x)::(p,e1 x)::E) a') (fun _ _ _=>False)) n ((q,e2 x)::(p,e1 x)::E) asg W)
  (hbody:∀ l pre x W m,Did m0 m w W→I pre m W→(pre++[x]) <+: xs→CX (some l) [] P (toldPost I Ix (pre++[x]) m W) n ((d2,e2 x)::(d1,e1 x)::(q,e2 x)::(p,e1 x)::E) body W)
  (hdone:∀ D W m,w.heap.size≤D→Did m0 m w W→¬m D→I xs m W→W.heap[D]?=some (.deferred (some []))→∀ a,Holds n E a→Q .normal (mkd (mark D::ds) a) W)
  (hstop:∀ D c pre W m,w.heap.size≤D→pre <+: xs→Did m0 m w W→¬m D→Ix c pre m W→W.heap[D]?=some (.deferred (some []))→CX none (mark D::ds) P Q n E c W) :
  CX none ds P Q n E (.rangeFunc g #[p,q] asg body) w :=
 cx_told (fun x=>(q,e2 x)::(p,e1 x)::E) (fun x=>(d2,e2 x)::(d1,e1 x)::(q,e2 x)::(p,e1 x)::E) hf hg hT (fun _=>rfl) hm hdl (fun x tmps ha=>hold_two hp hq ha) I Ix hI hIx h0 hassign hbody hdone hstop
/-- Both are taken, one behind the other. -/
theorem as_two {d1 d2 p q i1 i2:Nat} {l1 l2:List Oper} {o1 o2:Oper} (hl1:l1=[o1]) (ho1:o1.op=.assign (.tmp p)) (hd1:o1.dst=some d1) (hg1:o1.guard=none) (hn1:d1<n) (hv1:look E p=some v)
  (hl2:l2=[o2]) (ho2:o2.op=.assign (.tmp q)) (hd2:o2.dst=some d2) (hg2:o2.guard=none) (hn2:d2<n) (hv2:look ((d1,v)::E) q=some u) (k:Nat) (W:World) :
  CX (some k) [] P (Exit.then (fun a' W'=>W'=W∧Holds n ((d2,u)::(d1,v)::E) a') (fun _ _ _=>False)) n E (.seq (.region i1 l1.toArray false) (.region i2 l2.toArray false)) W:=by
 subst hl1
 refine cx_seq (Qq (ls (y_assign ho1 (v:=v) (by simpa [val] using hv1)) hd1 hg1 hn1 (Qk fun a ha=>?_)) ?_)
 ·exact cx_at ha (as_take hl2 ho2 hd2 hg2 hn2 hv2 k W)
 simp [ndOp,ho1]
theorem Did.widen {m m':Nat→Prop} {A B:World} (h:Did m m A B) (hm:∀ k,m' k→m k∨(A.heap.size≤k∧k<B.heap.size)):Did m m' A B :=
 ⟨h.kept,fun k q=>(hm k q).imp id fun z=>z.1,fun k q=>(hm k q).elim (h.lt k) fun z=>z.2⟩
theorem Did.setb {m:Nat→Prop} {A B:World} {b:Nat} {t:TypeId} {cs:Array Value} (h:Set1 A B b t cs) (hb:m b) (hm:∀ k,m k→k<A.heap.size):Did m m A B:=by
 have u:=h.below 0 (Nat.zero_le _)
 exact ⟨⟨u.os,u.tape,u.output,u.size,fun k _ q=>h.other k fun e=>q (e▸hb)⟩,fun _ q=>.inl q,fun k q=>by rw [h.size];exact hm k q⟩
end
/-- All its octets, wherever it begins. -/
def InA (M:Nat→Prop) (s:SlV):Prop:=∀ p,s.A=some p→M p.block
section
variable {w w':World} {B n:Nat} {s:SlV} {xs:List Int} {M M':Nat→Prop}
theorem InA.nil (M:Nat→Prop):InA M nilS:=fun p e=>by cases e
theorem InA.in (h:InA M s):InS M s:=fun _=>h
theorem InA.mono (h:InA M s) (g:∀ k,M k→M' k):InA M' s:=fun p e=>g _ (h p e)
theorem Hs.inn (h:Hs w s xs) (f:InA M s) (k:Kept M w w'):Hs w' s xs :=
 ⟨h.1.inn f.in k,fun p e=>by
  obtain ⟨cs,hc⟩:=h.2 p e
  exact ⟨cs,(k.block p.block (Array.getElem?_eq_some_iff.1 hc).1 (f p e)).trans hc⟩⟩
theorem Hs.lt (h:Hs w s xs):∀ p,s.A=some p→p.block<w.heap.size:=fun p e=>by
 obtain ⟨cs,hc⟩:=h.2 p e
 exact (Array.getElem?_eq_some_iff.1 hc).1
theorem Hs.alt8 {b:Nat} {t:TypeId} {cs old:Array Value} (h:Hs w s xs) (st:Set1 w w' b t cs) (r:RowAt w b t old) (ht:t≠5):Hs w' s xs:=h.kept st.alt fun k c e q=>by
 subst q
 unfold RowAt at r
 rw [r] at e
 injection e with e
 injection e with _ e
 exact ht e
theorem Tt.from (k:Below n w w') (h:Tt w) (h1:1<n) (h2:2<n):Tt w':=by
 obtain ⟨hb,tg,r⟩:=h
 exact ⟨Tb.from k h1 hb,tg,RowAt.below k h2 r⟩
theorem SlN.offB {g:Nat} (h:SlN w B s xs) (hB:B≤w.heap.size) (f:OffS g s) (k:Alt w w' g):SlN w' B s xs :=
 ⟨h.1,h.2.1,h.2.2.1,fun h0=>by
  obtain ⟨b,o,e,hb,hc⟩:=h.2.2.2 h0
  exact ⟨b,o,e,hb,fun i z hi=>(World.cell?_of_block (w:=w) (a:=⟨b,o+i,none⟩) (k.block b (by omega) (f h0 _ e))).trans (hc i z hi)⟩⟩
theorem SlN.belowN (h:SlN w B s xs) (k:Below B w w'):SlN w' B s xs :=
 ⟨h.1,h.2.1,h.2.2.1,fun h0=>by
  obtain ⟨b,o,e,hb,hc⟩:=h.2.2.2 h0
  exact ⟨b,o,e,hb,fun i z hi=>(k.cell (p:=⟨b,o+i,none⟩) hb).trans (hc i z hi)⟩⟩
end
section
variable {H:Type} {enc:TypeId × Value→H} {w:World} {spare:Nat→Bool} {held:Bool} {v:Value} {d:DataW H} {ps:List MemPlace} {r:Reach} {b0:Nat}
theorem cellsOc:Tryz.prog.cellsOf 23=1:=by kernel_rfl
/-- A row of slices of octets that came in. -/
theorem open_rowOc {fuel:Nat} {cs:List Value} {x:DataW H × List MemPlace} (h:DataW.trod enc Tryz.prog w 0 (fun _=>true) held fuel 26 cs=some x) :
  ∃ (s:SlV) (Xs:List (List Int)),cs=[s.v]∧RwOc w w.heap.size s Xs:=by
 rcases Go.Deep.open_slice huOcs h with ⟨hcs,_⟩ | ⟨a,len,cap,m,n,D,Pl,hcs,_,hl,hm,hmm,_,hx⟩
 ·exact ⟨nilS,[],hcs,RwOc.nil _ _⟩
 rw [if_pos rfl] at hmm
 subst hmm
 have key:∀ i,i<m→∃ (l:SlV) (L:List Int),Sl w w.heap.size l L∧w.cell? (a.add (i*1))=some l.v:=by
  intro i hi
  obtain ⟨cs',h1,h2⟩:=hx i hi
  obtain ⟨l,L,e,h3⟩:=open_bytesC h2
  rw [cellsOc] at h1
  refine ⟨l,L,h3,?_⟩
  have:=cells_at h1 0 l.v (by rw [e];rfl)
  simpa [Addr.add] using this
 obtain ⟨b,off,spot⟩:=a
 refine ⟨⟨some ⟨b,off,spot⟩,len,m⟩,(List.range len).pmap (fun i hi=>(key i hi).choose_spec.choose) (fun i hi=>by have:=List.mem_range.1 hi;omega),hcs,hl,hm,by simp,fun hpos=>?_⟩
 have hpos:0<len:=hpos
 obtain ⟨l0,L0,_,hc⟩:=key 0 (by omega)
 have hspot:spot=none:=by simpa [Addr.add] using World.cell?_spot hc
 subst hspot
 refine ⟨b,off,rfl,?_,fun i L hL=>?_⟩
 ·have:=World.block_lt_of_cell? w _ hc
  simpa [Addr.add] using this
 rw [List.getElem?_pmap,Option.pmap_eq_some_iff] at hL
 obtain ⟨i',hi',h4,rfl⟩:=hL
 have hi:i'=i:=by
  rw [List.getElem?_range (by have:=(List.getElem?_eq_some_iff.1 h4).1;simpa using this)] at h4
  exact (Option.some.inj h4).symm
 subst hi
 refine ⟨_,(key i' hi').choose_spec.choose_spec.1,?_⟩
 exact (congrArg w.cell? (by rw [Addr.add_lit])).symm.trans (key i' hi').choose_spec.choose_spec.2
set_option maxRecDepth 20000 in
theorem open_rowOcS (hval:Value.okWide Tryz.prog w r b0 26 v) (hd:DataW.Trod enc Tryz.prog w 0 (fun _=>true) held 26 v d ps):∃ (s:SlV) (Xs:List (List Int)),v=s.v∧RwOc w w.heap.size s Xs:=by
 obtain ⟨a,l,c,rfl⟩:=okWide_slice huOcs hval
 obtain ⟨fuel,hf⟩:=hd
 obtain ⟨s,Xs,hcs,h⟩:=open_rowOc hf
 exact ⟨s,Xs,by simpa [Value.cells] using hcs,h⟩
end
end Go.Proofs.YtfdmhdnlmndhdaaGreatDoor
