/-
  KitH: HsMath, HsWk, HsProg, HsRef.
-/
import Derived.Test.YtognnnjdoemgfaaDoorKitG
import Derived.Test.YtognnnjdoemgfaaDoorKitS
import Derived.Test.YtognnnjdoemgfaaDoorKitT
import Derived.Maps.Keyed
import Derived.Test.YtognnnjdoemgfaaDoorTrRef
import Derived.Test.YtognnnjdoemgfaaDoorKitP
namespace Go.Proofs.YtognnnjdoemgfaaDoor
open Go.ChangeShapes Go.WideShapes Go.ChangeAt Go.RowKit
set_option linter.unusedVariables false

/- HsMath:
  The hash of a tree: pure.
-/
/-- A node's hash, by its children's. -/
def hsF (t:List Nd) (x:Int) (l r:List Int):List Int:=sumL (if x % 2=0 then ofLeafO (x / 2) (atN t x.toNat) else ofInnerO (atN t x.toNat) l r)
def hsN:Nat→List Nd→Int→List Int
 | 0,_,_=>[]
 | n+1,t,x=>hsF t x (hsN n t (leftI x t.length)) (hsN n t (rightI x t.length))
def hsL (t:List Nd) (x:Int):List Int:=hsN 7 t x
/-- Is the leaf at a place one of these? -/
def goneAt (l:List Int) (i:Nat):Prop:=i % 2=0∧((i / 2:Nat):Int)∈l
instance (l:List Int) (i:Nat):Decidable (goneAt l i):=by unfold goneAt;infer_instance
/- HsWk:
  Maps of octets by whole numbers, rows of slices of octets, rows of nodes that are written: what they are, and rules.
-/
/-- All lies as it lay, but block c. -/
abbrev Alt (w w':World) (c:Nat):Prop:=Kept (fun k=>k≠c) w w'
/-- Octets in a row of octets. -/
def Hs (w:World) (s:SlV) (xs:List Int):Prop:=Sl w w.heap.size s xs∧U8 w s.A
section
variable {w w':World} {s:SlV} {xs:List Int} {m:Nat→Prop} {b c:Nat} {t:List Nd}
theorem Hs.kept (h:Hs w s xs) (g:Kept m w w') (hm:∀ k cs,w.heap[k]?=some (.cells cs 5 (0,0))→m k):Hs w' s xs:=by
 obtain ⟨⟨h1,h2,h3,h4,h5⟩,hu⟩:=h
 refine ⟨⟨h1,h2,h3,h4,fun h0=>?_⟩,fun p e=>?_⟩
 ·obtain ⟨k,off,e,hk,hc⟩:=h5 h0
  obtain ⟨cs,hcs⟩:=hu _ e
  exact ⟨k,off,e,Nat.lt_of_lt_of_le hk g.size,fun i z hi=>(World.cell?_of_block (w:=w) (a:=⟨k,off+i,none⟩) (g.block k hk (hm k cs hcs))).trans (hc i z hi)⟩
 obtain ⟨cs,hcs⟩:=hu _ e
 exact ⟨cs,(g.block p.block (Array.getElem?_eq_some_iff.1 hcs).1 (hm _ cs hcs)).trans hcs⟩
theorem Hs.below (h:Hs w s xs) (g:Below w.heap.size w w'):Hs w' s xs:=h.kept (m:=fun _=>True) (Below.kept g) fun _ _ _=>trivial
theorem Hs.len (h:Hs w s xs):xs.length=s.m:=h.1.len
theorem Hs.of {v:Value} (h:SlT w xs v w'):∃ r:SlV,v=r.v∧Hs w' r xs∧Below w.heap.size w w':=by
 obtain ⟨A,m,c,rfl,h1,⟨h2,h3,_⟩,h4,h5⟩:=h
 exact ⟨⟨A,m,c⟩,rfl,⟨⟨h1,h2,h4⟩,h3⟩,h5⟩
/-- Block b is a map in which nodes have their hashes. -/
def OMap (w:World) (b:Nat) (t:List Nd):Prop:=∃ es clock,w.heap[b]?=some (.map es clock)∧∀ e∈es.toList,∃ (k:Int) (s:SlV),e.key=nv k∧e.val=s.v∧isN k (t.length:Int)∧Hs w s (hsL t k)
theorem OMap.lt (h:OMap w b t):b<w.heap.size:=by
 obtain ⟨es,clock,hb,_⟩:=h
 exact (Array.getElem?_eq_some_iff.1 hb).1
theorem OMap.nou8 (h:OMap w b t):∀ k cs,w.heap[k]?=some (.cells cs 5 (0,0))→k≠b:=by
 obtain ⟨es,clock,hb,_⟩:=h
 rintro k cs e rfl
 rw [hb] at e
 cases e
theorem OMap.norow (h:OMap w b t) {k:Nat} {ty:TypeId} {cs:Array Value} (r:RowAt w k ty cs):k≠b:=by
 obtain ⟨es,clock,hb,_⟩:=h
 rintro rfl
 unfold RowAt at r
 rw [hb] at r
 cases r
theorem OMap.kept (h:OMap w b t) (g:Kept m w w') (hm:∀ k cs,w.heap[k]?=some (.cells cs 5 (0,0))→m k) (hb':m b):OMap w' b t:=by
 have hlt:=h.lt
 obtain ⟨es,clock,hb,he⟩:=h
 refine ⟨es,clock,(g.block b hlt hb').trans hb,fun e q=>?_⟩
 obtain ⟨k,s,h1,h2,h3,h4⟩:=he e q
 exact ⟨k,s,h1,h2,h3,h4.kept g hm⟩
theorem OMap.below (h:OMap w b t) (g:Below w.heap.size w w'):OMap w' b t:=h.kept (m:=fun _=>True) (Below.kept g) (fun _ _ _=>trivial) trivial
/-- What does not touch the octets of rows of octets. -/
theorem Hs.alt (h:Hs w s xs) (mp:OMap w b t) (g:Alt w w' b):Hs w' s xs:=h.kept g mp.nou8
theorem Alt.below {B:Nat} (g:Alt w w' b) (hB:B≤b) (hw:B≤w.heap.size):Below B w w':=Kept.below g (fun k hk=>by omega) hw
theorem Alt.grow {v:World} (g:Alt w v b) (h:Below v.heap.size v w'):Alt w w' b:=g.trans (Below.kept h)
end
section
variable {ops:Array Oper} {Q:Exit→Act→World→Prop} {n d:Nat} {E:Env} {o:Oper} {rest:List Oper} {w w':World} {x y z:Operand} {ty:TypeId} {b:Nat} {t:List Nd} {s:SlV} {v:Value}
end
/-- A row of slices of octets, as it reads. -/
def RwOc (w:World) (B:Nat) (s:SlV) (Xs:List (List Int)):Prop:=s.m≤s.c∧s.c≤maxLen∧Xs.length=s.m ∧
 (0<s.m→∃ b o,s.A=some ⟨b,o,none⟩∧b<B∧∀ i xs,Xs[i]?=some xs→∃ r:SlV,Sl w B r xs∧w.cell? ⟨b,o+i*1,none⟩=some r.v)
abbrev OcP:=SlV × List Int
/-- A row of one's own of slices of octets, each of them in a row of octets. -/
def OwnOc (w:World) (base:Nat) (v:Value) (Xs:List (List Int)):Prop:=∃ ps:List OcP,ps.map (·.2)=Xs∧w.ownsRow base 22 1 v ps.length (ps.map (·.1.v))∧∀ p∈ps,Hs w p.1 p.2
section
variable {w w':World} {B B' base b c:Nat} {s r:SlV} {v:Value} {Xs Ys:List (List Int)} {xs:List Int} {m:Nat→Prop} {t:List Nd}
theorem RwOc.nil (w:World) (B:Nat):RwOc w B nilS []:=⟨Nat.le_refl _,Nat.zero_le _,rfl,fun q=>absurd q (by simp)⟩
theorem RwOc.cast (h:RwOc w B s Xs) (e:Xs=Ys):RwOc w B s Ys:=e▸h
theorem RwOc.len (h:RwOc w B s Xs):Xs.length=s.m:=h.2.2.1
theorem RwOc.cap (h:RwOc w B s Xs):s.m≤s.c∧s.c≤9223372036854775807:=⟨h.1,by have:=h.2.1;unfold maxLen at this;omega⟩
theorem RwOc.below (h:RwOc w B s Xs) (g:Below B w w'):RwOc w' B s Xs:=by
 refine ⟨h.1,h.2.1,h.2.2.1,fun hm=>?_⟩
 obtain ⟨b,o,e,hB,hc⟩:=h.2.2.2 hm
 refine ⟨b,o,e,hB,fun i xs hx=>?_⟩
 obtain ⟨r,hr,hj⟩:=hc i xs hx
 exact ⟨r,hr.below g,(g.cell (p:=⟨b,o+i*1,none⟩) hB).trans hj⟩
theorem RwOc.more (h:RwOc w B s Xs) (g:B≤B'):RwOc w B' s Xs:=by
 refine ⟨h.1,h.2.1,h.2.2.1,fun hm=>?_⟩
 obtain ⟨b,o,e,hB,hc⟩:=h.2.2.2 hm
 refine ⟨b,o,e,by omega,fun i xs hx=>?_⟩
 obtain ⟨r,hr,hj⟩:=hc i xs hx
 exact ⟨r,hr.more g,hj⟩
theorem RwOc.at (h:RwOc w B s Xs) (i:Nat) (hi:i<s.m):∃ (b o:Nat) (r:SlV),s.A=some ⟨b,o,none⟩∧b<B∧Sl w B r (Xs.getD i [])∧w.cell? ⟨b,o+i*1,none⟩=some r.v:=by
 obtain ⟨b,o,e,hB,hc⟩:=h.2.2.2 (by omega)
 have hl:i<Xs.length:=by rw [h.len];exact hi
 obtain ⟨r,h1,h2⟩:=hc i (Xs.getD i []) (by rw [List.getD_eq_getElem?_getD,List.getElem?_eq_getElem hl];rfl)
 exact ⟨b,o,r,e,hB,h1,h2⟩
theorem OwnOc.nil (w:World) (base:Nat):OwnOc w base nilS.v []:=⟨[],rfl,⟨rfl,.inl ⟨rfl,rfl⟩⟩,fun p hp=>by cases hp⟩
theorem OwnOc.cast (h:OwnOc w base v Xs) (e:Xs=Ys):OwnOc w base v Ys:=e▸h
theorem OwnOc.row (h:OwnOc w base s.v Xs):RwOc w w.heap.size s Xs:=by
 obtain ⟨ps,rfl,ho,hp⟩:=h
 rcases ho.2 with ⟨e,h0⟩ | ⟨g,cap,cur,e,hg,hh,h1,h2,h3,h4⟩
 ·obtain rfl:s=nilS:=SlV.v_inj e
  exact ⟨Nat.le_refl _,Nat.zero_le _,by simpa using h0,fun q=>absurd q (by simp)⟩
 obtain rfl:s=⟨some ⟨g,0,none⟩,ps.length,cap⟩:=SlV.v_inj e
 refine ⟨h1,h2,by simp,fun hm=>⟨g,0,rfl,(ho.lt g rfl).2,fun i xs hx=>?_⟩⟩
 rw [List.getElem?_map,Option.map_eq_some_iff] at hx
 obtain ⟨p,hp',rfl⟩:=hx
 refine ⟨p.1,(hp p (List.mem_of_getElem? hp')).1,?_⟩
 have:=ho.cells (g:=g) rfl i p.1.v (by rw [List.getElem?_map,hp'];rfl)
 rw [Addr.add_lit] at this
 simpa using this
theorem OwnOc.kept (h:OwnOc w base v Xs) (g:Kept m w w') (hm:∀ k cs,w.heap[k]?=some (.cells cs 5 (0,0))→m k) (hv:∀ k,v.ownBlock=some k→m k):OwnOc w' base v Xs:=by
 obtain ⟨ps,e,ho,hp⟩:=h
 exact ⟨ps,e,own_kept ho g hv,fun p q=>(hp p q).kept g hm⟩
theorem OwnOc.below (h:OwnOc w base v Xs) (g:Below w.heap.size w w'):OwnOc w' base v Xs:=h.kept (m:=fun _=>True) (Below.kept g) (fun _ _ _=>trivial) fun _ _=>trivial
theorem OwnOc.blk (h:OwnOc w base v Xs) {k:Nat} (e:v.ownBlock=some k):∃ cs,w.heap[k]?=some (.cells cs 22 (0,0))∧base≤k:=by
 obtain ⟨ps,_,ho,_⟩:=h
 rcases ho.2 with ⟨rfl,_⟩ | ⟨g,cap,cur,rfl,hg,hh,_⟩
 ·cases e
 cases e
 exact ⟨cur,hh,hg⟩
theorem OwnOc.alt (h:OwnOc w base v Xs) (mp:OMap w b t) (g:Alt w w' b):OwnOc w' base v Xs:=h.kept g mp.nou8 fun k e=>by
 obtain ⟨cs,hc,_⟩:=h.blk e
 exact mp.norow (show RowAt w k _ cs from hc)
theorem oc_ne_u8:22≠5:=by decide
/-- What an append to a row of one's own leaves as it was. -/
theorem OwnOc.nou8 (h:OwnOc w base v Xs):∀ k cs,w.heap[k]?=some (.cells cs 5 (0,0))→some k≠v.ownBlock:=by
 intro k cs e q
 obtain ⟨cs',hc,_⟩:=h.blk q.symm
 rw [hc] at e
 exact oc_ne_u8 (by injection e with e;injection e)
end
section
variable {ops:Array Oper} {Q:Exit→Act→World→Prop} {n d:Nat} {E:Env} {o:Oper} {rest:List Oper} {w w':World} {x y z:Operand} {ty:TypeId} {base:Nat} {s r:SlV} {u v:Value} {Xs:List (List Int)} {xs:List Int}
end
/-- It does not lie in block g, if it lies anywhere. -/
def OffS (g:Nat) (s:SlV):Prop:=0<s.m→∀ p,s.A=some p→p.block≠g
structure OffNd (g:Nat) (l:NdV):Prop where
 enc:OffS g l.leaf.enc
 cred:OffS g l.leaf.cred
 par:OffS g l.leaf.par
 ienc:OffS g l.inner.enc
 hash:OffS g l.inner.hash
 unm:OffS g l.inner.unm
section
variable {w w':World} {B B' g:Nat} {s:SlV} {xs:List Int} {l:NdV} {L:Nd}
theorem OffS.nil (g:Nat):OffS g nilS:=fun h=>absurd h (Nat.lt_irrefl 0)
theorem OffS.of (h:Sl w B s xs) (hB:B≤g):OffS g s:=fun h0 p e q=>by
 obtain ⟨b,o,e2,hb,_⟩:=h.2.2.2.2 h0
 rw [e2] at e
 obtain rfl:p=⟨b,o,none⟩:=(Option.some.inj e).symm
 simp only at q
 omega
theorem OffS.ofN (h:SlN w B s xs) (hB:B≤g):OffS g s:=fun h0 p e q=>by
 obtain ⟨b,o,e2,hb,_⟩:=h.2.2.2 h0
 rw [e2] at e
 obtain rfl:p=⟨b,o,none⟩:=(Option.some.inj e).symm
 simp only at q
 omega
theorem OffS.fr {a:Nat} (f:Fr a s) (h:g<a):OffS g s:=fun _ p e q=>by
 have:=f p e
 omega
theorem OffNd.of (h:IsNd w B l L) (hB:B≤g):OffNd g l:=⟨.of h.leaf.enc hB,.of h.leaf.cred hB,.of h.leaf.par hB,.of h.inner.enc hB,.of h.inner.hash hB,.ofN h.inner.unm hB⟩
theorem OffNd.zero (g:Nat):OffNd g NdV.zero:=⟨.nil g,.nil g,.nil g,.nil g,.nil g,.nil g⟩
theorem Sl.off (h:Sl w w.heap.size s xs) (f:OffS g s) (k:Alt w w' g):Sl w' w'.heap.size s xs :=
 ⟨h.1,h.2.1,h.2.2.1,h.2.2.2.1,fun h0=>by
  obtain ⟨b,o,e,hb,hc⟩:=h.2.2.2.2 h0
  exact ⟨b,o,e,Nat.lt_of_lt_of_le hb k.size,fun i z hi=>(World.cell?_of_block (w:=w) (a:=⟨b,o+i,none⟩) (k.block b hb (f h0 _ e))).trans (hc i z hi)⟩⟩
theorem SlN.off (h:SlN w w.heap.size s xs) (f:OffS g s) (k:Alt w w' g):SlN w' w'.heap.size s xs :=
 ⟨h.1,h.2.1,h.2.2.1,fun h0=>by
  obtain ⟨b,o,e,hb,hc⟩:=h.2.2.2 h0
  exact ⟨b,o,e,Nat.lt_of_lt_of_le hb k.size,fun i z hi=>(World.cell?_of_block (w:=w) (a:=⟨b,o+i,none⟩) (k.block b hb (f h0 _ e))).trans (hc i z hi)⟩⟩
theorem IsNd.off (h:IsNd w w.heap.size l L) (f:OffNd g l) (k:Alt w w' g):IsNd w' w'.heap.size l L :=
 ⟨⟨h.leaf.enc.off f.enc k,h.leaf.cred.off f.cred k,h.leaf.par.off f.par k⟩,⟨h.inner.enc.off f.ienc k,h.inner.hash.off f.hash k,h.inner.unm.off f.unm k⟩⟩
end
/-- A row of nodes of one's own, in block g, none of which says what lies in that block; what they say lies below block T. -/
def OwnNa (w:World) (g T:Nat) (s:SlV) (Ls:List Nd):Prop:=s.A=some ⟨g,0,none⟩∧T≤w.heap.size∧∃ (ps:List NdP) (cur:Array Value),ps.map (·.2)=Ls∧s.m=ps.length∧s.m≤s.c∧s.c≤maxLen∧RowAt w g 40 cur∧cur.size=s.c*8∧cur.toList.take (ps.length*8)=ndCells ps∧∀ p∈ps,IsNd w T p.1 p.2∧OffNd g p.1
section
variable {w w':World} {B B' g T:Nat} {s:SlV} {xs:List Int} {l:NdV} {L:Nd} {Ls Ms:List Nd}
theorem OwnNa.cast (h:OwnNa w g T s Ls) (e:Ls=Ms):OwnNa w g T s Ms:=e▸h
theorem OwnNa.lt (h:OwnNa w g T s Ls):g<w.heap.size:=by
 obtain ⟨_,_,ps,cur,_,_,_,_,hr,_⟩:=h
 exact hr.lt
theorem OwnNa.len (h:OwnNa w g T s Ls):Ls.length=s.m:=by
 obtain ⟨_,_,ps,cur,rfl,e,_⟩:=h
 rw [e,List.length_map]
theorem OwnNa.up (h:OwnNa w g T s Ls):OwnNa w g w.heap.size s Ls:=by
 obtain ⟨e,hT,ps,cur,h1,h2,h3,h4,h5,h6,h7,h8⟩:=h
 exact ⟨e,Nat.le_refl _,ps,cur,h1,h2,h3,h4,h5,h6,h7,fun p q=>⟨(h8 p q).1.more hT,(h8 p q).2⟩⟩
theorem OwnNa.of {base:Nat} (h:OwnNd w base B s.v Ls) (hB:B≤base) (hw:B≤w.heap.size) (hpos:0<Ls.length):∃ g,base≤g∧OwnNa w g w.heap.size s Ls:=by
 obtain ⟨ps,rfl,ho,hp⟩:=h
 rw [List.length_map] at hpos
 rcases ho.2 with ⟨e,h0⟩ | ⟨g,cap,cur,e,hg,hh,h1,h2,h3,h4⟩
 ·omega
 obtain rfl:s=⟨some ⟨g,0,none⟩,ps.length,cap⟩:=SlV.v_inj e
 exact ⟨g,hg,rfl,Nat.le_refl _,ps,cur,rfl,rfl,h1,h2,hh,h3,h4,fun p q=>⟨(hp p q).more hw,.of (hp p q) (by omega)⟩⟩
theorem OwnNa.below (h:OwnNa w g T s Ls) (k:Below w.heap.size w w'):OwnNa w' g T s Ls:=by
 obtain ⟨e,hT,ps,cur,h1,h2,h3,h4,h5,h6,h7,h8⟩:=h
 exact ⟨e,Nat.le_trans hT k.size,ps,cur,h1,h2,h3,h4,RowAt.below k h5.lt h5,h6,h7,fun p q=>⟨(h8 p q).1.below (k.mono hT),(h8 p q).2⟩⟩
theorem Set1.alt {b:Nat} {tb:TypeId} {new:Array Value} (st:Set1 w w' b tb new):Alt w w' b:=⟨(st.below 0 (Nat.zero_le _)).os,(st.below 0 (Nat.zero_le _)).tape,(st.below 0 (Nat.zero_le _)).output,Nat.le_of_eq st.size.symm,fun j _ hj=>st.other j hj⟩
theorem OwnNa.row (h:OwnNa w g T s Ls):RwNd w w.heap.size s Ls:=by
 obtain ⟨e,hT,ps,cur,rfl,h2,h3,h4,h5,h6,h7,h8⟩:=h
 refine ⟨h3,h4,by rw [List.length_map];exact h2.symm,fun hm=>⟨g,0,e,h5.lt,fun i L hL=>?_⟩⟩
 rw [List.getElem?_map,Option.map_eq_some_iff] at hL
 obtain ⟨p,hp',rfl⟩:=hL
 refine ⟨p.1,(h8 p (List.mem_of_getElem? hp')).1.more hT,fun j u hu=>?_⟩
 have hj:j<8:=(Array.getElem?_eq_some_iff.1 hu).1
 have hi:=(List.getElem?_eq_some_iff.1 hp').1
 rw [Nat.zero_add,cell_of_row w g (i*8+j) cur _ _ h5,←Array.getElem?_toList]
 have h9:=ndCells_at ps i j p hp' hj
 rw [←h7,List.getElem?_take,if_pos (by omega)] at h9
 rw [h9,ndc,Array.getElem?_toList]
 exact hu
/-- The node at a place. -/
theorem OwnNa.at (h:OwnNa w g T s Ls) {i:Nat} (hi:i<Ls.length):∃ l:NdV,IsNd w T l (atN Ls i)∧OffNd g l∧∀ j u,(l.cs (atN Ls i))[j]?=some u→w.cell? ⟨g,0+i*8+j,none⟩=some u:=by
 obtain ⟨e,hT,ps,cur,rfl,h2,h3,h4,h5,h6,h7,h8⟩:=h
 rw [List.length_map] at hi
 have hp':ps[i]?=some ps[i]:=List.getElem?_eq_getElem hi
 have hL:atN (ps.map (·.2)) i=ps[i].2:=atN_some (by rw [List.getElem?_map,hp'];rfl)
 rw [hL]
 refine ⟨ps[i].1,(h8 _ (List.mem_of_getElem? hp')).1,(h8 _ (List.mem_of_getElem? hp')).2,fun j u hu=>?_⟩
 have hj:j<8:=(Array.getElem?_eq_some_iff.1 hu).1
 rw [Nat.zero_add,cell_of_row w g (i*8+j) cur _ _ h5,←Array.getElem?_toList]
 have h9:=ndCells_at ps i j _ hp' hj
 rw [←h7,List.getElem?_take,if_pos (by omega)] at h9
 rw [h9,ndc,Array.getElem?_toList]
 exact hu
theorem OwnNa.set (h:OwnNa w g T s Ls) {i:Nat} (hi:i<Ls.length) (hl:IsNd w w.heap.size l L) (ho:OffNd g l) {new:Array Value} (st:Set1 w w' g 40 new)
  (hnew:∀ cur:Array Value,RowAt w g 40 cur→new.toList=cur.toList.take (0+i*8)++(l.cs L).toList++cur.toList.drop (0+i*8+8)):OwnNa w' g w'.heap.size s (Ls.set i L):=by
 obtain ⟨e,hTT,ps,cur,rfl,h2,h3,h4,h5,h6,h7,h8⟩:=h
 rw [List.length_map] at hi
 have hnew:=hnew cur h5
 have k:Alt w w' g:=st.alt
 have hT:cur.toList=ndCells ps++cur.toList.drop (ps.length*8):=by
  conv=>lhs;rw [←List.take_append_drop (ps.length*8) cur.toList,h7]
 generalize hR:cur.toList.drop (ps.length*8)=R at hT
 have hlen:=ndCells_len ps
 have hnw:new.toList=ndCells (ps.set i (l,L))++R:=by
  rw [hnew,←ndCells_set ps i (l,L) hi,hT,Nat.zero_add,List.take_append_of_le_length (by omega),List.drop_append_of_le_length (by omega)]
  simp only [List.append_assoc,ndc]
 refine ⟨e,Nat.le_refl _,ps.set i (l,L),new,by rw [List.map_set],by rw [List.length_set];exact h2,h3,h4,st.row,?_,?_,fun p hp=>?_⟩
 ·have hc:cur.toList.length=s.c*8:=by
   rw [Array.length_toList]
   exact h6
  rw [←Array.length_toList,hnw,List.length_append,ndCells_len,List.length_set,←hR,List.length_drop,hc]
  omega
 ·rw [hnw]
  exact List.take_left' (by rw [ndCells_len])
 rcases List.mem_or_eq_of_mem_set hp with q | q
 ·exact ⟨((h8 p q).1.more hTT).off (h8 p q).2 k,(h8 p q).2⟩
 subst q
 exact ⟨hl.off ho k,ho⟩
end
section
variable {ops:Array Oper} {Q:Exit→Act→World→Prop} {n d:Nat} {E:Env} {o:Oper} {rest:List Oper} {w w':World} {x y z:Operand} {ty:TypeId} {g T:Nat} {s r:SlV} {l:NdV} {L:Nd} {Ls:List Nd} {xs:List Int}
end
/- HsProg:
  The hash of a tree: what the program answers.
-/
/- HsRef:
  The hash of a tree: what the document answers.
-/
end Go.Proofs.YtognnnjdoemgfaaDoor
