/-
  KitH: HsMath, HsWk, HsProg, HsRef.
-/
import Derived.Test.YtognnnjdoemgfaaGreatDoorKitG
import Derived.Test.YtognnnjdoemgfaaGreatDoorKitS
import Derived.Test.YtognnnjdoemgfaaGreatDoorKitT
import Derived.Maps.Keyed
import Derived.Test.YtognnnjdoemgfaaGreatDoorTrRef
import Derived.Test.YtognnnjdoemgfaaGreatDoorKitP
namespace Go.Proofs.YtognnnjdoemgfaaGreatDoor
open Go.ChangeShapes Go.WideShapes Go.ChangeAt Go.RowKit
set_option linter.unusedVariables false

/- HsMath:
  The hash of a tree: pure.
-/
/-- A node's hash, by its children's. -/
def hsF (t:List Nd) (x:Int) (l r:List Int):List Int:=sumL (if x % 2=0 then ofLeafO (x / 2) (atN t x.toNat) else ofInnerO (atN t x.toNat) l r)
def hsN:Nat→List Nd→Int→List Int
 | 0,_,_=>[]
 | n+1,t,x=>hsF t x (hsN n t (leftI x t.length)) (hsN n t (rightI x t.length))
def hsL (t:List Nd) (x:Int):List Int:=hsN 7 t x
/-- A node that is cut. -/
def cutN (l:List Int) (n:Nd):Nd:=⟨n.kind,n.leaf,⟨n.inner.enc,n.inner.hash,cutK n.inner.unm l⟩⟩
/-- Is the leaf at a place one of these? -/
def goneAt (l:List Int) (i:Nat):Prop:=i % 2=0∧((i / 2:Nat):Int)∈l
instance (l:List Int) (i:Nat):Decidable (goneAt l i):=by unfold goneAt;infer_instance
def zapN (l:List Int) (i:Nat) (n:Nd):Nd:=if goneAt l i then Nd.zero else n
def zapL (l:List Int) (t:List Nd):List Nd:=t.mapIdx (zapN l)
/-- The first k are cut. -/
def cutL (l:List Int) (k:Nat) (t:List Nd):List Nd:=t.mapIdx fun i n=>if i<k then cutN l n else n
def dropL (l:List Int) (t:List Nd):List Nd:=t.mapIdx fun i n=>cutN l (zapN l i n)
theorem zapL_len (l:List Int) (t:List Nd):(zapL l t).length=t.length:=List.length_mapIdx
theorem cutL_len (l:List Int) (k:Nat) (t:List Nd):(cutL l k t).length=t.length:=List.length_mapIdx
theorem dropL_len (l:List Int) (t:List Nd):(dropL l t).length=t.length:=List.length_mapIdx
theorem atN_mapIdx {t:List Nd} {f:Nat→Nd→Nd} {i:Nat} (h:i<t.length):atN (t.mapIdx f) i=f i (atN t i):=by
 rw [atN_eq,atN_eq,List.getElem?_mapIdx,List.getElem?_eq_getElem h]
 rfl
theorem drop_at {l:List Int} {t:List Nd} {i:Nat} (h:i<t.length):atN (dropL l t) i=cutN l (zapN l i (atN t i)):=atN_mapIdx h
theorem zap_at {l:List Int} {t:List Nd} {i:Nat} (h:i<t.length):atN (zapL l t) i=zapN l i (atN t i):=atN_mapIdx h
theorem cutL_at {l:List Int} {k:Nat} {t:List Nd} {i:Nat} (h:i<t.length):atN (cutL l k t) i=if i<k then cutN l (atN t i) else atN t i:=atN_mapIdx h
theorem zap_none (t:List Nd):zapL [] t=t:=list_atN (zapL_len _ _) fun i hi=>by
 rw [zapL_len] at hi
 rw [zap_at hi,zapN,if_neg]
 exact fun q=>by cases q.2
theorem zap_snoc {l:List Int} {t:List Nd} {i:Int} (h0:0≤i) (h1:i<leavesA t):(zapL l t).set (2*i).toNat Nd.zero=zapL (l++[i]) t:=by
 have hl:leavesA t=(t.length+1) / 2:=rfl
 refine list_atN (by rw [List.length_set,zapL_len,zapL_len]) fun j hj=>?_
 rw [List.length_set,zapL_len] at hj
 rw [atN_set (by rw [zapL_len];omega),zap_at hj,zap_at hj]
 by_cases e:j=(2*i).toNat
 ·rw [if_pos e,zapN,if_pos ⟨by omega,List.mem_append.2 (.inr (List.mem_singleton.2 (by omega)))⟩]
 rw [if_neg e,zapN,zapN]
 by_cases g:goneAt l j
 ·rw [if_pos g,if_pos ⟨g.1,List.mem_append.2 (.inl g.2)⟩]
 rw [if_neg g,if_neg]
 intro q
 rcases List.mem_append.1 q.2 with z | z
 ·exact g ⟨q.1,z⟩
 have:=List.mem_singleton.1 z
 have:=q.1
 omega
theorem zap_out {l:List Int} {t:List Nd} {i:Int} (h1:¬i<leavesA t):zapL l t=zapL (l++[i]) t:=by
 have hl:leavesA t=(t.length+1) / 2:=rfl
 refine list_atN (by rw [zapL_len,zapL_len]) fun j hj=>?_
 rw [zapL_len] at hj
 rw [zap_at hj,zap_at hj,zapN,zapN]
 by_cases g:goneAt l j
 ·rw [if_pos g,if_pos ⟨g.1,List.mem_append.2 (.inl g.2)⟩]
 rw [if_neg g,if_neg]
 intro q
 rcases List.mem_append.1 q.2 with z | z
 ·exact g ⟨q.1,z⟩
 have:=List.mem_singleton.1 z
 have:=q.1
 omega
theorem cut_none (l:List Int) (t:List Nd):cutL l 0 t=t:=list_atN (cutL_len _ _ _) fun i hi=>by
 rw [cutL_len] at hi
 rw [cutL_at hi,if_neg (by omega)]
theorem cut_snoc {l:List Int} {t:List Nd} {k:Nat} (h:k<t.length):(cutL l k t).set k (cutN l (atN (cutL l k t) k))=cutL l (k+1) t:=by
 refine list_atN (by rw [List.length_set,cutL_len,cutL_len]) fun j hj=>?_
 rw [List.length_set,cutL_len] at hj
 rw [atN_set (by rw [cutL_len];exact h),cutL_at hj,cutL_at hj,cutL_at h,if_neg (Nat.lt_irrefl k)]
 by_cases e:j=k
 ·subst e
  rw [if_pos rfl,if_pos (by omega)]
 rw [if_neg e]
 by_cases q:j<k
 ·rw [if_pos q,if_pos (by omega)]
 rw [if_neg q,if_neg (by omega)]
theorem cut_zap (l:List Int) (t:List Nd):cutL l t.length (zapL l t)=dropL l t:=by
 refine list_atN (by rw [cutL_len,zapL_len,dropL_len]) fun j hj=>?_
 rw [cutL_len,zapL_len] at hj
 rw [cutL_at (by rw [zapL_len];exact hj),if_pos hj,zap_at hj,drop_at hj]
/-- Those that a leaf may have, each once. -/
def numG (l:List Int):List Int:=l.foldl (fun o i=>if 0≤i∧i<64∧i∉o then o++[i] else o) []
theorem numG_snoc (l:List Int) (i:Int):numG (l++[i])=if 0≤i∧i<64∧i∉numG l then numG l++[i] else numG l:=by
 unfold numG
 rw [List.foldl_append]
 rfl
theorem numG_take {l:List Int} {k:Nat} (h:k<l.length):numG (l.take (k+1))=if 0≤l.getD k 0∧l.getD k 0<64∧l.getD k 0∉numG (l.take k) then numG (l.take k)++[l.getD k 0] else numG (l.take k):=by
 have e:l.take (k+1)=l.take k++[l.getD k 0]:=by
  rw [List.take_succ_eq_append_getElem h,List.getD_eq_getElem?_getD,List.getElem?_eq_getElem h]
  rfl
 rw [e,numG_snoc]
theorem numG_aux {i:Int}:∀ (l o:List Int),i∈l.foldl (fun o i=>if 0≤i∧i<64∧i∉o then o++[i] else o) o↔i∈o∨(i∈l∧0≤i∧i<64)
 | [],o=>by simp
 | x::l,o=>by
  rw [List.foldl_cons,numG_aux l]
  split
  ·rename_i h
   rw [List.mem_append,List.mem_singleton,List.mem_cons]
   constructor
   ·rintro ((q | rfl) | q)
    ·exact .inl q
    ·exact .inr ⟨.inl rfl,h.1,h.2.1⟩
    exact .inr ⟨.inr q.1,q.2⟩
   rintro (q | ⟨rfl | q,r⟩)
   ·exact .inl (.inl q)
   ·exact .inl (.inr rfl)
   exact .inr ⟨q,r⟩
  rename_i h
  simp only [List.mem_cons]
  constructor
  ·rintro (q | q)
   ·exact .inl q
   exact .inr ⟨.inr q.1,q.2⟩
  rintro (q | ⟨rfl | q,r⟩)
  ·exact .inl q
  ·by_cases z:i∈o
   ·exact .inl z
   exact absurd ⟨r.1,r.2,z⟩ h
  exact .inr ⟨q,r⟩
theorem numG_mem {l:List Int} {i:Int}:i∈numG l↔i∈l∧0≤i∧i<64:=by
 unfold numG
 rw [numG_aux]
 simp
theorem numG_len:∀ (l o:List Int),(l.foldl (fun o i=>if 0≤i∧i<64∧i∉o then o++[i] else o) o).length≤l.length+o.length
 | [],o=>by simp
 | x::l,o=>by
  rw [List.foldl_cons]
  refine Nat.le_trans (numG_len l _) ?_
  split
  ·simp only [List.length_append,List.length_cons,List.length_nil]
   omega
  simp only [List.length_cons]
  omega
theorem numG_le (l:List Int):(numG l).length≤l.length:=by
 have:=numG_len l []
 simpa [numG] using this
theorem cutK_num {u l:List Int} (h:∀ x∈u,0≤x∧x<64):cutK u (numG l)=cutK u l:=by
 unfold cutK
 refine List.filter_congr fun x hx=>?_
 have:=h x hx
 have:x∈numG l↔x∈l:=by rw [numG_mem];exact ⟨fun q=>q.1,fun q=>⟨q,this⟩⟩
 simp [this]
theorem gone_num {t:List Nd} (ht:t.length≤127) (l:List Int) {i:Nat} (hi:i<t.length):goneAt (numG l) i↔goneAt l i:=by
 unfold goneAt
 rw [numG_mem]
 exact ⟨fun q=>⟨q.1,q.2.1⟩,fun q=>⟨q.1,q.2,by omega,by omega⟩⟩
/-- Those alone that a leaf may have matter. -/
theorem drop_num {t:List Nd} (ht:trIs t) (l:List Int):dropL (numG l) t=dropL l t:=by
 refine list_atN (by rw [dropL_len,dropL_len]) fun i hi=>?_
 rw [dropL_len] at hi
 rw [drop_at hi,drop_at hi,zapN,zapN]
 have hg:=gone_num (trIs_le ht) l hi
 by_cases g:goneAt l i
 ·rw [if_pos g,if_pos (hg.2 g)]
  rfl
 rw [if_neg g,if_neg (fun q=>g (hg.1 q)),cutN,cutN,cutK_num (unm_small ht i).1]
theorem pn_eq {p q:Pn} (h:PnSame p q):p=q:=by
 obtain ⟨a,b,c⟩:=h
 obtain ⟨x,y,u⟩:=p
 obtain ⟨x',y',u'⟩:=q
 cases a
 cases b
 cases c
 rfl
theorem unm_kind {n:Nd} (h:ndCheck n=0) (k:¬n.kind=2):n.inner=Pn.zero:=by
 unfold ndCheck at h
 split at h
 ·omega
 split at h
 ·omega
 rename_i q
 have z:PnSame n.inner Pn.zero:=Classical.byContradiction fun z=>q (.inr ⟨k,z⟩)
 exact pn_eq z
theorem cutN_kind {l:List Int} {n:Nd} (h:ndCheck n=0) (k:¬n.kind=2):cutN l n=n:=by
 have e:=unm_kind h k
 obtain ⟨x,y,u⟩:=n
 simp only at e
 subst e
 rfl
theorem pnCheck_mk {p:Pn} (h1:0<p.enc.length) (h2:p.enc.length≤200) (h3:p.hash.length≤200) (h4:p.unm.length≤64) (h5:∀ x∈p.unm,0≤x∧x<64) (h6:Rising p.unm):pnCheck p=0:=by
 unfold pnCheck
 rw [if_neg (by omega),if_neg (by omega),if_neg (by rintro ⟨x,hx,q⟩;have:=h5 x hx;omega),if_neg (fun q=>q h6)]
theorem pn_cut {p:Pn} (h:pnCheck p=0) (l:List Int):pnCheck ⟨p.enc,p.hash,cutK p.unm l⟩=0:=by
 obtain ⟨a,b,c,d⟩:=pnCheck_ok h
 obtain ⟨e,f⟩:=pnCheck_nums h
 exact pnCheck_mk a b c (Nat.le_trans (cutK_length p.unm l) d) (fun x hx=>e x (cutK_mem.1 hx).1) (cutK_rising (i:=l) f)
theorem nd_cut {n:Nd} (h:ndCheck n=0) (l:List Int):ndCheck (cutN l n)=0:=by
 by_cases k:n.kind=2
 ·have hp:pnCheck n.inner=0:=by
   have h2:=h
   unfold ndCheck at h2
   repeat' split at h2
   all_goals first | exact h2 | omega
  have hq:=pn_cut hp l
  obtain ⟨kd,lf,p⟩:=n
  simp only at k hp hq
  subst k
  show ndCheck ⟨2,lf,⟨p.enc,p.hash,cutK p.unm l⟩⟩=0
  unfold ndCheck at h ⊢
  dsimp only at h ⊢
  have z:¬((¬(2:Int)=1∧¬LfSame lf Lf.zero)∨(¬(2:Int)=2∧¬PnSame p Pn.zero)):=fun q=>by
   rw [if_neg (by decide),if_pos q] at h
   exact absurd h (by decide)
  rw [if_neg (by decide),if_neg (fun q=>z (q.imp id fun r=>absurd rfl r.1)),if_neg (by decide),if_pos rfl]
  exact hq
 rw [cutN_kind h k]
 exact h
theorem drop_ok {t:List Nd} (ht:trIs t) (l:List Int) (i:Nat) (hi:i<t.length):okAt i (cutN l (zapN l i (atN t i))):=by
 have h:=trIs_ok ht i
 unfold zapN
 split
 ·exact ok_zero i
 exact ⟨nd_cut h.1 l,h.2⟩
theorem drop_is {t:List Nd} (ht:trIs t) (l:List Int):trIs (dropL l t):=by
 refine ⟨by rw [dropL_len];exact ht.1,fun i hi=>?_⟩
 rw [dropL_len] at hi
 rw [drop_at hi]
 exact drop_ok ht l i hi
/- HsWk:
  Maps of octets by whole numbers, rows of slices of octets, rows of nodes that are written: what they are, and rules.
-/
/-- All lies as it lay, but block c. -/
abbrev Alt (w w':World) (c:Nat):Prop:=Kept (fun k=>k≠c) w w'
/-- Octets in a row of octets. -/
def Hs (w:World) (s:SlV) (xs:List Int):Prop:=Sl w w.heap.size s xs∧U8 w s.A
section
variable {w w':World} {s:SlV} {xs:List Int} {m:Nat→Prop} {b c:Nat} {t:List Nd}
theorem Hs.kept (h:Hs w s xs) (g:Kept m w w') (hm:∀ k cs,w.heap[k]?=some (.cells cs 5 (0,0))→m k):Hs w' s xs:=by
 obtain ⟨⟨h1,h2,h3,h4,h5⟩,hu⟩:=h
 refine ⟨⟨h1,h2,h3,h4,fun h0=>?_⟩,fun p e=>?_⟩
 ·obtain ⟨k,off,e,hk,hc⟩:=h5 h0
  obtain ⟨cs,hcs⟩:=hu _ e
  exact ⟨k,off,e,Nat.lt_of_lt_of_le hk g.size,fun i z hi=>(World.cell?_of_block (w:=w) (a:=⟨k,off+i,none⟩) (g.block k hk (hm k cs hcs))).trans (hc i z hi)⟩
 obtain ⟨cs,hcs⟩:=hu _ e
 exact ⟨cs,(g.block p.block (Array.getElem?_eq_some_iff.1 hcs).1 (hm _ cs hcs)).trans hcs⟩
theorem Hs.below (h:Hs w s xs) (g:Below w.heap.size w w'):Hs w' s xs:=h.kept (m:=fun _=>True) (Below.kept g) fun _ _ _=>trivial
theorem Hs.len (h:Hs w s xs):xs.length=s.m:=h.1.len
theorem Hs.of {v:Value} (h:SlT w xs v w'):∃ r:SlV,v=r.v∧Hs w' r xs∧Below w.heap.size w w':=by
 obtain ⟨A,m,c,rfl,h1,⟨h2,h3,_⟩,h4,h5⟩:=h
 exact ⟨⟨A,m,c⟩,rfl,⟨⟨h1,h2,h4⟩,h3⟩,h5⟩
/-- Block b is a map in which nodes have their hashes. -/
def OMap (w:World) (b:Nat) (t:List Nd):Prop:=∃ es clock,w.heap[b]?=some (.map es clock)∧∀ e∈es.toList,∃ (k:Int) (s:SlV),e.key=nv k∧e.val=s.v∧isN k (t.length:Int)∧Hs w s (hsL t k)
theorem OMap.lt (h:OMap w b t):b<w.heap.size:=by
 obtain ⟨es,clock,hb,_⟩:=h
 exact (Array.getElem?_eq_some_iff.1 hb).1
theorem OMap.nou8 (h:OMap w b t):∀ k cs,w.heap[k]?=some (.cells cs 5 (0,0))→k≠b:=by
 obtain ⟨es,clock,hb,_⟩:=h
 rintro k cs e rfl
 rw [hb] at e
 cases e
theorem OMap.norow (h:OMap w b t) {k:Nat} {ty:TypeId} {cs:Array Value} (r:RowAt w k ty cs):k≠b:=by
 obtain ⟨es,clock,hb,_⟩:=h
 rintro rfl
 unfold RowAt at r
 rw [hb] at r
 cases r
theorem OMap.kept (h:OMap w b t) (g:Kept m w w') (hm:∀ k cs,w.heap[k]?=some (.cells cs 5 (0,0))→m k) (hb':m b):OMap w' b t:=by
 have hlt:=h.lt
 obtain ⟨es,clock,hb,he⟩:=h
 refine ⟨es,clock,(g.block b hlt hb').trans hb,fun e q=>?_⟩
 obtain ⟨k,s,h1,h2,h3,h4⟩:=he e q
 exact ⟨k,s,h1,h2,h3,h4.kept g hm⟩
theorem OMap.below (h:OMap w b t) (g:Below w.heap.size w w'):OMap w' b t:=h.kept (m:=fun _=>True) (Below.kept g) (fun _ _ _=>trivial) trivial
/-- What does not touch the octets of rows of octets. -/
theorem Hs.alt (h:Hs w s xs) (mp:OMap w b t) (g:Alt w w' b):Hs w' s xs:=h.kept g mp.nou8
theorem Alt.below {B:Nat} (g:Alt w w' b) (hB:B≤b) (hw:B≤w.heap.size):Below B w w':=Kept.below g (fun k hk=>by omega) hw
theorem Alt.grow {v:World} (g:Alt w v b) (h:Below v.heap.size v w'):Alt w w' b:=g.trans (Below.kept h)
end
section
variable {ops:Array Oper} {Q:Exit→Act→World→Prop} {n d:Nat} {E:Env} {o:Oper} {rest:List Oper} {w w':World} {x y z:Operand} {ty:TypeId} {b:Nat} {t:List Nd} {s:SlV} {v:Value}
end
/-- A row of slices of octets, as it reads. -/
def RwOc (w:World) (B:Nat) (s:SlV) (Xs:List (List Int)):Prop:=s.m≤s.c∧s.c≤maxLen∧Xs.length=s.m ∧
 (0<s.m→∃ b o,s.A=some ⟨b,o,none⟩∧b<B∧∀ i xs,Xs[i]?=some xs→∃ r:SlV,Sl w B r xs∧w.cell? ⟨b,o+i*1,none⟩=some r.v)
abbrev OcP:=SlV × List Int
/-- A row of one's own of slices of octets, each of them in a row of octets. -/
def OwnOc (w:World) (base:Nat) (v:Value) (Xs:List (List Int)):Prop:=∃ ps:List OcP,ps.map (·.2)=Xs∧w.ownsRow base 23 1 v ps.length (ps.map (·.1.v))∧∀ p∈ps,Hs w p.1 p.2
section
variable {w w':World} {B B' base b c:Nat} {s r:SlV} {v:Value} {Xs Ys:List (List Int)} {xs:List Int} {m:Nat→Prop} {t:List Nd}
theorem RwOc.nil (w:World) (B:Nat):RwOc w B nilS []:=⟨Nat.le_refl _,Nat.zero_le _,rfl,fun q=>absurd q (by simp)⟩
theorem RwOc.cast (h:RwOc w B s Xs) (e:Xs=Ys):RwOc w B s Ys:=e▸h
theorem RwOc.len (h:RwOc w B s Xs):Xs.length=s.m:=h.2.2.1
theorem RwOc.cap (h:RwOc w B s Xs):s.m≤s.c∧s.c≤9223372036854775807:=⟨h.1,by have:=h.2.1;unfold maxLen at this;omega⟩
theorem RwOc.below (h:RwOc w B s Xs) (g:Below B w w'):RwOc w' B s Xs:=by
 refine ⟨h.1,h.2.1,h.2.2.1,fun hm=>?_⟩
 obtain ⟨b,o,e,hB,hc⟩:=h.2.2.2 hm
 refine ⟨b,o,e,hB,fun i xs hx=>?_⟩
 obtain ⟨r,hr,hj⟩:=hc i xs hx
 exact ⟨r,hr.below g,(g.cell (p:=⟨b,o+i*1,none⟩) hB).trans hj⟩
theorem RwOc.more (h:RwOc w B s Xs) (g:B≤B'):RwOc w B' s Xs:=by
 refine ⟨h.1,h.2.1,h.2.2.1,fun hm=>?_⟩
 obtain ⟨b,o,e,hB,hc⟩:=h.2.2.2 hm
 refine ⟨b,o,e,by omega,fun i xs hx=>?_⟩
 obtain ⟨r,hr,hj⟩:=hc i xs hx
 exact ⟨r,hr.more g,hj⟩
theorem RwOc.at (h:RwOc w B s Xs) (i:Nat) (hi:i<s.m):∃ (b o:Nat) (r:SlV),s.A=some ⟨b,o,none⟩∧b<B∧Sl w B r (Xs.getD i [])∧w.cell? ⟨b,o+i*1,none⟩=some r.v:=by
 obtain ⟨b,o,e,hB,hc⟩:=h.2.2.2 (by omega)
 have hl:i<Xs.length:=by rw [h.len];exact hi
 obtain ⟨r,h1,h2⟩:=hc i (Xs.getD i []) (by rw [List.getD_eq_getElem?_getD,List.getElem?_eq_getElem hl];rfl)
 exact ⟨b,o,r,e,hB,h1,h2⟩
theorem OwnOc.nil (w:World) (base:Nat):OwnOc w base nilS.v []:=⟨[],rfl,⟨rfl,.inl ⟨rfl,rfl⟩⟩,fun p hp=>by cases hp⟩
theorem OwnOc.cast (h:OwnOc w base v Xs) (e:Xs=Ys):OwnOc w base v Ys:=e▸h
theorem OwnOc.row (h:OwnOc w base s.v Xs):RwOc w w.heap.size s Xs:=by
 obtain ⟨ps,rfl,ho,hp⟩:=h
 rcases ho.2 with ⟨e,h0⟩ | ⟨g,cap,cur,e,hg,hh,h1,h2,h3,h4⟩
 ·obtain rfl:s=nilS:=SlV.v_inj e
  exact ⟨Nat.le_refl _,Nat.zero_le _,by simpa using h0,fun q=>absurd q (by simp)⟩
 obtain rfl:s=⟨some ⟨g,0,none⟩,ps.length,cap⟩:=SlV.v_inj e
 refine ⟨h1,h2,by simp,fun hm=>⟨g,0,rfl,(ho.lt g rfl).2,fun i xs hx=>?_⟩⟩
 rw [List.getElem?_map,Option.map_eq_some_iff] at hx
 obtain ⟨p,hp',rfl⟩:=hx
 refine ⟨p.1,(hp p (List.mem_of_getElem? hp')).1,?_⟩
 have:=ho.cells (g:=g) rfl i p.1.v (by rw [List.getElem?_map,hp'];rfl)
 rw [Addr.add_lit] at this
 simpa using this
theorem OwnOc.kept (h:OwnOc w base v Xs) (g:Kept m w w') (hm:∀ k cs,w.heap[k]?=some (.cells cs 5 (0,0))→m k) (hv:∀ k,v.ownBlock=some k→m k):OwnOc w' base v Xs:=by
 obtain ⟨ps,e,ho,hp⟩:=h
 exact ⟨ps,e,own_kept ho g hv,fun p q=>(hp p q).kept g hm⟩
theorem OwnOc.below (h:OwnOc w base v Xs) (g:Below w.heap.size w w'):OwnOc w' base v Xs:=h.kept (m:=fun _=>True) (Below.kept g) (fun _ _ _=>trivial) fun _ _=>trivial
theorem OwnOc.blk (h:OwnOc w base v Xs) {k:Nat} (e:v.ownBlock=some k):∃ cs,w.heap[k]?=some (.cells cs 23 (0,0))∧base≤k:=by
 obtain ⟨ps,_,ho,_⟩:=h
 rcases ho.2 with ⟨rfl,_⟩ | ⟨g,cap,cur,rfl,hg,hh,_⟩
 ·cases e
 cases e
 exact ⟨cur,hh,hg⟩
theorem OwnOc.alt (h:OwnOc w base v Xs) (mp:OMap w b t) (g:Alt w w' b):OwnOc w' base v Xs:=h.kept g mp.nou8 fun k e=>by
 obtain ⟨cs,hc,_⟩:=h.blk e
 exact mp.norow (show RowAt w k _ cs from hc)
theorem oc_ne_u8:23≠5:=by decide
/-- What an append to a row of one's own leaves as it was. -/
theorem OwnOc.nou8 (h:OwnOc w base v Xs):∀ k cs,w.heap[k]?=some (.cells cs 5 (0,0))→some k≠v.ownBlock:=by
 intro k cs e q
 obtain ⟨cs',hc,_⟩:=h.blk q.symm
 rw [hc] at e
 exact oc_ne_u8 (by injection e with e;injection e)
end
section
variable {ops:Array Oper} {Q:Exit→Act→World→Prop} {n d:Nat} {E:Env} {o:Oper} {rest:List Oper} {w w':World} {x y z:Operand} {ty:TypeId} {base:Nat} {s r:SlV} {u v:Value} {Xs:List (List Int)} {xs:List Int}
end
/-- It does not lie in block g, if it lies anywhere. -/
def OffS (g:Nat) (s:SlV):Prop:=0<s.m→∀ p,s.A=some p→p.block≠g
structure OffNd (g:Nat) (l:NdV):Prop where
 enc:OffS g l.leaf.enc
 cred:OffS g l.leaf.cred
 par:OffS g l.leaf.par
 ienc:OffS g l.inner.enc
 hash:OffS g l.inner.hash
 unm:OffS g l.inner.unm
section
variable {w w':World} {B B' g:Nat} {s:SlV} {xs:List Int} {l:NdV} {L:Nd}
theorem OffS.nil (g:Nat):OffS g nilS:=fun h=>absurd h (Nat.lt_irrefl 0)
theorem OffS.of (h:Sl w B s xs) (hB:B≤g):OffS g s:=fun h0 p e q=>by
 obtain ⟨b,o,e2,hb,_⟩:=h.2.2.2.2 h0
 rw [e2] at e
 obtain rfl:p=⟨b,o,none⟩:=(Option.some.inj e).symm
 simp only at q
 omega
theorem OffS.ofN (h:SlN w B s xs) (hB:B≤g):OffS g s:=fun h0 p e q=>by
 obtain ⟨b,o,e2,hb,_⟩:=h.2.2.2 h0
 rw [e2] at e
 obtain rfl:p=⟨b,o,none⟩:=(Option.some.inj e).symm
 simp only at q
 omega
theorem OffS.fr {a:Nat} (f:Fr a s) (h:g<a):OffS g s:=fun _ p e q=>by
 have:=f p e
 omega
theorem OffNd.of (h:IsNd w B l L) (hB:B≤g):OffNd g l:=⟨.of h.leaf.enc hB,.of h.leaf.cred hB,.of h.leaf.par hB,.of h.inner.enc hB,.of h.inner.hash hB,.ofN h.inner.unm hB⟩
theorem OffNd.zero (g:Nat):OffNd g NdV.zero:=⟨.nil g,.nil g,.nil g,.nil g,.nil g,.nil g⟩
theorem Sl.off (h:Sl w w.heap.size s xs) (f:OffS g s) (k:Alt w w' g):Sl w' w'.heap.size s xs :=
 ⟨h.1,h.2.1,h.2.2.1,h.2.2.2.1,fun h0=>by
  obtain ⟨b,o,e,hb,hc⟩:=h.2.2.2.2 h0
  exact ⟨b,o,e,Nat.lt_of_lt_of_le hb k.size,fun i z hi=>(World.cell?_of_block (w:=w) (a:=⟨b,o+i,none⟩) (k.block b hb (f h0 _ e))).trans (hc i z hi)⟩⟩
theorem SlN.off (h:SlN w w.heap.size s xs) (f:OffS g s) (k:Alt w w' g):SlN w' w'.heap.size s xs :=
 ⟨h.1,h.2.1,h.2.2.1,fun h0=>by
  obtain ⟨b,o,e,hb,hc⟩:=h.2.2.2 h0
  exact ⟨b,o,e,Nat.lt_of_lt_of_le hb k.size,fun i z hi=>(World.cell?_of_block (w:=w) (a:=⟨b,o+i,none⟩) (k.block b hb (f h0 _ e))).trans (hc i z hi)⟩⟩
theorem IsNd.off (h:IsNd w w.heap.size l L) (f:OffNd g l) (k:Alt w w' g):IsNd w' w'.heap.size l L :=
 ⟨⟨h.leaf.enc.off f.enc k,h.leaf.cred.off f.cred k,h.leaf.par.off f.par k⟩,⟨h.inner.enc.off f.ienc k,h.inner.hash.off f.hash k,h.inner.unm.off f.unm k⟩⟩
end
/-- A row of nodes of one's own, in block g, none of which says what lies in that block; what they say lies below block T. -/
def OwnNa (w:World) (g T:Nat) (s:SlV) (Ls:List Nd):Prop:=s.A=some ⟨g,0,none⟩∧T≤w.heap.size∧∃ (ps:List NdP) (cur:Array Value),ps.map (·.2)=Ls∧s.m=ps.length∧s.m≤s.c∧s.c≤maxLen∧RowAt w g 38 cur∧cur.size=s.c*8∧cur.toList.take (ps.length*8)=ndCells ps∧∀ p∈ps,IsNd w T p.1 p.2∧OffNd g p.1
section
variable {w w':World} {B B' g T:Nat} {s:SlV} {xs:List Int} {l:NdV} {L:Nd} {Ls Ms:List Nd}
theorem OwnNa.cast (h:OwnNa w g T s Ls) (e:Ls=Ms):OwnNa w g T s Ms:=e▸h
theorem OwnNa.lt (h:OwnNa w g T s Ls):g<w.heap.size:=by
 obtain ⟨_,_,ps,cur,_,_,_,_,hr,_⟩:=h
 exact hr.lt
theorem OwnNa.len (h:OwnNa w g T s Ls):Ls.length=s.m:=by
 obtain ⟨_,_,ps,cur,rfl,e,_⟩:=h
 rw [e,List.length_map]
theorem OwnNa.up (h:OwnNa w g T s Ls):OwnNa w g w.heap.size s Ls:=by
 obtain ⟨e,hT,ps,cur,h1,h2,h3,h4,h5,h6,h7,h8⟩:=h
 exact ⟨e,Nat.le_refl _,ps,cur,h1,h2,h3,h4,h5,h6,h7,fun p q=>⟨(h8 p q).1.more hT,(h8 p q).2⟩⟩
theorem OwnNa.of {base:Nat} (h:OwnNd w base B s.v Ls) (hB:B≤base) (hw:B≤w.heap.size) (hpos:0<Ls.length):∃ g,base≤g∧OwnNa w g w.heap.size s Ls:=by
 obtain ⟨ps,rfl,ho,hp⟩:=h
 rw [List.length_map] at hpos
 rcases ho.2 with ⟨e,h0⟩ | ⟨g,cap,cur,e,hg,hh,h1,h2,h3,h4⟩
 ·omega
 obtain rfl:s=⟨some ⟨g,0,none⟩,ps.length,cap⟩:=SlV.v_inj e
 exact ⟨g,hg,rfl,Nat.le_refl _,ps,cur,rfl,rfl,h1,h2,hh,h3,h4,fun p q=>⟨(hp p q).more hw,.of (hp p q) (by omega)⟩⟩
theorem OwnNa.below (h:OwnNa w g T s Ls) (k:Below w.heap.size w w'):OwnNa w' g T s Ls:=by
 obtain ⟨e,hT,ps,cur,h1,h2,h3,h4,h5,h6,h7,h8⟩:=h
 exact ⟨e,Nat.le_trans hT k.size,ps,cur,h1,h2,h3,h4,RowAt.below k h5.lt h5,h6,h7,fun p q=>⟨(h8 p q).1.below (k.mono hT),(h8 p q).2⟩⟩
theorem Set1.alt {b:Nat} {tb:TypeId} {new:Array Value} (st:Set1 w w' b tb new):Alt w w' b:=⟨(st.below 0 (Nat.zero_le _)).os,(st.below 0 (Nat.zero_le _)).tape,(st.below 0 (Nat.zero_le _)).output,Nat.le_of_eq st.size.symm,fun j _ hj=>st.other j hj⟩
/-- A newer block is written. -/
theorem OwnNa.set1 (h:OwnNa w g T s Ls) {b:Nat} {tb:TypeId} {new:Array Value} (st:Set1 w w' b tb new) (hb:T≤b) (hg:g≠b):OwnNa w' g T s Ls:=by
 obtain ⟨e,hT,ps,cur,h1,h2,h3,h4,h5,h6,h7,h8⟩:=h
 exact ⟨e,Nat.le_trans hT (Nat.le_of_eq st.size.symm),ps,cur,h1,h2,h3,h4,st.keep h5 hg,h6,h7,fun p q=>⟨(h8 p q).1.below (st.below _ hb),(h8 p q).2⟩⟩
theorem OwnNa.row (h:OwnNa w g T s Ls):RwNd w w.heap.size s Ls:=by
 obtain ⟨e,hT,ps,cur,rfl,h2,h3,h4,h5,h6,h7,h8⟩:=h
 refine ⟨h3,h4,by rw [List.length_map];exact h2.symm,fun hm=>⟨g,0,e,h5.lt,fun i L hL=>?_⟩⟩
 rw [List.getElem?_map,Option.map_eq_some_iff] at hL
 obtain ⟨p,hp',rfl⟩:=hL
 refine ⟨p.1,(h8 p (List.mem_of_getElem? hp')).1.more hT,fun j u hu=>?_⟩
 have hj:j<8:=(Array.getElem?_eq_some_iff.1 hu).1
 have hi:=(List.getElem?_eq_some_iff.1 hp').1
 rw [Nat.zero_add,cell_of_row w g (i*8+j) cur _ _ h5,←Array.getElem?_toList]
 have h9:=ndCells_at ps i j p hp' hj
 rw [←h7,List.getElem?_take,if_pos (by omega)] at h9
 rw [h9,ndc,Array.getElem?_toList]
 exact hu
/-- The node at a place. -/
theorem OwnNa.at (h:OwnNa w g T s Ls) {i:Nat} (hi:i<Ls.length):∃ l:NdV,IsNd w T l (atN Ls i)∧OffNd g l∧∀ j u,(l.cs (atN Ls i))[j]?=some u→w.cell? ⟨g,0+i*8+j,none⟩=some u:=by
 obtain ⟨e,hT,ps,cur,rfl,h2,h3,h4,h5,h6,h7,h8⟩:=h
 rw [List.length_map] at hi
 have hp':ps[i]?=some ps[i]:=List.getElem?_eq_getElem hi
 have hL:atN (ps.map (·.2)) i=ps[i].2:=atN_some (by rw [List.getElem?_map,hp'];rfl)
 rw [hL]
 refine ⟨ps[i].1,(h8 _ (List.mem_of_getElem? hp')).1,(h8 _ (List.mem_of_getElem? hp')).2,fun j u hu=>?_⟩
 have hj:j<8:=(Array.getElem?_eq_some_iff.1 hu).1
 rw [Nat.zero_add,cell_of_row w g (i*8+j) cur _ _ h5,←Array.getElem?_toList]
 have h9:=ndCells_at ps i j _ hp' hj
 rw [←h7,List.getElem?_take,if_pos (by omega)] at h9
 rw [h9,ndc,Array.getElem?_toList]
 exact hu
theorem OwnNa.set (h:OwnNa w g T s Ls) {i:Nat} (hi:i<Ls.length) (hl:IsNd w w.heap.size l L) (ho:OffNd g l) {new:Array Value} (st:Set1 w w' g 38 new)
  (hnew:∀ cur:Array Value,RowAt w g 38 cur→new.toList=cur.toList.take (0+i*8)++(l.cs L).toList++cur.toList.drop (0+i*8+8)):OwnNa w' g w'.heap.size s (Ls.set i L):=by
 obtain ⟨e,hTT,ps,cur,rfl,h2,h3,h4,h5,h6,h7,h8⟩:=h
 rw [List.length_map] at hi
 have hnew:=hnew cur h5
 have k:Alt w w' g:=st.alt
 have hT:cur.toList=ndCells ps++cur.toList.drop (ps.length*8):=by
  conv=>lhs;rw [←List.take_append_drop (ps.length*8) cur.toList,h7]
 generalize hR:cur.toList.drop (ps.length*8)=R at hT
 have hlen:=ndCells_len ps
 have hnw:new.toList=ndCells (ps.set i (l,L))++R:=by
  rw [hnew,←ndCells_set ps i (l,L) hi,hT,Nat.zero_add,List.take_append_of_le_length (by omega),List.drop_append_of_le_length (by omega)]
  simp only [List.append_assoc,ndc]
 refine ⟨e,Nat.le_refl _,ps.set i (l,L),new,by rw [List.map_set],by rw [List.length_set];exact h2,h3,h4,st.row,?_,?_,fun p hp=>?_⟩
 ·have hc:cur.toList.length=s.c*8:=by
   rw [Array.length_toList]
   exact h6
  rw [←Array.length_toList,hnw,List.length_append,ndCells_len,List.length_set,←hR,List.length_drop,hc]
  omega
 ·rw [hnw]
  exact List.take_left' (by rw [ndCells_len])
 rcases List.mem_or_eq_of_mem_set hp with q | q
 ·exact ⟨((h8 p q).1.more hTT).off (h8 p q).2 k,(h8 p q).2⟩
 subst q
 exact ⟨hl.off ho k,ho⟩
end
section
variable {ops:Array Oper} {Q:Exit→Act→World→Prop} {n d:Nat} {E:Env} {o:Oper} {rest:List Oper} {w w':World} {x y z:Operand} {ty:TypeId} {g T:Nat} {s r:SlV} {l:NdV} {L:Nd} {Ls:List Nd} {xs:List Int}
/-- A node is written into such a row. -/
theorem lg_stA {i:Nat} (hown:OwnNa w g T s Ls) (hl:IsNd w w.heap.size l L) (hof:OffNd g l) (hi:i<Ls.length) (hw:Want ops E o true) (ho:o.op=.store 38 x y) (hx:val E x=some (pv g (0+i*8))) (hy:val E y=some (.agg (l.cs L))) (hd:o.dst=none)
  (h:∀ w' new,Set1 w w' g 38 new→OwnNa w' g w'.heap.size s (Ls.set i L)→LG Tryz.prog ops Q n E rest w'):LG Tryz.prog ops Q n E (o::rest) w:=by
 have hm:=hown.len
 have hown2:=hown
 obtain ⟨e,hT,ps,cur,h1,h2,h3,h4,h5,h6,h7,h8⟩:=hown
 refine lg_st (j:=0+i*8) hw h5 ho hx hy (by kernel_rfl) (by kernel_rfl) (by rw [h6];show 0+i*8+8≤_;omega) rfl hd fun w' st=>h w' _ st (hown2.set hi hl hof st fun cur' r'=>?_)
 obtain rfl:cur=cur':=by
  unfold RowAt at h5 r'
  rw [h5] at r'
  injection r' with r'
  injection r'
 rfl
/-- The numbers of a node are written, in such a row. -/
theorem lg_stU {i:Nat} (hown:OwnNa w g T s Ls) (hl:SlN w w.heap.size r xs) (hof:OffS g r) (hi:i<Ls.length) (hw:Want ops E o true) (ho:o.op=.store 32 x y) (hx:val E x=some (pv g (0+i*8+7))) (hy:val E y=some r.v) (hd:o.dst=none)
  (h:∀ w' new,Set1 w w' g 38 new→OwnNa w' g w'.heap.size s (Ls.set i ⟨(atN Ls i).kind,(atN Ls i).leaf,⟨(atN Ls i).inner.enc,(atN Ls i).inner.hash,xs⟩⟩)→LG Tryz.prog ops Q n E rest w'):LG Tryz.prog ops Q n E (o::rest) w:=by
 have hm:=hown.len
 obtain ⟨l,q1,q2,q3⟩:=hown.at hi
 have hown2:=hown
 obtain ⟨e,hT,ps,cur,h1,h2,h3,h4,h5,h6,h7,h8⟩:=hown
 have hsz:0+i*8+7<cur.size:=by rw [h6];omega
 refine lg_st1 (j:=0+i*8+7) hw h5 ho hx hy (by kernel_rfl) rfl hsz rfl hd fun w' st=>h w' _ st (hown2.set (l:=⟨l.leaf,⟨l.inner.enc,l.inner.hash,r⟩⟩) hi ⟨(q1.more hT).leaf,⟨(q1.more hT).inner.enc,(q1.more hT).inner.hash,hl⟩⟩ ⟨q2.enc,q2.cred,q2.par,q2.ienc,q2.hash,hof⟩ st fun cur' r'=>?_)
 obtain rfl:cur=cur':=by
  unfold RowAt at h5 r'
  rw [h5] at r'
  injection r' with r'
  injection r'
 have hc:∀ j u,(l.cs (atN Ls i))[j]?=some u→cur[0+i*8+j]?=some u:=fun j u hu=>by
  have:=q3 j u hu
  rwa [cell_of_row w g (0+i*8+j) cur _ _ h5] at this
 refine List.ext_getElem? fun k=>?_
 rw [Array.toList_setIfInBounds,List.getElem?_set]
 have hlc:(cur.toList.take (0+i*8)).length=0+i*8:=by rw [List.length_take,Array.length_toList];omega
 by_cases k1:k<0+i*8
 ·rw [if_neg (by omega),List.append_assoc,List.getElem?_append_left (by omega),List.getElem?_take,if_pos k1]
 by_cases k2:k<0+i*8+8
 ·obtain ⟨j,rfl⟩:∃ j,k=0+i*8+j:=⟨k-(0+i*8),by omega⟩
  have hj:j<8:=by omega
  rw [List.append_assoc,List.getElem?_append_right (by omega),hlc,Nat.add_sub_cancel_left,List.getElem?_append_left (by show j<8;exact hj),Array.getElem?_toList,Array.getElem?_toList]
  match j,hj with
  | 0,_=>rw [if_neg (by omega)];exact hc 0 _ rfl
  | 1,_=>rw [if_neg (by omega)];exact hc 1 _ rfl
  | 2,_=>rw [if_neg (by omega)];exact hc 2 _ rfl
  | 3,_=>rw [if_neg (by omega)];exact hc 3 _ rfl
  | 4,_=>rw [if_neg (by omega)];exact hc 4 _ rfl
  | 5,_=>rw [if_neg (by omega)];exact hc 5 _ rfl
  | 6,_=>rw [if_neg (by omega)];exact hc 6 _ rfl
  | 7,_=>rw [if_pos rfl,if_pos (by rw [Array.length_toList];exact hsz)];rfl
 rw [if_neg (by omega),List.append_assoc,List.getElem?_append_right (by omega),hlc,List.getElem?_append_right (by show 8≤_;omega),List.getElem?_drop]
 congr 1
 show k=0+i*8+8+(k-(0+i*8)-8)
 omega
end
/- HsProg:
  The hash of a tree: what the program answers.
-/
/- HsRef:
  The hash of a tree: what the document answers.
-/
end Go.Proofs.YtognnnjdoemgfaaGreatDoor
