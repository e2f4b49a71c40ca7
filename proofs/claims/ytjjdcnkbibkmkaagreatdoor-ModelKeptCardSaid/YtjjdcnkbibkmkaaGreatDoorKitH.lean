/-
  KitH: HsMath, HsWk, HsProg, HsRef.
-/
import Derived.Test.YtjjdcnkbibkmkaaGreatDoorKitG
import Derived.Test.YtjjdcnkbibkmkaaGreatDoorKitS
import Derived.Maps.Keyed
import Derived.Test.YtjjdcnkbibkmkaaGreatDoorTrRef
namespace Go.Proofs.YtjjdcnkbibkmkaaGreatDoor
open Go.Proofs.Tryz
open Go.ChangeShapes Go.WideShapes Go.ChangeAt Go.RowKit
set_option linter.unusedVariables false
variable {B b k:Nat} {Ls t:List Nd} {W:World} {p:Pn} {s:SlV}

/- HsMath:
  The hash of a tree: pure.
-/
def hsF (t:List Nd) (x:Int) (l r:List Int):List Int:=sumL (if x % 2=0 then ofLeafO (x / 2) (atN t x.toNat) else ofInnerO (atN t x.toNat) l r)
def hsN:Nat->List Nd->Int->List Int
 | 0,_,_=>[]
 | n+1,t,x=>hsF t x (hsN n t (leftI x t.length)) (hsN n t (rightI x t.length))
def hsL (t:List Nd) (x:Int):List Int:=hsN 7 t x
theorem hsF_len (t:List Nd) (x:Int) (l r:List Int):(hsF t x l r).length=32:=sumL_length _
theorem hsL_len (t:List Nd) (x:Int):(hsL t x).length=32:=hsF_len t x _ _
theorem hs_even {x:Int} {l r:List Int} (h:x % 2=0):hsF t x l r=sumL (ofLeafO (x / 2) (atN t x.toNat)):=by
 unfold hsF;rw [if_pos h]
theorem hs_more:∀ (n:Nat) (t:List Nd) (x:Int),isN x (t.length:Int)->lvl x<n->hsN (n+1) t x=hsN n t x
 | 0,t,x,h,hl=>by
  have:=(kids h).1;omega
 | n+1,t,x,h,hl=>by
  show hsF t x (hsN (n+1) t _) (hsN (n+1) t _)=hsF t x (hsN n t _) (hsN n t _);by_cases e:x % 2=0
  ·rw [hs_even e,hs_even e]
  obtain ⟨⟨a,b⟩,c,d⟩:=odd_kids h e;rw [hs_more n t _ a (by omega),hs_more n t _ c (by omega)]
theorem hs_eq {x:Int} (h:isN x (t.length:Int)):hsL t x=hsF t x (hsL t (leftI x t.length)) (hsL t (rightI x t.length)) :=
 (hs_more 7 t x h (by have:=(kids h).2.1;omega)).symm
def ofH (t:List Nd) (x:Int):List Int:=if isN x (t.length:Int) then hsL t x else []
theorem ofH_yes {x:Int} (h:isN x (t.length:Int)):ofH t x=hsL t x:=if_pos h
theorem ofH_no {x:Int} (h:¬isN x (t.length:Int)):ofH t x=[]:=if_neg h
theorem ofH_len (t:List Nd) (x:Int):(ofH t x).length<=32:=by
 unfold ofH;split
 ·exact Nat.le_of_eq (hsL_len t x)
 exact Nat.zero_le _
def allN (t:List Nd) (n:Nat):List (List Int):=(List.range n).map fun i:Nat=>hsL t (i:Int)
def allH (t:List Nd):List (List Int):=allN t t.length
theorem allN_len (t:List Nd) (n:Nat):(allN t n).length=n:=by simp [allN]
theorem allH_len (t:List Nd):(allH t).length=t.length:=allN_len t _
def cutN (l:List Int) (n:Nd):Nd:=⟨n.kind,n.leaf,⟨n.inner.enc,n.inner.hash,cutK n.inner.unm l⟩⟩
def goneAt (l:List Int) (i:Nat):Prop:=i % 2=0/\((i / 2:Nat):Int)∈l
instance (l:List Int) (i:Nat):Decidable (goneAt l i):=by unfold goneAt;infer_instance
def zapN (l:List Int) (i:Nat) (n:Nd):Nd:=if goneAt l i then Nd.zero else n
def zapL (l:List Int) (t:List Nd):List Nd:=t.mapIdx (zapN l)
def cutL (l:List Int) (k:Nat) (t:List Nd):List Nd:=t.mapIdx fun i n=>if i<k then cutN l n else n
def dropL (l:List Int) (t:List Nd):List Nd:=t.mapIdx fun i n=>cutN l (zapN l i n)
theorem zapL_len (l:List Int) (t:List Nd):(zapL l t).length=t.length:=List.length_mapIdx
theorem cutL_len (l:List Int) (k:Nat) (t:List Nd):(cutL l k t).length=t.length:=List.length_mapIdx
theorem dropL_len (l:List Int) (t:List Nd):(dropL l t).length=t.length:=List.length_mapIdx
theorem atN_mapIdx {f:Nat->Nd->Nd} {i:Nat} (h:i<t.length):atN (t.mapIdx f) i=f i (atN t i):=by
 rw [atN_eq,atN_eq,List.getElem?_mapIdx,List.getElem?_eq_getElem h];rfl
theorem drop_at {l:List Int} {i:Nat} (h:i<t.length):atN (dropL l t) i=cutN l (zapN l i (atN t i)):=atN_mapIdx h
theorem zap_at {l:List Int} {i:Nat} (h:i<t.length):atN (zapL l t) i=zapN l i (atN t i):=atN_mapIdx h
theorem cutL_at {l:List Int} {i:Nat} (h:i<t.length):atN (cutL l k t) i=if i<k then cutN l (atN t i) else atN t i:=atN_mapIdx h
theorem zap_none (t:List Nd):zapL [] t=t:=list_atN (zapL_len _ _) fun i hi=>by
 rw [zapL_len] at hi;rw [zap_at hi,zapN,if_neg];exact fun q=>by cases q.2
theorem zap_snoc {l:List Int} {i:Int} (h0:0<=i) (h1:i<leavesA t):(zapL l t).set (2*i).toNat Nd.zero=zapL (l++[i]) t:=by
 have hl:leavesA t=(t.length+1) / 2:=rfl;refine list_atN (by rw [List.length_set,zapL_len,zapL_len]) fun j hj=>?_;rw [List.length_set,zapL_len] at hj;rw [atN_set (by rw [zapL_len];omega),zap_at hj,zap_at hj];by_cases e:j=(2*i).toNat
 ·rw [if_pos e,zapN,if_pos ⟨by omega,List.mem_append.2 (.inr (List.mem_singleton.2 (by omega)))⟩]
 rw [if_neg e,zapN,zapN];by_cases g:goneAt l j
 ·rw [if_pos g,if_pos ⟨g.1,List.mem_append.2 (.inl g.2)⟩]
 rw [if_neg g,if_neg];intro q;rcases List.mem_append.1 q.2 with z | z
 ·exact g ⟨q.1,z⟩
 have:=List.mem_singleton.1 z;have:=q.1;omega
theorem zap_out {l:List Int} {i:Int} (h1:¬i<leavesA t):zapL l t=zapL (l++[i]) t:=by
 have hl:leavesA t=(t.length+1) / 2:=rfl;refine list_atN (by rw [zapL_len,zapL_len]) fun j hj=>?_;rw [zapL_len] at hj;rw [zap_at hj,zap_at hj,zapN,zapN];by_cases g:goneAt l j
 ·rw [if_pos g,if_pos ⟨g.1,List.mem_append.2 (.inl g.2)⟩]
 rw [if_neg g,if_neg];intro q;rcases List.mem_append.1 q.2 with z | z
 ·exact g ⟨q.1,z⟩
 have:=List.mem_singleton.1 z;have:=q.1;omega
theorem cut_none (l:List Int) (t:List Nd):cutL l 0 t=t:=list_atN (cutL_len _ _ _) fun i hi=>by
 rw [cutL_len] at hi;rw [cutL_at hi,if_neg (by omega)]
theorem cut_snoc {l:List Int} (h:k<t.length):(cutL l k t).set k (cutN l (atN (cutL l k t) k))=cutL l (k+1) t:=by
 refine list_atN (by rw [List.length_set,cutL_len,cutL_len]) fun j hj=>?_;rw [List.length_set,cutL_len] at hj;rw [atN_set (by rw [cutL_len];exact h),cutL_at hj,cutL_at hj,cutL_at h,if_neg (Nat.lt_irrefl k)];by_cases e:j=k
 ·subst e;rw [if_pos rfl,if_pos (by omega)]
 rw [if_neg e];by_cases q:j<k
 ·rw [if_pos q,if_pos (by omega)]
 rw [if_neg q,if_neg (by omega)]
theorem cut_zap (l:List Int) (t:List Nd):cutL l t.length (zapL l t)=dropL l t:=by
 refine list_atN (by rw [cutL_len,zapL_len,dropL_len]) fun j hj=>?_;rw [cutL_len,zapL_len] at hj;rw [cutL_at (by rw [zapL_len];exact hj),if_pos hj,zap_at hj,drop_at hj]
def numG (l:List Int):List Int:=l.foldl (fun o i=>if 0<=i/\i<64/\i∉o then o++[i] else o) []
theorem numG_snoc (l:List Int) (i:Int):numG (l++[i])=if 0<=i/\i<64/\i∉numG l then numG l++[i] else numG l:=by
 unfold numG;rw [List.foldl_append];rfl
theorem numG_take {l:List Int} (h:k<l.length):numG (l.take (k+1))=if 0<=l.getD k 0/\l.getD k 0<64/\l.getD k 0∉numG (l.take k) then numG (l.take k)++[l.getD k 0] else numG (l.take k):=by
 have e:l.take (k+1)=l.take k++[l.getD k 0]:=by
  rw [List.take_succ_eq_append_getElem h,List.getD_eq_getElem?_getD,List.getElem?_eq_getElem h];rfl
 rw [e,numG_snoc]
theorem numG_aux {i:Int}:∀ (l o:List Int),i∈l.foldl (fun o i=>if 0<=i/\i<64/\i∉o then o++[i] else o) o↔i∈o\/(i∈l/\0<=i/\i<64)
 | [],o=>by simp
 | x::l,o=>by
  rw [List.foldl_cons,numG_aux l];split
  ·rename_i h
   rw [List.mem_append,List.mem_singleton,List.mem_cons];constructor
   ·rintro ((q | rfl) | q)
    ·exact .inl q
    ·exact .inr ⟨.inl rfl,h.1,h.2.1⟩
    exact .inr ⟨.inr q.1,q.2⟩
   rintro (q | ⟨rfl | q,r⟩)
   ·exact .inl (.inl q)
   ·exact .inl (.inr rfl)
   exact .inr ⟨q,r⟩
  rename_i h
  simp only [List.mem_cons];constructor
  ·rintro (q | q)
   ·exact .inl q
   exact .inr ⟨.inr q.1,q.2⟩
  rintro (q | ⟨rfl | q,r⟩)
  ·exact .inl q
  ·by_cases z:i∈o
   ·exact .inl z
   exact absurd ⟨r.1,r.2,z⟩ h
  exact .inr ⟨q,r⟩
theorem numG_mem {l:List Int} {i:Int}:i∈numG l↔i∈l/\0<=i/\i<64:=by
 unfold numG;rw [numG_aux];simp
theorem numG_len:∀ (l o:List Int),(l.foldl (fun o i=>if 0<=i/\i<64/\i∉o then o++[i] else o) o).length<=l.length+o.length
 | [],o=>by simp
 | x::l,o=>by
  rw [List.foldl_cons];refine Nat.le_trans (numG_len l _) ?_;split
  ·simp only [List.length_append,List.length_cons,List.length_nil];omega
  simp only [List.length_cons];omega
theorem numG_le (l:List Int):(numG l).length<=l.length:=by
 have:=numG_len l [];simpa [numG] using this
theorem cutK_num {u l:List Int} (h:∀ x∈u,0<=x/\x<64):cutK u (numG l)=cutK u l:=by
 unfold cutK;refine List.filter_congr fun x hx=>?_;have:=h x hx;have:x∈numG l↔x∈l:=by rw [numG_mem];exact ⟨fun q=>q.1,fun q=>⟨q,this⟩⟩
 simp [this]
theorem gone_num (ht:t.length<=127) (l:List Int) {i:Nat} (hi:i<t.length):goneAt (numG l) i↔goneAt l i:=by
 unfold goneAt;rw [numG_mem];exact ⟨fun q=>⟨q.1,q.2.1⟩,fun q=>⟨q.1,q.2,by omega,by omega⟩⟩
theorem drop_num (ht:trIs t) (l:List Int):dropL (numG l) t=dropL l t:=by
 refine list_atN (by rw [dropL_len,dropL_len]) fun i hi=>?_;rw [dropL_len] at hi;rw [drop_at hi,drop_at hi,zapN,zapN];have hg:=gone_num (trIs_le ht) l hi;by_cases g:goneAt l i
 ·rw [if_pos g,if_pos (hg.2 g)];rfl
 rw [if_neg g,if_neg (fun q=>g (hg.1 q)),cutN,cutN,cutK_num (unm_small ht i).1]
theorem pn_eq {q:Pn} (h:PnSame p q):p=q:=by
 obtain ⟨a,b,c⟩:=h;obtain ⟨x,y,u⟩:=p;obtain ⟨x',y',u'⟩:=q;cases a;cases b;cases c;rfl
theorem unm_kind {n:Nd} (h:ndCheck n=0) (k:¬n.kind=2):n.inner=Pn.zero:=by
 unfold ndCheck at h;split at h
 ·omega
 split at h
 ·omega
 rename_i q
 have z:PnSame n.inner Pn.zero:=Classical.byContradiction fun z=>q (.inr ⟨k,z⟩);exact pn_eq z
theorem cutN_kind {l:List Int} {n:Nd} (h:ndCheck n=0) (k:¬n.kind=2):cutN l n=n:=by
 have e:=unm_kind h k;obtain ⟨x,y,u⟩:=n;simp only at e;subst e;rfl
theorem pnCheck_mk (h1:0<p.enc.length) (h2:p.enc.length<=200) (h3:p.hash.length<=200) (h4:p.unm.length<=64) (h5:∀ x∈p.unm,0<=x/\x<64) (h6:Rising p.unm):pnCheck p=0:=by
 unfold pnCheck;rw [if_neg (by omega),if_neg (by omega),if_neg (by rintro ⟨x,hx,q⟩;have:=h5 x hx;omega),if_neg (fun q=>q h6)]
theorem pn_cut (h:pnCheck p=0) (l:List Int):pnCheck ⟨p.enc,p.hash,cutK p.unm l⟩=0:=by
 obtain ⟨a,b,c,d⟩:=pnCheck_ok h;obtain ⟨e,f⟩:=pnCheck_nums h;exact pnCheck_mk a b c (Nat.le_trans (cutK_length p.unm l) d) (fun x hx=>e x (cutK_mem.1 hx).1) (cutK_rising (i:=l) f)
theorem nd_cut {n:Nd} (h:ndCheck n=0) (l:List Int):ndCheck (cutN l n)=0:=by
 by_cases k:n.kind=2
 ·have hp:pnCheck n.inner=0:=by
   have h2:=h;unfold ndCheck at h2
   repeat' split at h2
   all_goals first | exact h2 | omega
  have hq:=pn_cut hp l;obtain ⟨kd,lf,p⟩:=n;simp only at k hp hq;subst k;show ndCheck ⟨2,lf,⟨p.enc,p.hash,cutK p.unm l⟩⟩=0;unfold ndCheck at h ⊢;dsimp only at h ⊢;have z:¬((¬(2:Int)=1/\¬LfSame lf Lf.zero)\/(¬(2:Int)=2/\¬PnSame p Pn.zero)):=fun q=>by
   rw [if_neg (by decide),if_pos q] at h;exact absurd h (by decide)
  rw [if_neg (by decide),if_neg (fun q=>z (q.imp id fun r=>absurd rfl r.1)),if_neg (by decide),if_pos rfl];exact hq
 rw [cutN_kind h k];exact h
theorem drop_ok (ht:trIs t) (l:List Int) (i:Nat) (hi:i<t.length):okAt i (cutN l (zapN l i (atN t i))):=by
 have h:=trIs_ok ht i;unfold zapN;split
 ·exact ok_zero i
 exact ⟨nd_cut h.1 l,h.2⟩
theorem drop_is (ht:trIs t) (l:List Int):trIs (dropL l t):=by
 refine ⟨by rw [dropL_len];exact ht.1,fun i hi=>?_⟩;rw [dropL_len] at hi;rw [drop_at hi];exact drop_ok ht l i hi
/- HsWk:
  Maps of octets by whole numbers, rows of slices of octets, rows of nodes that are written: what they are, and rules.
-/
abbrev Alt (w w':World) (c:Nat):Prop:=Kept (fun k=>k≠c) w w'
def Hs (w:World) (s:SlV) (xs:List Int):Prop:=Sl w w.heap.size s xs/\U8 w s.A
section
variable {w w':World} {s:SlV} {xs:List Int} {m:Nat->Prop} {b c:Nat} {t:List Nd}
theorem Hs.kept (h:Hs w s xs) (g:Kept m w w') (hm:∀ k cs,w.heap[k]?=some (.cells cs 5 (0,0))->m k):Hs w' s xs:=by
 obtain ⟨⟨h1,h2,h3,h4,h5⟩,hu⟩:=h;refine ⟨⟨h1,h2,h3,h4,fun h0=>?_⟩,fun p e=>?_⟩
 ·obtain ⟨k,off,e,hk,hc⟩:=h5 h0;obtain ⟨cs,hcs⟩:=hu _ e;exact ⟨k,off,e,Nat.lt_of_lt_of_le hk g.size,fun i z hi=>(World.cell?_of_block (w:=w) (a:=⟨k,off+i,none⟩) (g.block k hk (hm k cs hcs))).trans (hc i z hi)⟩
 obtain ⟨cs,hcs⟩:=hu _ e;exact ⟨cs,(g.block p.block (Array.getElem?_eq_some_iff.1 hcs).1 (hm _ cs hcs)).trans hcs⟩
theorem Hs.below (h:Hs w s xs) (g:Bw w w'):Hs w' s xs:=h.kept (m:=fun _=>True) (Below.kept g) fun _ _ _=>trivial
theorem Hs.len (h:Hs w s xs):xs.length=s.m:=h.1.len
theorem Hs.of {v:Value} (h:SlT w xs v w'):∃ r:SlV,v=r.v/\Hs w' r xs/\Bw w w':=by
 obtain ⟨A,m,c,rfl,h1,⟨h2,h3,_⟩,h4,h5⟩:=h;exact ⟨⟨A,m,c⟩,rfl,⟨⟨h1,h2,h4⟩,h3⟩,h5⟩
theorem Hs.ofF {v:Value} (h:SlT w xs v w'):∃ r:SlV,v=r.v/\Hs w' r xs/\Fr w.heap.size r/\Bw w w':=by
 obtain ⟨A,m,c,rfl,h1,⟨h2,h3,h6⟩,h4,h5⟩:=h;exact ⟨⟨A,m,c⟩,rfl,⟨⟨h1,h2,h4⟩,h3⟩,h6,h5⟩
def OMap (w:World) (b:Nat) (t:List Nd):Prop:=∃ es clock,w.heap[b]?=some (.map es clock)/\∀ e∈es.toList,∃ (k:Int) (s:SlV),e.key=nv k/\e.val=s.v/\isN k (t.length:Int)/\Hs w s (hsL t k)
theorem OMap.lt (h:OMap w b t):b<w.heap.size:=by
 obtain ⟨es,clock,hb,_⟩:=h;exact (Array.getElem?_eq_some_iff.1 hb).1
theorem OMap.nou8 (h:OMap w b t):∀ k cs,w.heap[k]?=some (.cells cs 5 (0,0))->k≠b:=by
 obtain ⟨es,clock,hb,_⟩:=h;rintro k cs e rfl;rw [hb] at e;cases e
theorem OMap.norow (h:OMap w b t) {ty:TypeId} {cs:Array Value} (r:RowAt w k ty cs):k≠b:=by
 obtain ⟨es,clock,hb,_⟩:=h;rintro rfl;unfold RowAt at r;rw [hb] at r;cases r
theorem OMap.kept (h:OMap w b t) (g:Kept m w w') (hm:∀ k cs,w.heap[k]?=some (.cells cs 5 (0,0))->m k) (hb':m b):OMap w' b t:=by
 have hlt:=h.lt;obtain ⟨es,clock,hb,he⟩:=h;refine ⟨es,clock,(g.block b hlt hb').trans hb,fun e q=>?_⟩;obtain ⟨k,s,h1,h2,h3,h4⟩:=he e q;exact ⟨k,s,h1,h2,h3,h4.kept g hm⟩
theorem OMap.below (h:OMap w b t) (g:Bw w w'):OMap w' b t:=h.kept (m:=fun _=>True) (Below.kept g) (fun _ _ _=>trivial) trivial
theorem Hs.alt (h:Hs w s xs) (mp:OMap w b t) (g:Alt w w' b):Hs w' s xs:=h.kept g mp.nou8
theorem keyI:Maps.Keyed prog 3:=Maps.int_keyed huInt
theorem keyI_of {k n:Int} (h:isN k n):keyOf prog 3 (nv k)=some (.int .i64 k):=Maps.keyOf_int_mk huInt (by
 have:=h.le;simp [Lit.wf,IntKind.min,IntKind.max,IntKind.signed,IntKind.bits];omega)
theorem huSums:prog.underlying 192=some (.map 3 26):=by kernel_rfl
theorem OMap.look (h:OMap w b t) {x:Int} (hx:isN x (t.length:Int)):(Instr.lookup 192 (.map (some b)) (nv x) true).run prog w=.ok (.tuple #[nilS.v,.bool false]) w \/
  ∃ s:SlV,Hs w s (hsL t x)/\(Instr.lookup 192 (.map (some b)) (nv x) true).run prog w=.ok (.tuple #[s.v,.bool true]) w:=by
 obtain ⟨es,clock,hb,he⟩:=h;have hk:=keyI_of hx;rcases keyI.find w hk es.toList (fun e q=>by
  obtain ⟨k,s,h1,_,h3,_⟩:=he e q;exact ⟨_,by rw [h1];exact keyI_of h3⟩) with ⟨h1,_⟩ | ⟨j,e0,h1,h2,h3⟩
 ·exact .inl (by simp [Instr.lookup,run_underlying huSums,MapKept.run_getObj_map hb,keyI.check w _ hk,h1,Result.andThen])
 obtain ⟨k,s,e1,e2,_,e4⟩:=he e0 (List.mem_of_getElem? h2);rw [h3] at e1;obtain rfl:x=k:=by simpa using e1
 exact .inr ⟨s,e4,by simp [Instr.lookup,run_underlying huSums,MapKept.run_getObj_map hb,keyI.check w _ hk,h1,Result.andThen,e2]⟩
theorem OMap.put (h:OMap w b t) {x:Int} (hx:isN x (t.length:Int)) (hs:Hs w s (hsL t x)):∃ w',(Instr.mapUpdate 192 (.map (some b)) (nv x) s.v).run prog w=.ok () w'/\OMap w' b t/\Alt w w' b/\w'.heap.size=w.heap.size:=by
 have hn:=h.nou8;obtain ⟨es,clock,hb,he⟩:=h;have hk:=keyI_of hx;have alt:∀ o,Alt w (ChangeMaps.setBlock w b o) b:=fun o=>⟨rfl,rfl,rfl,by simp [ChangeMaps.setBlock],fun k _ hk=>ChangeMaps.heap_setBlock_other hb o hk⟩;have sz:∀ o,(ChangeMaps.setBlock w b o).heap.size=w.heap.size:=fun o=>by simp [ChangeMaps.setBlock]
 rcases keyI.find w hk es.toList (fun e q=>by
  obtain ⟨k,s,h1,_,h3,_⟩:=he e q;exact ⟨_,by rw [h1];exact keyI_of h3⟩) with ⟨h1,_⟩ | ⟨j,e0,h1,h2,h3⟩
 ·refine ⟨ChangeMaps.setBlock w b (.map (es.push ⟨nv x,s.v,clock⟩) (clock+1)),?_,⟨_,_,ChangeMaps.heap_setBlock_same hb _,fun e q=>?_⟩,alt _,sz _⟩
  ·simp [Instr.mapUpdate,run_underlying huSums,MapKept.run_getObj_map hb,keyI.check w false hk,h1,MapKept.run_setObj_map _ hb,Result.andThen,ChangeMaps.setBlock]
  rw [Array.toList_push] at q;rcases List.mem_append.1 q with q | q
  ·obtain ⟨k,s,h1,h2,h3,h4⟩:=he e q;exact ⟨k,s,h1,h2,h3,h4.kept (alt _) hn⟩
  obtain rfl:e=⟨nv x,s.v,clock⟩:=by simpa using q
  exact ⟨x,s,rfl,rfl,hx,hs.kept (alt _) hn⟩
 have hj:es[j]?=some e0:=by simpa using h2
 refine ⟨ChangeMaps.setBlock w b (.map (es.modify j fun e'=>{ e' with key:=nv x,val:=s.v }) clock),?_,⟨_,_,ChangeMaps.heap_setBlock_same hb _,fun e q=>?_⟩,alt _,sz _⟩
 ·simp [Instr.mapUpdate,run_underlying huSums,MapKept.run_getObj_map hb,keyI.check w false hk,h1,hj,h3,keyI.stays w hk,MapKept.run_setObj_map _ hb,Result.andThen,ChangeMaps.setBlock]
 rw [Array.toList_modify,ChangeMaps.modify_eq_set _ _ _ _ h2] at q;rcases List.mem_or_eq_of_mem_set q with q | q
 ·obtain ⟨k,s,h1,h2,h3,h4⟩:=he e q;exact ⟨k,s,h1,h2,h3,h4.kept (alt _) hn⟩
 subst q;exact ⟨x,s,rfl,rfl,hx,hs.kept (alt _) hn⟩
theorem OMap.made (w:World) (t:List Nd):OMap (w.alloc (.map #[] 0)) w.heap.size t:=⟨#[],0,(MapKept.heap_alloc w _).1,fun e q=>by simp at q⟩
structure Tt (w:World):Prop where
 b:Tb w
 k:∃ tg,RowAt w 2 tg (cW 64 num)
theorem Tt.up (u:Bw w w') (h:Tt w):Tt w':=by
 obtain ⟨hb,tg,r⟩:=h;exact ⟨Tb.up u hb,tg,Rb u r⟩
theorem Tt.alt (h:Tt w) (mp:OMap w b t) (g:Alt w w' b):Tt w':=by
 obtain ⟨⟨tg,r⟩,tg2,r2⟩:=h;exact ⟨⟨tg,(g.block _ r.lt (mp.norow r)).trans r⟩,tg2,(g.block _ r2.lt (mp.norow r2)).trans r2⟩
theorem Alt.below (g:Alt w w' b) (hB:B<=b) (hw:B<=w.heap.size):Below B w w':=Kept.below g (fun k hk=>by omega) hw
theorem Alt.grow {v:World} (g:Alt w v b) (h:Bw v w'):Alt w w' b:=g.trans (Below.kept h)
end
section
variable {ops:Array Oper} {Q:Exit->Act->World->Prop} {n d:Nat} {E:Env} {o:Oper} {rest:List Oper} {w w':World} {x y z:Operand} {ty:TypeId} {b:Nat} {t:List Nd} {s:SlV} {v:Value}
theorem lg_mkM (hw:Want ops E o true) (ho:o.op=.makeMap 192 none) (hd:o.dst=some d) (hn:d<n)
  (h:∀ b w',b=w.heap.size->w'.heap.size=b+1->(∀ t,OMap w' b t)->Bw w w'->LG prog ops Q n ((d,.map (some b))::E) rest w'):LG prog ops Q n E (o::rest) w:=by
 refine lg_do hw (fun n a ha=>?_) hd hn (h w.heap.size (w.alloc (.map #[] 0)) rfl (by simp) (fun t=>OMap.made w t) ((Below.refl _ _).alloc Lr _));have hr:(Instr.makeMap 192 none).run prog w=.ok (.map (some w.heap.size)) (w.alloc (.map #[] 0)):=rfl;unfold execOp;rw [ho];simp only [Option.map_none,Sem.run_bind,hr,Result.andThen_ok,Sem.run_pure]
theorem y_look {mv kv:Value} (hr:(Instr.lookup ty mv kv true).run prog w=.ok v w) (ho:o.op=.lookup ty x y true:=by rfl) (hx:val E x=some mv:=by rfl) (hy:val E y=some kv:=by rfl):Yields prog E o w v:=fun n a ha=>.inl (by
 unfold execOp;rw [ho];simp only [ha.eval hx,ha.eval hy];rw [Sem.run_bind,hr];rfl)
theorem lg_putM {k:Int} (mp:OMap w b t) (hk:isN k (t.length:Int)) (hs:Hs w s (hsL t k)) (hw:Want ops E o true) (ho:o.op=.mapUpdate 192 x y z) (hx:val E x=some (.map (some b))) (hy:val E y=some (nv k)) (hz:val E z=some s.v) (hd:o.dst=none)
  (h:∀ w',OMap w' b t->Alt w w' b->w'.heap.size=w.heap.size->LG prog ops Q n E rest w'):LG prog ops Q n E (o::rest) w:=by
 obtain ⟨w',hr,h1,h2,h3⟩:=mp.put hk hs;intro a ha;unfold wpList;rw [hw n a ha,if_pos rfl];refine .inl ?_;unfold Oper.wp;have he:(execOp a.eval o).run prog w=.ok .skip w':=by
  unfold execOp;rw [ho];simp only [ha.eval hx,ha.eval hy,ha.eval hz];rw [Sem.run_bind,hr];rfl
 rw [he];show wpList prog ops Q rest (a.put o.dst _) w';rw [hd];exact h w' h1 h2 h3 a ha
end
def RwOc (w:World) (B:Nat) (s:SlV) (Xs:List (List Int)):Prop:=s.m<=s.c/\s.c<=maxLen/\Xs.length=s.m /\
 (0<s.m->∃ b o,s.A=some ⟨b,o,none⟩/\b<B/\∀ i xs,Xs[i]?=some xs->∃ r:SlV,Sl w B r xs/\w.cell? ⟨b,o+i*1,none⟩=some r.v)
abbrev OcP:=SlV × List Int
def OwnOc (w:World) (base:Nat) (v:Value) (Xs:List (List Int)):Prop:=∃ ps:List OcP,ps.map (·.2)=Xs/\w.ownsRow base 26 1 v ps.length (ps.map (·.1.v))/\∀ p∈ps,Hs w p.1 p.2
section
variable {w w':World} {B B' base b c:Nat} {s r:SlV} {v:Value} {Xs Ys:List (List Int)} {xs:List Int} {m:Nat->Prop} {t:List Nd}
theorem RwOc.nil (w:World) (B:Nat):RwOc w B nilS []:=⟨Nat.le_refl _,Nat.zero_le _,rfl,fun q=>absurd q (by simp)⟩
theorem RwOc.cast (h:RwOc w B s Xs) (e:Xs=Ys):RwOc w B s Ys:=e▸h
theorem RwOc.len (h:RwOc w B s Xs):Xs.length=s.m:=h.2.2.1
theorem RwOc.cap (h:RwOc w B s Xs):s.m<=s.c/\s.c<=9223372036854775807:=⟨h.1,by have:=h.2.1;unfold maxLen at this;omega⟩
theorem RwOc.below (h:RwOc w B s Xs) (g:Below B w w'):RwOc w' B s Xs:=by
 refine ⟨h.1,h.2.1,h.2.2.1,fun hm=>?_⟩;obtain ⟨b,o,e,hB,hc⟩:=h.2.2.2 hm;refine ⟨b,o,e,hB,fun i xs hx=>?_⟩;obtain ⟨r,hr,hj⟩:=hc i xs hx;exact ⟨r,hr.below g,(g.cell (p:=⟨b,o+i*1,none⟩) hB).trans hj⟩
theorem RwOc.more (h:RwOc w B s Xs) (g:B<=B'):RwOc w B' s Xs:=by
 refine ⟨h.1,h.2.1,h.2.2.1,fun hm=>?_⟩;obtain ⟨b,o,e,hB,hc⟩:=h.2.2.2 hm;refine ⟨b,o,e,by omega,fun i xs hx=>?_⟩;obtain ⟨r,hr,hj⟩:=hc i xs hx;exact ⟨r,hr.more g,hj⟩
theorem RwOc.mW (h:RwOc w B s Xs) (q:World) (b:B<=q.heap.size:=by omega):RwOc w q.heap.size s Xs:=h.more b
theorem RwOc.at (h:RwOc w B s Xs) (i:Nat) (hi:i<s.m):∃ (b o:Nat) (r:SlV),s.A=some ⟨b,o,none⟩/\b<B/\Sl w B r (Xs.getD i [])/\w.cell? ⟨b,o+i*1,none⟩=some r.v:=by
 obtain ⟨b,o,e,hB,hc⟩:=h.2.2.2 (by omega);have hl:i<Xs.length:=by rw [h.len];exact hi
 obtain ⟨r,h1,h2⟩:=hc i (Xs.getD i []) (by rw [List.getD_eq_getElem?_getD,List.getElem?_eq_getElem hl];rfl);exact ⟨b,o,r,e,hB,h1,h2⟩
theorem OwnOc.nil (w:World) (base:Nat):OwnOc w base nilS.v []:=⟨[],rfl,⟨rfl,.inl ⟨rfl,rfl⟩⟩,fun p hp=>by cases hp⟩
theorem OwnOc.cast (h:OwnOc w base v Xs) (e:Xs=Ys):OwnOc w base v Ys:=e▸h
theorem OwnOc.row (h:OwnOc w base s.v Xs):RwOc w w.heap.size s Xs:=by
 obtain ⟨ps,rfl,ho,hp⟩:=h;rcases ho.2 with ⟨e,h0⟩ | ⟨g,cap,cur,e,hg,hh,h1,h2,h3,h4⟩
 ·obtain rfl:s=nilS:=SlV.v_inj e;exact ⟨Nat.le_refl _,Nat.zero_le _,by simpa using h0,fun q=>absurd q (by simp)⟩
 obtain rfl:s=⟨some ⟨g,0,none⟩,ps.length,cap⟩:=SlV.v_inj e;refine ⟨h1,h2,by simp,fun hm=>⟨g,0,rfl,(ho.lt g rfl).2,fun i xs hx=>?_⟩⟩;rw [List.getElem?_map,Option.map_eq_some_iff] at hx;obtain ⟨p,hp',rfl⟩:=hx;refine ⟨p.1,(hp p (List.mem_of_getElem? hp')).1,?_⟩;have:=ho.cells (g:=g) rfl i p.1.v (by rw [List.getElem?_map,hp'];rfl);rw [Addr.add_lit] at this;simpa using this
theorem OwnOc.kept (h:OwnOc w base v Xs) (g:Kept m w w') (hm:∀ k cs,w.heap[k]?=some (.cells cs 5 (0,0))->m k) (hv:∀ k,v.ownBlock=some k->m k):OwnOc w' base v Xs:=by
 obtain ⟨ps,e,ho,hp⟩:=h;exact ⟨ps,e,own_kept ho g hv,fun p q=>(hp p q).kept g hm⟩
theorem OwnOc.below (h:OwnOc w base v Xs) (g:Bw w w'):OwnOc w' base v Xs:=h.kept (m:=fun _=>True) (Below.kept g) (fun _ _ _=>trivial) fun _ _=>trivial
theorem OwnOc.blk (h:OwnOc w base v Xs) (e:v.ownBlock=some k):∃ cs,w.heap[k]?=some (.cells cs 26 (0,0))/\base<=k:=by
 obtain ⟨ps,_,ho,_⟩:=h;rcases ho.2 with ⟨rfl,_⟩ | ⟨g,cap,cur,rfl,hg,hh,_⟩
 ·cases e
 cases e;exact ⟨cur,hh,hg⟩
theorem OwnOc.alt (h:OwnOc w base v Xs) (mp:OMap w b t) (g:Alt w w' b):OwnOc w' base v Xs:=h.kept g mp.nou8 fun k e=>by
 obtain ⟨cs,hc,_⟩:=h.blk e;exact mp.norow (show RowAt w k _ cs from hc)
theorem oc_ne_u8:26≠5:=by decide
theorem OwnOc.nou8 (h:OwnOc w base v Xs):∀ k cs,w.heap[k]?=some (.cells cs 5 (0,0))->some k≠v.ownBlock:=by
 intro k cs e q;obtain ⟨cs',hc,_⟩:=h.blk q.symm;rw [hc] at e;exact oc_ne_u8 (by injection e with e;injection e)
end
section
variable {ops:Array Oper} {Q:Exit->Act->World->Prop} {n d:Nat} {E:Env} {o:Oper} {rest:List Oper} {w w':World} {x y z:Operand} {ty:TypeId} {base:Nat} {s r:SlV} {u v:Value} {Xs:List (List Int)} {xs:List Int}
theorem huOcs:prog.underlying 29=some (.slice 26):=by kernel_rfl
end
def OffS (g:Nat) (s:SlV):Prop:=0<s.m->∀ p,s.A=some p->p.block≠g
structure OffNd (g:Nat) (l:NdV):Prop where
 enc:OffS g l.leaf.enc
 cred:OffS g l.leaf.cred
 par:OffS g l.leaf.par
 ienc:OffS g l.inner.enc
 hash:OffS g l.inner.hash
 unm:OffS g l.inner.unm
section
variable {w w':World} {B B' g:Nat} {s:SlV} {xs:List Int} {l:NdV} {L:Nd}
theorem OffS.nil (g:Nat):OffS g nilS:=fun h=>absurd h (Nat.lt_irrefl 0)
theorem OffS.of (h:Sl w B s xs) (hB:B<=g):OffS g s:=fun h0 p e q=>by
 obtain ⟨b,o,e2,hb,_⟩:=h.2.2.2.2 h0;rw [e2] at e;obtain rfl:p=⟨b,o,none⟩:=(Option.some.inj e).symm;simp only at q;omega
theorem OffS.ofN [Lo] (h:SlN w B s xs) (hB:B<=g):OffS g s:=fun h0 p e q=>by
 obtain ⟨b,o,e2,hb,_⟩:=h.2.2.2 h0;rw [e2] at e;obtain rfl:p=⟨b,o,none⟩:=(Option.some.inj e).symm;simp only at q;omega
theorem OffS.fr {a:Nat} (f:Fr a s) (h:g<a):OffS g s:=fun _ p e q=>by
 have:=f p e;omega
theorem OffNd.of [Lo] (h:IsNd w B l L) (hB:B<=g):OffNd g l:=⟨.of h.leaf.enc hB,.of h.leaf.cred hB,.of h.leaf.par hB,.of h.inner.enc hB,.of h.inner.hash hB,.ofN h.inner.unm hB⟩
theorem OffNd.zero (g:Nat):OffNd g NdV.zero:=⟨.nil g,.nil g,.nil g,.nil g,.nil g,.nil g⟩
theorem Sl.off (h:Sl w w.heap.size s xs) (f:OffS g s) (k:Alt w w' g):Sl w' w'.heap.size s xs :=
 ⟨h.1,h.2.1,h.2.2.1,h.2.2.2.1,fun h0=>by
  obtain ⟨b,o,e,hb,hc⟩:=h.2.2.2.2 h0;exact ⟨b,o,e,Nat.lt_of_lt_of_le hb k.size,fun i z hi=>(World.cell?_of_block (w:=w) (a:=⟨b,o+i,none⟩) (k.block b hb (f h0 _ e))).trans (hc i z hi)⟩⟩
theorem SlN.off [Lo] (h:SlN w w.heap.size s xs) (f:OffS g s) (k:Alt w w' g):SlN w' w'.heap.size s xs :=
 ⟨h.1,⟨h.2.1.1,h.ty.same fun h0 p hp=>k.block _ (h.blk h0 hp) (f h0 p hp)⟩,h.2.2.1,fun h0=>by
  obtain ⟨b,o,e,hb,hc⟩:=h.2.2.2 h0;exact ⟨b,o,e,Nat.lt_of_lt_of_le hb k.size,fun i z hi=>(World.cell?_of_block (w:=w) (a:=⟨b,o+i,none⟩) (k.block b hb (f h0 _ e))).trans (hc i z hi)⟩⟩
theorem IsNd.off [Lo] (h:IsNd w w.heap.size l L) (f:OffNd g l) (k:Alt w w' g):IsNd w' w'.heap.size l L :=
 ⟨⟨h.leaf.enc.off f.enc k,h.leaf.cred.off f.cred k,h.leaf.par.off f.par k⟩,⟨h.inner.enc.off f.ienc k,h.inner.hash.off f.hash k,h.inner.unm.off f.unm k⟩⟩
end
def OwnNa [Lo] (w:World) (g T:Nat) (s:SlV) (Ls:List Nd):Prop:=s.A=some ⟨g,0,none⟩/\T<=w.heap.size/\∃ (ps:List NdP) (cur:Array Value),ps.map (·.2)=Ls/\s.m=ps.length/\s.m<=s.c/\s.c<=maxLen/\RowAt w g 81 cur/\cur.size=s.c*8/\cur.toList.take (ps.length*8)=ndCells ps/\∀ p∈ps,IsNd w T p.1 p.2/\OffNd g p.1
section
variable {w w':World} {B B' g T:Nat} {s:SlV} {xs:List Int} {l:NdV} {L:Nd} {Ls Ms:List Nd}
theorem OwnNa.cast [Lo] (h:OwnNa w g T s Ls) (e:Ls=Ms):OwnNa w g T s Ms:=e▸h
theorem OwnNa.lt [Lo] (h:OwnNa w g T s Ls):g<w.heap.size:=by
 obtain ⟨_,_,ps,cur,_,_,_,_,hr,_⟩:=h;exact hr.lt
theorem OwnNa.len [Lo] (h:OwnNa w g T s Ls):Ls.length=s.m:=by
 obtain ⟨_,_,ps,cur,rfl,e,_⟩:=h;rw [e,List.length_map]
theorem OwnNa.up [Lo] (h:OwnNa w g T s Ls):OwnNa w g w.heap.size s Ls:=by
 obtain ⟨e,hT,ps,cur,h1,h2,h3,h4,h5,h6,h7,h8⟩:=h;exact ⟨e,Nat.le_refl _,ps,cur,h1,h2,h3,h4,h5,h6,h7,fun p q=>⟨(h8 p q).1.more hT,(h8 p q).2⟩⟩
theorem OwnNa.of [Lo] {base:Nat} (h:OwnNd w base B s.v Ls) (hB:B<=base) (hw:B<=w.heap.size) (hpos:0<Ls.length):∃ g,base<=g/\OwnNa w g w.heap.size s Ls:=by
 obtain ⟨ps,rfl,ho,hp⟩:=h;rw [List.length_map] at hpos;rcases ho.2 with ⟨e,h0⟩ | ⟨g,cap,cur,e,hg,hh,h1,h2,h3,h4⟩
 ·omega
 obtain rfl:s=⟨some ⟨g,0,none⟩,ps.length,cap⟩:=SlV.v_inj e;exact ⟨g,hg,rfl,Nat.le_refl _,ps,cur,rfl,rfl,h1,h2,hh,h3,h4,fun p q=>⟨(hp p q).more hw,.of (hp p q) (by omega)⟩⟩
theorem OwnNa.below [Lo] (h:OwnNa w g T s Ls) (k:Bw w w'):OwnNa w' g T s Ls:=by
 obtain ⟨e,hT,ps,cur,h1,h2,h3,h4,h5,h6,h7,h8⟩:=h;exact ⟨e,Nat.le_trans hT k.size,ps,cur,h1,h2,h3,h4,Rb k h5,h6,h7,fun p q=>⟨(h8 p q).1.below (k.mono hT),(h8 p q).2⟩⟩
theorem Set1.alt {tb:TypeId} {new:Array Value} (st:Set1 w w' b tb new):Alt w w' b:=⟨(st.below 0 (Nat.zero_le _)).os,(st.below 0 (Nat.zero_le _)).tape,(st.below 0 (Nat.zero_le _)).output,Nat.le_of_eq st.size.symm,fun j _ hj=>st.other j hj⟩
theorem OwnNa.set1 [Lo] (h:OwnNa w g T s Ls) {tb:TypeId} {new:Array Value} (st:Set1 w w' b tb new) (hb:T<=b) (hg:g≠b):OwnNa w' g T s Ls:=by
 obtain ⟨e,hT,ps,cur,h1,h2,h3,h4,h5,h6,h7,h8⟩:=h;exact ⟨e,Nat.le_trans hT (Nat.le_of_eq st.size.symm),ps,cur,h1,h2,h3,h4,st.keep h5 hg,h6,h7,fun p q=>⟨(h8 p q).1.below (st.below _ hb),(h8 p q).2⟩⟩
theorem OwnNa.row [Lo] (h:OwnNa w g T s Ls):RwNd w w.heap.size s Ls:=by
 obtain ⟨e,hT,ps,cur,rfl,h2,h3,h4,h5,h6,h7,h8⟩:=h;refine ⟨h3,h4,by rw [List.length_map];exact h2.symm,fun hm=>⟨g,0,e,h5.lt,fun i L hL=>?_⟩⟩;rw [List.getElem?_map,Option.map_eq_some_iff] at hL;obtain ⟨p,hp',rfl⟩:=hL;refine ⟨p.1,(h8 p (List.mem_of_getElem? hp')).1.more hT,fun j u hu=>?_⟩;have hj:j<8:=(Array.getElem?_eq_some_iff.1 hu).1;have hi:=(List.getElem?_eq_some_iff.1 hp').1;rw [Nat.zero_add,cell_of_row w g (i*8+j) cur _ _ h5,<-Array.getElem?_toList];have h9:=ndCells_at ps i j p hp' hj;rw [<-h7,List.getElem?_take,if_pos (by omega)] at h9;rw [h9,ndc,Array.getElem?_toList];exact hu
theorem OwnNa.at [Lo] (h:OwnNa w g T s Ls) {i:Nat} (hi:i<Ls.length):∃ l:NdV,IsNd w T l (atN Ls i)/\OffNd g l/\∀ j u,(l.cs (atN Ls i))[j]?=some u->w.cell? ⟨g,0+i*8+j,none⟩=some u:=by
 obtain ⟨e,hT,ps,cur,rfl,h2,h3,h4,h5,h6,h7,h8⟩:=h;rw [List.length_map] at hi;have hp':ps[i]?=some ps[i]:=List.getElem?_eq_getElem hi;have hL:atN (ps.map (·.2)) i=ps[i].2:=atN_some (by rw [List.getElem?_map,hp'];rfl);rw [hL];refine ⟨ps[i].1,(h8 _ (List.mem_of_getElem? hp')).1,(h8 _ (List.mem_of_getElem? hp')).2,fun j u hu=>?_⟩;have hj:j<8:=(Array.getElem?_eq_some_iff.1 hu).1;rw [Nat.zero_add,cell_of_row w g (i*8+j) cur _ _ h5,<-Array.getElem?_toList];have h9:=ndCells_at ps i j _ hp' hj;rw [<-h7,List.getElem?_take,if_pos (by omega)] at h9;rw [h9,ndc,Array.getElem?_toList];exact hu
theorem OwnNa.set [Lo] (h:OwnNa w g T s Ls) {i:Nat} (hi:i<Ls.length) (hl:IsNd w w.heap.size l L) (ho:OffNd g l) {new:Array Value} (st:Set1 w w' g 81 new)
  (hnew:∀ cur:Array Value,RowAt w g 81 cur->new.toList=cur.toList.take (0+i*8)++(l.cs L).toList++cur.toList.drop (0+i*8+8)):OwnNa w' g w'.heap.size s (Ls.set i L):=by
 obtain ⟨e,hTT,ps,cur,rfl,h2,h3,h4,h5,h6,h7,h8⟩:=h;rw [List.length_map] at hi;have hnew:=hnew cur h5;have k:Alt w w' g:=st.alt;have hT:cur.toList=ndCells ps++cur.toList.drop (ps.length*8):=by
  conv=>lhs;rw [<-List.take_append_drop (ps.length*8) cur.toList,h7]
 generalize hR:cur.toList.drop (ps.length*8)=R at hT;have hlen:=ndCells_len ps;have hnw:new.toList=ndCells (ps.set i (l,L))++R:=by
  rw [hnew,<-ndCells_set ps i (l,L) hi,hT,Nat.zero_add,List.take_append_of_le_length (by omega),List.drop_append_of_le_length (by omega)];simp only [List.append_assoc,ndc]
 refine ⟨e,Nat.le_refl _,ps.set i (l,L),new,by rw [List.map_set],by rw [List.length_set];exact h2,h3,h4,st.row,?_,?_,fun p hp=>?_⟩
 ·have hc:cur.toList.length=s.c*8:=by
   rw [Array.length_toList];exact h6
  rw [<-Array.length_toList,hnw,List.length_append,ndCells_len,List.length_set,<-hR,List.length_drop,hc];omega
 ·rw [hnw];exact List.take_left' (by rw [ndCells_len])
 rcases List.mem_or_eq_of_mem_set hp with q | q
 ·exact ⟨((h8 p q).1.more hTT).off (h8 p q).2 k,(h8 p q).2⟩
 subst q;exact ⟨hl.off ho k,ho⟩
end
section
variable {ops:Array Oper} {Q:Exit->Act->World->Prop} {n d:Nat} {E:Env} {o:Oper} {rest:List Oper} {w w':World} {x y z:Operand} {ty:TypeId} {g T:Nat} {s r:SlV} {l:NdV} {L:Nd} {Ls:List Nd} {xs:List Int}
theorem lg_stA [Lo] {i:Nat} (hown:OwnNa w g T s Ls) (hl:IsNd w w.heap.size l L) (hof:OffNd g l) (hi:i<Ls.length) (hw:Want ops E o true) (ho:o.op=.store 81 x y) (hx:val E x=some (pv g (0+i*8))) (hy:val E y=some (.agg (l.cs L))) (hd:o.dst=none)
  (h:∀ w' new,Set1 w w' g 81 new->OwnNa w' g w'.heap.size s (Ls.set i L)->LG prog ops Q n E rest w'):LG prog ops Q n E (o::rest) w:=by
 have hm:=hown.len;have hown2:=hown;obtain ⟨e,hT,ps,cur,h1,h2,h3,h4,h5,h6,h7,h8⟩:=hown;refine lg_st (j:=0+i*8) hw h5 ho hx hy (by kernel_rfl) (by kernel_rfl) (by rw [h6];show 0+i*8+8<=_;omega) rfl hd fun w' st=>h w' _ st (hown2.set hi hl hof st fun cur' r'=>?_);obtain rfl:cur=cur':=by
  unfold RowAt at h5 r';rw [h5] at r';injection r' with r'
  injection r'
 rfl
theorem lg_stU [Lo] {i:Nat} (hown:OwnNa w g T s Ls) (hl:SlN w w.heap.size r xs) (hof:OffS g r) (hi:i<Ls.length) (hw:Want ops E o true) (ho:o.op=.store 36 x y) (hx:val E x=some (pv g (0+i*8+7))) (hy:val E y=some r.v) (hd:o.dst=none)
  (h:∀ w' new,Set1 w w' g 81 new->OwnNa w' g w'.heap.size s (Ls.set i ⟨(atN Ls i).kind,(atN Ls i).leaf,⟨(atN Ls i).inner.enc,(atN Ls i).inner.hash,xs⟩⟩)->LG prog ops Q n E rest w'):LG prog ops Q n E (o::rest) w:=by
 have hm:=hown.len;obtain ⟨l,q1,q2,q3⟩:=hown.at hi;have hown2:=hown;obtain ⟨e,hT,ps,cur,h1,h2,h3,h4,h5,h6,h7,h8⟩:=hown;have hsz:0+i*8+7<cur.size:=by rw [h6];omega
 refine lg_st1 (j:=0+i*8+7) hw h5 ho hx hy (by kernel_rfl) rfl hsz rfl hd fun w' st=>h w' _ st (hown2.set (l:=⟨l.leaf,⟨l.inner.enc,l.inner.hash,r⟩⟩) hi ⟨(q1.more hT).leaf,⟨(q1.more hT).inner.enc,(q1.more hT).inner.hash,hl⟩⟩ ⟨q2.enc,q2.cred,q2.par,q2.ienc,q2.hash,hof⟩ st fun cur' r'=>?_);obtain rfl:cur=cur':=by
  unfold RowAt at h5 r';rw [h5] at r';injection r' with r'
  injection r'
 have hc:∀ j u,(l.cs (atN Ls i))[j]?=some u->cur[0+i*8+j]?=some u:=fun j u hu=>by
  have:=q3 j u hu;rwa [cell_of_row w g (0+i*8+j) cur _ _ h5] at this
 refine List.ext_getElem? fun k=>?_;rw [Array.toList_setIfInBounds,List.getElem?_set];have hlc:(cur.toList.take (0+i*8)).length=0+i*8:=by rw [List.length_take,Array.length_toList];omega
 by_cases k1:k<0+i*8
 ·rw [if_neg (by omega),List.append_assoc,List.getElem?_append_left (by omega),List.getElem?_take,if_pos k1]
 by_cases k2:k<0+i*8+8
 ·obtain ⟨j,rfl⟩:∃ j,k=0+i*8+j:=⟨k-(0+i*8),by omega⟩;have hj:j<8:=by omega
  rw [List.append_assoc,List.getElem?_append_right (by omega),hlc,Nat.add_sub_cancel_left,List.getElem?_append_left (by show j<8;exact hj),Array.getElem?_toList,Array.getElem?_toList]
  match j,hj with
  | 0,_=>rw [if_neg (by omega)];exact hc 0 _ rfl
  | 1,_=>rw [if_neg (by omega)];exact hc 1 _ rfl
  | 2,_=>rw [if_neg (by omega)];exact hc 2 _ rfl
  | 3,_=>rw [if_neg (by omega)];exact hc 3 _ rfl
  | 4,_=>rw [if_neg (by omega)];exact hc 4 _ rfl
  | 5,_=>rw [if_neg (by omega)];exact hc 5 _ rfl
  | 6,_=>rw [if_neg (by omega)];exact hc 6 _ rfl
  | 7,_=>rw [if_pos rfl,if_pos (by rw [Array.length_toList];exact hsz)];rfl
 rw [if_neg (by omega),List.append_assoc,List.getElem?_append_right (by omega),hlc,List.getElem?_append_right (by show 8<=_;omega),List.getElem?_drop];congr 1;show k=0+i*8+8+(k-(0+i*8)-8);omega
end
/- HsProg:
  The hash of a tree: what the program answers.
-/
theorem sumS_any {xs:List Int} (h:Sl W B s xs) (hB:B<=W.heap.size) (hl:xs.length<=100000) (tt:Tt W):Calls prog 242 #[s.v] W fun e W'=>∃ v,e=.returned v/\∃ r:SlV,v=r.v/\Hs W' r (sumL xs)/\Bw W W':=by
 obtain ⟨tg,r⟩:=tt.k;refine (sumT_any s.A s.m s.c xs W r (h.2.2.more hB) h.1 (by have:=h.len;omega)).mono ?_;rintro e W' ⟨v,rfl,hs⟩;exact ⟨v,rfl,Hs.of hs⟩
def toldL (t:List Nd) (x:Int):List Int:=if x % 2=0 then ofLeafO (x / 2) (atN t x.toNat) else ofInnerO (atN t x.toNat) (hsL t (leftI x t.length)) (hsL t (rightI x t.length))
theorem hs_told {x:Int} (h:isN x (t.length:Int)):hsL t x=sumL (toldL t x):=hs_eq h
theorem told_len (t:List Nd) (x:Int):(toldL t x).length<=10000:=by
 unfold toldL;split
 ·have:=ofLeafO_le (x / 2) (atN t x.toNat);omega
 have:=ofInnerO_le (atN t x.toNat) (hsL t (leftI x t.length)) (hsL t (rightI x t.length));rw [hsL_len,hsL_len] at this;omega
def OfP [Lo] (t:List Nd) (s:SlV) (y:Int):Prop:=∀ (W:World) (B b:Nat),B<=b->RwNd W B s t->OMap W b t->Tt W ->
 Calls prog 198 #[.map (some b),s.v,nv y] W fun e W'=>∃ v,e=.returned v/\∃ r:SlV,v=r.v/\Hs W' r (hsL t y)/\OMap W' b t/\Alt W W' b
theorem toldH_any [Lo] {x:Int} (hx:isN x (Ls.length:Int)) (ih:∀ y,isN y (Ls.length:Int)->lvl y=lvl x-1->OfP Ls s y) (hBb:B<=b) (h:RwNd W B s Ls) (mp:OMap W b Ls) (rg:Tt W) :
  Calls prog 243 #[.map (some b),s.v,nv x] W fun e W'=>∃ v,e=.returned v/\∃ r:SlV,v=r.v/\Sl W' W'.heap.size r (toldL Ls x)/\OMap W' b Ls/\Alt W W' b:=by
 refine Ze func243 ntmps243 ?_;have hlt:=mp.lt;have al:Alt W W b:=Kept.refl _ _;have lex:=hx.le;have q1:=h.len;have q2:=h.cap;refine ZrAn [0,1,2,6] ?_;refine Qd<|ZrM ?_
 refine Za (Qp (level_any x _ rg.b)) ?_;by_cases c1:(lvl x)=0
 ·have he:x % 2=0:=(even_lvl hx).2 c1;refine Zant (yb (dT c1) yi_eql) [0,1,2,6,11] ?_;refine ZrM ?_;refine Za (yi_quo rfl rfl rfl (by omega) (by omega) (by omega)) ?_;refine Xa 2 ?_;obtain ⟨eb2,eo2,el2,eL2,eA2,eB2,eg2,eh2,ec2⟩:=h.at (x.toNat) (by have:=h.len;omega);refine Za (Yy s 81 8 x.toNat x eA2 (by omega) (by have:=h.len;omega) rfl rfl rfl) ?_;refine Za (y_loadC (cs:=el2.cs eL2) ec2) ?_;refine Zd (ofLeafN_any (x / 2) (eh2.mW W) Lr) ?_;rintro _ w3 ⟨r3,rfl,m3,hw3⟩;have zw3:=hw3.size;have lp3:=ofLeafO_le (x / 2) eL2;refine ZAnr [0,1,2,6] ?_;refine Qc ?_;have mp:=mp.below hw3;have al:=Alt.grow al hw3;exact Qa rfl rfl ⟨_,rfl,_,rfl,(by rw [toldL,if_pos he,atN_some eg2];exact (m3.mW w3)),mp,al⟩
 have ho:¬x % 2=0:=fun q=>c1 ((even_lvl hx).1 q);refine Zan (yb (dF c1) yi_eql) [0,1,2,6,11] ?_;refine Zcf [0,1,2,6] ?_;refine XR 2 ?_;refine Za (y_lenM (el:=81) h.len) ?_;refine Za (Qp (left_any x (Ls.length:Int) _ rg.b)) ?_;refine Xa 2 ?_;refine Za (y_lenM (el:=81) h.len) ?_;refine Za (Qp (right_any x (Ls.length:Int) _ rg.b)) ?_;refine Xn 2 [0,1,2,6,7,8] ?_;refine Qd ?_;obtain ⟨eb4,eo4,el4,eL4,eA4,eB4,eg4,eh4,ec4⟩:=h.at (x.toNat) (by have:=h.len;omega);have el14:x.toNat<s.m:=by have:=h.len;omega
 have ub:=Below.refl B W;refine cg_heldS (fun q=>Below B W q) (by kernel_rfl) (fun W5 eW5=>?_) fun W5 eW5=>?_
 ·exact (below_drew _ _ eW5).mono (by omega)
 have dW5:=below_drew _ _ eW5;have zW5:=size_drew _ _ eW5;clear eW5;have ub:=ub.trans (Bm dW5);refine Zg 0 ub (fun q hq=>y_move rfl rfl) ?_;refine Zg 1 ub (fun q hq=>y_move rfl rfl) ?_;refine Zg 2 ub (fun q hq=>y_ixR (s:=s) (el:=81) (k:=8) (i:=x.toNat) (iI:=x) eA4 (by kernel_rfl) (by kernel_rfl) (by omega) (by have:=el14;omega) rfl rfl rfl) ?_;refine Zg 3 ub (fun q hq=>y_loadC (cs:=el4.cs eL4) (fun k u e=>(hq.cell (p:=⟨eb4,_,none⟩) (show eb4<_ by omega)).trans (ec4 k u e)) (by kernel_rfl) (by kernel_rfl) rfl rfl) ?_;refine Zg 4 ub (fun q hq=>y_move rfl rfl) ?_;refine Zg 5 ub (fun q hq=>y_move rfl rfl) ?_;refine Zg 6 ub (fun q hq=>y_move rfl rfl) ?_;refine Zg 8 ub (fun q hq=>y_move rfl rfl) ?_;refine Zg 9 ub (fun q hq=>y_move rfl rfl) ?_;refine Zg 10 ub (fun q hq=>y_move rfl rfl) ?_;have mp:=mp.below dW5;have h:=h.below (Bm dW5);have rg:=Tt.up dW5 rg;refine hgs_one 7 (by rfl) (by kernel_rfl) Wn ?_;have mo7:=mp;refine Zd (ih _ (odd_kids hx ho).1.1 (odd_kids hx ho).1.2 _ _ _ hBb h mo7 rg) ?_;rintro _ w8 ⟨r8,rfl,m8,n8,hw8⟩;have zw8:=hw8.size;have mp:=n8;have hl8:=hsL_len Ls (leftI x (Ls.length:Int));have ub:=ub.trans (Alt.below hw8 (by omega) (by omega));refine hgs_next ub ?_;have h:=h.below (Alt.below hw8 (by omega) (by omega));have rg:=rg.alt mo7 hw8;refine hgs_one 11 (by rfl) (by kernel_rfl) Wn ?_;have mo10:=mp;refine Zd (ih _ (odd_kids hx ho).2.1 (odd_kids hx ho).2.2 _ _ _ hBb h mo10 rg) ?_;rintro _ w11 ⟨r11,rfl,m11,n11,hw11⟩;have zw11:=hw11.size;have mp:=n11;have hl11:=hsL_len Ls (rightI x (Ls.length:Int));have ub:=ub.trans (Alt.below hw11 (by omega) (by omega));refine hgs_next ub ?_;have eh4:=((eh4.below (Bm dW5)).below (Alt.below hw8 (by omega) (by omega))).below (Alt.below hw11 (by omega) (by omega));have m8:=m8.alt mo10 hw11;refine hgs_one 12 (by rfl) (by kernel_rfl) Wn ?_;refine Zc (ofInnerN_any (eh4.mW w11) (m8.1.mW w11) (m11.1.mW w11) Lr (by omega) (by omega)) rfl rfl ?_;rintro _ w12 ⟨r12,rfl,m12,hw12⟩;have zw12:=hw12.size;have lp12:=ofInnerO_le eL4 (hsL Ls (leftI x (Ls.length:Int))) (hsL Ls (rightI x (Ls.length:Int)));have ub:=ub.trans (Bm hw12);refine hgs_next ub ?_;refine Zg 13 ub (fun q hq=>y_assign rfl rfl) ?_;refine hgs_done (by kernel_rfl) ?_;refine Nx [6] ?_;refine cg_ret ?_;have mp:=mp.below hw12;have al:=Alt.grow al dW5;have al:=Alt.grow ((al.trans hw8).trans hw11) hw12;exact Qa rfl rfl ⟨_,rfl,_,rfl,(by rw [toldL,if_neg ho,atN_some eg4];exact (m12.mW w12)),mp,al⟩
theorem of_step [Lo] {x:Int} (hx:isN x (Ls.length:Int)) (ih:∀ y,isN y (Ls.length:Int)->lvl y=lvl x-1->OfP Ls s y):OfP Ls s x:=by
 intro W B b hBb h mp rg;refine Ze func198 ntmps198 ?_;have hlt:=mp.lt;have al:Alt W W b:=Kept.refl _ _;have lex:=hx.le;have q1:=h.len;have q2:=h.cap;refine ZrAn [0,1,2,6] ?_;refine Qd<|ZrM ?_
 refine ZM ?_;rcases mp.look hx with lk1 | ⟨ls1,lm1,lk1⟩
 ·refine Za (y_look lk1) ?_;refine Xn 5 [0,1,2,6,7,8] ?_;refine XRn 1 [0,1,2,6,7,16] ?_;refine Zcf [0,1,2,6] ?_;refine XR 3 ?_;have mo3:=mp;refine Zd (toldH_any hx ih hBb h mo3 rg) ?_;rintro _ w4 ⟨r4,rfl,m4,n4,hw4⟩;have zw4:=hw4.size;have mp:=n4;have tl:=told_len Ls x;have rg:=rg.alt mo3 hw4;refine Zc (sumS_any (m4.mW w4) Lr (by omega) rg) rfl rfl ?_;rintro _ w5 ⟨r5,rfl,m5,hw5⟩;have zw5:=hw5.size;refine ZAn [0,2,6,9] ?_;refine XR 3 ?_;have mo6:=mp.below hw5;refine lg_putM (s:=r5) mo6 hx ((hs_told hx).symm▸m5) Wn rfl rfl rfl rfl rfl fun w6 n6 a6 z6=>?_;have mp:=n6;refine Zn [6,9] ?_;refine XRu 2 [6] ?_;have m5:=m5.alt mo6 a6;have al:=Alt.grow (al.trans hw4) hw5;exact Qa rfl rfl ⟨_,rfl,_,rfl,((hs_told hx).symm▸m5),mp,al.trans a6⟩
 refine Za (y_look lk1) ?_;refine Xn 5 [0,1,2,6,7,8] ?_;refine XRt 1 [0,1,2,6,7,16] ?_;refine XRu 2 [0,1,2,6] ?_;refine Qc ?_;exact Qa rfl rfl ⟨_,rfl,_,rfl,lm1,mp,al⟩
theorem of_all [Lo] {Ls:List Nd} {s:SlV}:∀ (n:Nat) (x:Int),isN x (Ls.length:Int)->lvl x<n->OfP Ls s x
 | 0,x,hx,hl=>by
  have:=(kids hx).1;omega
 | n+1,x,hx,hl=>of_step hx fun y hy e=>of_all n y hy (by omega)
theorem ofM_any [Lo] {x:Int} (hx:isN x (Ls.length:Int)):OfP Ls s x:=of_all 7 x hx (by have:=(kids hx).2.1;omega)
theorem of_any [Lo] (h:RwNd W B s Ls) (x:Int) (hB:B<=W.heap.size) (rg:Tt W):Calls prog 139 #[s.v,nv x] W fun e W'=>∃ v,e=.returned v/\∃ r:SlV,v=r.v/\Sl W' W'.heap.size r (ofH (trAs Ls) x)/\Bw W W':=by
 have h:=h.more hB;refine Ze func139 ntmps139 ?_;have u:=Br W;have q1:=h.len;have q2:=h.cap;refine ZrAn [0,1,4] ?_;refine Qd<|ZrM ?_
 by_cases c1:trIs Ls
 ·have hti:=c1;have hta:=trAs_ok hti;refine Zd (sane_any (h.mW W) Lr) ?_;rintro u2 w2 ⟨e2,hw2⟩;have zw2:=hw2.size;obtain rfl:u2=.bool true:=e2.trans (congrArg Value.bool (decide_eq_true c1));refine Xa 4 ?_;have h:=h.below (Bm hw2);refine Zt 8 (y_lenM (el:=81) h.len) ?_;by_cases c3:isN x (Ls.length:Int)
  ·have hx:isN x (Ls.length:Int):=c3;refine Zt 8 (yb (dT c3) (Qp (isL_any x (Ls.length:Int) _))) ?_;refine Xn 2 [0,1,4,14] ?_;refine Zcf [0,1,4] ?_;refine Zr<|lg_mkM Wn rfl rfl (by decide) fun b4 w4 k4 z4 m4 l4=>?_
   have mp:=m4 Ls;refine Xa 2 ?_;have h:=h.below (Bm l4);have u:=Un (Un u hw2) l4;have mo6:=mp;refine Zc (ofM_any hx _ _ _ (by omega) h mo6 (Tt.up u rg)) rfl rfl ?_;rintro _ w7 ⟨r7,rfl,m7,n7,hw7⟩;have zw7:=hw7.size;have mp:=n7;refine ZAnr [4] ?_;have u:=u.trans (Alt.below hw7 (by omega) (by omega));exact Qa rfl rfl ⟨_,rfl,_,rfl,(by rw [hta,ofH_yes hx];exact (m7.1.mW w7)),u⟩
  refine Zt 8 (yb (dF c3) (Qp (isL_any x (Ls.length:Int) _))) ?_;refine Xt 2 [0,1,4,14] ?_;refine ZrAr [0,1,4] ?_;refine Qc ?_;have u:=Un u hw2;exact Qa rfl rfl ⟨_,rfl,nilS,rfl,(by rw [hta,ofH_no c3];exact Sl.nil _ _),u⟩
 have hta:=trAs_no c1;refine Zd (sane_any (h.mW W) Lr) ?_;rintro u8 w8 ⟨e8,hw8⟩;have zw8:=hw8.size;obtain rfl:u8=.bool false:=e8.trans (congrArg Value.bool (decide_eq_false c1));refine Xt 8 [0,1,4,14] ?_;refine ZrAr [0,1,4] ?_;refine Qc ?_;have u:=Un u hw8;exact Qa rfl rfl ⟨_,rfl,nilS,rfl,(by rw [hta,ofH_no (fun q=>by have:=q.le;simp only [List.length_nil] at this;omega)];exact Sl.nil _ _),u⟩
/- HsRef:
  The hash of a tree: what the document answers.
-/
end Go.Proofs.YtjjdcnkbibkmkaaGreatDoor
