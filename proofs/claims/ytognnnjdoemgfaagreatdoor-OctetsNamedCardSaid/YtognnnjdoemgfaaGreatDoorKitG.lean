/-
  KitG: WkR, RsWk, CoFr, RsMath, RsFacts, RsProg, RsRes.
-/
import Derived.Test.YtognnnjdoemgfaaGreatDoorKitI
import Derived.Test.YtognnnjdoemgfaaGreatDoorKitA
import Derived.Test.YtognnnjdoemgfaaGreatDoorKitT
namespace Go.Proofs.YtognnnjdoemgfaaGreatDoor
open Go.ChangeShapes Go.WideShapes Go.ChangeAt Go.RowKit
set_option linter.unusedVariables false

/- WkR:
  Loops over functions that range over themselves: whose memory is whose is said by sets of blocks.
-/
/-- From A to B the blocks of m lie as they lay. -/
structure Kept (m:Nat→Prop) (A B:World):Prop where
 os:B.os=A.os
 tape:B.tape=A.tape
 output:B.output=A.output
 size:A.heap.size≤B.heap.size
 block:∀ k,k<A.heap.size→m k→B.heap[k]?=A.heap[k]?
theorem Kept.refl (m:Nat→Prop) (A:World):Kept m A A:=⟨rfl,rfl,rfl,Nat.le_refl _,fun _ _ _=>rfl⟩
theorem Kept.trans {m:Nat→Prop} {A B C:World} (h:Kept m A B) (k:Kept m B C):Kept m A C :=
 ⟨k.os.trans h.os,k.tape.trans h.tape,k.output.trans h.output,Nat.le_trans h.size k.size,fun i hi hm=>(k.block i (Nat.lt_of_lt_of_le hi h.size) hm).trans (h.block i hi hm)⟩
theorem Kept.mono {m m':Nat→Prop} {A B:World} (h:Kept m A B) (hm:∀ k,k<A.heap.size→m' k→m k):Kept m' A B:=⟨h.os,h.tape,h.output,h.size,fun k hk q=>h.block k hk (hm k hk q)⟩
theorem Kept.below {m:Nat→Prop} {A B:World} {n0:Nat} (h:Kept m A B) (hm:∀ k,k<n0→m k) (hn:n0≤A.heap.size):Below n0 A B:=⟨h.os,h.tape,h.output,h.size,fun k hk=>h.block k (Nat.lt_of_lt_of_le hk hn) (hm k hk)⟩
theorem Below.kept {m:Nat→Prop} {A B:World} (h:Below A.heap.size A B):Kept m A B:=⟨h.os,h.tape,h.output,h.size,fun k hk _=>h.block k hk⟩
theorem Kept.row {m:Nat→Prop} {A B:World} {b:Nat} {t:TypeId} {cs:Array Value} (h:Kept m A B) (hm:m b) (r:RowAt A b t cs):RowAt B b t cs:=(h.block b r.lt hm).trans r
theorem Kept.alloc (m:Nat→Prop) (A:World) (o:Obj):Kept m A (A.alloc o):=Below.kept ((Below.refl _ A).alloc (Nat.le_refl _) o)
theorem Kept.putObj {m:Nat→Prop} (A:World) {l:Nat} (o:Obj) (hl:¬m l):Kept m A (A.putObj l o):=⟨rfl,rfl,rfl,by simp,fun k _ hk=>World.putObj_heap_other (fun e=>hl (e▸hk))⟩
/-- What a party does whose blocks are m, and then m'. -/
structure Did (m m':Nat→Prop) (A B:World):Prop where
 kept:Kept (fun k=>¬m k) A B
 new:∀ k,m' k→m k∨A.heap.size≤k
 lt:∀ k,m' k→k<B.heap.size
theorem Did.refl {m:Nat→Prop} {A:World} (h:∀ k,m k→k<A.heap.size):Did m m A A:=⟨Kept.refl _ _,fun _ h=>.inl h,h⟩
theorem Did.trans {m m1 m2:Nat→Prop} {A B C:World} (h:Did m m1 A B) (k:Did m1 m2 B C):Did m m2 A C :=
 ⟨⟨k.kept.os.trans h.kept.os,k.kept.tape.trans h.kept.tape,k.kept.output.trans h.kept.output,Nat.le_trans h.kept.size k.kept.size,fun i hi hm=>(k.kept.block i (Nat.lt_of_lt_of_le hi h.kept.size) fun q=>(h.new i q).elim hm fun q=>by omega).trans (h.kept.block i hi hm)⟩,
  fun i hi=>(k.new i hi).elim (h.new i) fun q=>.inr (Nat.le_trans h.kept.size q),k.lt⟩
/-- A party's own step, blocks of which nobody else knows. -/
theorem Did.quiet {m:Nat→Prop} {A B:World} (hm:∀ k,m k→k<A.heap.size) (h:Kept (fun _=>True) A B):Did m m A B:=⟨h.mono fun _ _ _=>trivial,fun _ h=>.inl h,fun k q=>Nat.lt_of_lt_of_le (hm k q) h.size⟩
/-- A block that is not the party's: it is turned, and all else is as it was. -/
theorem Did.put {m m1:Nat→Prop} {A B:World} (h:Did m m1 A B) {D:Nat} (hD:A.heap.size≤D) (o:Obj):Did m m1 A (B.putObj D o) :=
 ⟨⟨h.kept.os,h.kept.tape,h.kept.output,by simpa using h.kept.size,fun k hk q=>(World.putObj_heap_other (by omega)).trans (h.kept.block k hk q)⟩,h.new,fun k q=>by simpa using h.lt k q⟩
/-- What a caller says of its own memory lasts while its own blocks, and all that lay below B, lie as they lay. -/
def Lasts {β:Type} (B:Nat) (J:β→(Nat→Prop)→World→Prop):Prop:=∀ s m X Y,B≤X.heap.size→J s m X→Kept (fun k=>m k∨k<B) X Y→J s m Y
/-- A function that tells the list xs when it is ranged over, and reads no more than the blocks of dep. -/
def Tells {α:Type} (P:Program) (gf:Nat) (lb:Array Value) (encs:α→Array Value) (xs:List α) (dep:Nat→Prop) (w0:World):Prop :=
 ∀ (l:Nat) (J Jx:List α→(Nat→Prop)→World→Prop) (W:World) (m0:Nat→Prop),Kept dep w0 W→(∀ k,m0 k→¬dep k∧k<W.heap.size)→Lasts W.heap.size J→Lasts W.heap.size Jx →
  (∀ pre x W1 m,Did m0 m W W1→J pre m W1→(pre++[x]) <+: xs→YieldAt Fence.wide 1 P l (encs x) W1 fun e W' =>
   (e=.returned (.bool true)∧∃ m',Did m m' W1 W'∧J (pre++[x]) m' W')∨(e=.returned (.bool false)∧∃ m',Did m m' W1 W'∧Jx (pre++[x]) m' W')) →
  J [] m0 W →
  CallsIn Fence.wide 2 P gf (#[.func (.yield l) #[] #[]]++lb) W fun e W'=>(∃ v,e=.returned v)∧∃ m',Did m0 m' W W'∧(J xs m' W'∨∃ pre,pre <+: xs∧Jx pre m' W')
theorem Tells.later {α:Type} {P:Program} {gf:Nat} {lb:Array Value} {encs:α→Array Value} {xs:List α} {dep:Nat→Prop} {w0 w1:World} (h:Tells P gf lb encs xs dep w0) (k:Kept dep w0 w1):Tells P gf lb encs xs dep w1 :=
 fun l J Jx W m0 hW=>h l J Jx W m0 (k.trans hW)
/-- How a round's body may be left. -/
def toldPost {α:Type} (I:List α→(Nat→Prop)→World→Prop) (Ix:Code→List α→(Nat→Prop)→World→Prop) (xs:List α) (m:Nat→Prop) (W:World):Exit→Act→World→Prop
 | .normal,_,W'=>∃ m',Did m m' W W'∧I xs m' W'
 | .ret,_,W'=>∃ m',Did m m' W W'∧Ix .ret xs m' W'
 | .exit id,_,W'=>∃ m',Did m m' W W'∧Ix (.exit id) xs m' W'
 | .goto t,_,W'=>∃ m',Did m m' W W'∧Ix (.goto t) xs m' W'
 | .panic _,_,_=>False
 | .outgrown,_,_=>False
/-- The blocks of m, and block l. -/
def also (m:Nat→Prop) (l:Nat):Nat→Prop:=fun k=>m k∨k=l

section
variable {P:Program} {Q:Exit→Act→World→Prop} {n:Nat} {E:Env} {w w0:World} {v:Value} {ds:List Deferred}
theorem Did.also {m m':Nat→Prop} {X A B:World} {l:Nat} {o o1:Obj} (hX:X.heap[l]?=some o1) (hA:A=X.putObj l o) (h:Did m m' A B) (o':Obj):Did (also m l) (also m' l) X (B.putObj l o'):=by
 subst hA
 have hl:l<X.heap.size:=(Array.getElem?_eq_some_iff.1 hX).1
 have hs:=h.kept.size
 simp only [World.putObj_size] at hs
 refine ⟨⟨h.kept.os,h.kept.tape,h.kept.output,by simpa using hs,fun k hk q=>?_⟩,?_,?_⟩
 ·have hkl:k≠l:=fun e=>q (.inr e)
  refine (World.putObj_heap_other hkl).trans ((h.kept.block k (by simpa using hk) fun z=>q (.inl z)).trans (World.putObj_heap_other hkl))
 ·rintro k (q | q)
  ·rcases h.new k q with z | z
   ·exact .inl (.inl z)
   exact .inr (by simpa using z)
  exact .inl (.inr q)
 rintro k (q | rfl)
 ·simpa using h.lt k q
 simp
 omega
theorem hold_two {p q:Nat} (hp:p<n) (hq:q<n) {u v:Value} {tmps:Array Value} (ha:Holds n E { tmps,defers:=[] }):Holds n ((q,v)::(p,u)::E) { tmps:=((#[p,q]:Array Nat).zip #[u,v]).foldl (fun t (p,v)=>t.setIfInBounds p v) tmps,defers:=[] }:=by
 simpa using (ha.param (v:=u) hp).param (v:=v) hq
-- what a party's own blocks are not
theorem Did.call {m m1:Nat→Prop} {A B C:World} (h:Did m m1 A B) (k:Below B.heap.size B C):Did m m1 A C:=h.trans (Did.quiet h.lt (Below.kept k))
theorem Lasts.call {β:Type} {B:Nat} {J:β→(Nat→Prop)→World→Prop} (h:Lasts B J) {s:β} {m:Nat→Prop} {X Y:World} (hB:B≤X.heap.size) (hj:J s m X) (k:Below X.heap.size X Y):J s m Y:=h _ _ _ _ hB hj (Below.kept k)
/-- The marks of a frame: their blocks are open, and no party's. -/
def Marks (n0:Nat) (m:Nat→Prop) (Ds:List Nat) (v:World):Prop:=Ds.Nodup∧∀ D∈Ds,n0≤D∧¬m D∧v.heap[D]?=some (.deferred (some []))
theorem Marks.nil (n0:Nat) (m:Nat→Prop) (v:World):Marks n0 m [] v:=⟨List.nodup_nil,fun D h=>by cases h⟩
theorem Marks.did {n0:Nat} {m m1:Nat→Prop} {Ds:List Nat} {A B:World} (h:Marks n0 m Ds A) (k:Did m m1 A B):Marks n0 m1 Ds B:=⟨h.1,fun D hD=>by
 obtain ⟨h1,h2,h3⟩:=h.2 D hD
 have hlt:=(Array.getElem?_eq_some_iff.1 h3).1
 exact ⟨h1,fun q=>(k.new D q).elim h2 fun q=>by omega,(k.kept.block D hlt h2).trans h3⟩⟩
theorem Marks.call {n0:Nat} {m:Nat→Prop} {Ds:List Nat} {A B:World} (h:Marks n0 m Ds A) (k:Below A.heap.size A B):Marks n0 m Ds B:=⟨h.1,fun D hD=>by
 obtain ⟨h1,h2,h3⟩:=h.2 D hD
 exact ⟨h1,h2,(k.block D (Array.getElem?_eq_some_iff.1 h3).1).trans h3⟩⟩
theorem Marks.cons {n0:Nat} {m m1:Nat→Prop} {Ds:List Nat} {A B:World} {D:Nat} (h:Marks n0 m Ds A) (k:Did m m1 A B) (hn:n0≤A.heap.size) (hA:A.heap.size≤D) (hm:¬m1 D) (hD:B.heap[D]?=some (.deferred (some []))):Marks n0 m1 (D::Ds) B:=by
 refine ⟨List.nodup_cons.2 ⟨fun q=>?_,h.1⟩,fun E hE=>?_⟩
 ·have:=(Array.getElem?_eq_some_iff.1 (h.2 D q).2.2).1
  omega
 rcases List.mem_cons.1 hE with rfl | hE
 ·exact ⟨by omega,hm,hD⟩
 exact (h.did k).2 E hE
theorem Marks.closed {m0:Nat→Prop} {W:World} {n0:Nat} (hn:W.heap.size≤n0):∀ {Ds:List Nat} {m:Nat→Prop} {v:World},Marks n0 m Ds v→Did m0 m W v→Opens Ds v∧Did m0 m W (closed Ds v)∧Kept (fun k=>m k∨k<n0) v (closed Ds v)
 | [],m,v,_,hd=>⟨trivial,hd,Kept.refl _ _⟩
 | D::Ds,m,v,h,hd=>by
  obtain ⟨h1,h2,h3⟩:=h.2 D (by simp)
  obtain ⟨hn1,hn2⟩:=List.nodup_cons.1 h.1
  obtain ⟨a,b,c⟩:=Marks.closed hn (Ds:=Ds) (m:=m) (v:=v.putObj D (.deferred none)) ⟨hn2,fun E hE=>by
   obtain ⟨g1,g2,g3⟩:=h.2 E (List.mem_cons_of_mem _ hE)
   exact ⟨g1,g2,(World.putObj_heap_other (fun e=>hn1 (by rw [←e];exact hE))).trans g3⟩⟩ (hd.put (by omega) _)
  exact ⟨⟨h3,a⟩,b,(Kept.putObj v _ (fun q=>q.elim h2 fun q=>by omega)).trans c⟩
theorem Did.set {m:Nat→Prop} {A B:World} {b:Nat} {t t0:TypeId} {cs old:Array Value} (h:Set1 A B b t cs) (r:RowAt A b t0 old) (hb:m b) (hm:∀ k,m k→k<A.heap.size):Did m m A B:=by
 have u:=h.below 0 (Nat.zero_le _)
 exact ⟨⟨u.os,u.tape,u.output,u.size,fun k _ q=>h.other k fun e=>q (e▸hb)⟩,fun _ q=>.inl q,fun k q=>by rw [h.size];exact hm k q⟩
theorem Did.below {m m1:Nat→Prop} {A B:World} {n0:Nat} (h:Did m m1 A B) (hn:n0≤A.heap.size) (hm:∀ k,m k→n0≤k):Below n0 A B:=h.kept.below (fun k hk q=>by have:=hm k q;omega) hn
-- regions in any order that call yield
def HX (ds:List Deferred) (P:Program) (ops:Array Oper) (Q:Exit→Act→World→Prop) (n fuel:Nat) (listed:Array Bool) (E:Env) (w:World):Prop:=(∀ a w,¬Q .outgrown a w)→∀ a,Holds n E a→wpAnyIn (fen none) 0 P .any ops Q fuel listed (mkd ds a) w
section
variable {ops:Array Oper} {Q:Exit→Act→World→Prop} {o:Oper} {d fuel:Nat} {listed:Array Bool}
end
end
/- RsWk:
  A row of whole numbers of one's own, whose slice lies in a box: what is done with both is said by their blocks.
-/
section
variable {ops:Array Oper} {Q:Exit→Act→World→Prop} {n d:Nat} {E:Env} {o:Oper} {rest:List Oper} {w w':World} {x y:Operand} {t t':TypeId}
theorem own_kept {M:Nat→Prop} {base e size k:Nat} {v:Value} {xs:List Value} (h:w.ownsRow base e size v k xs) (g:Kept M w w') (hM:∀ q,v.ownBlock=some q→M q):w'.ownsRow base e size v k xs :=
 ⟨h.1,h.2.imp id fun ⟨q,cap,cur,hv,hb,hq,r⟩=>⟨q,cap,cur,hv,hb,(g.block q (Array.getElem?_eq_some_iff.1 hq).1 (hM q (by rw [hv];rfl))).trans hq,r⟩⟩
theorem own_castN {base:Nat} {v:Value} {xs ys:List Int} (h:w.ownsRow base 3 1 v xs.length (xs.map (Value.int .i64))) (e:xs=ys):w.ownsRow base 3 1 v ys.length (ys.map (Value.int .i64)):=e▸h
theorem slv_inj {r s:SlV} (h:r.v=s.v):r=s:=by
 obtain ⟨A,m,c⟩:=r
 obtain ⟨A',m',c'⟩:=s
 cases h
 rfl
theorem own_num {base k:Nat} {r:SlV} {ys:List Int} (h:w.ownsRow base 3 1 r.v k (ys.map (Value.int .i64))):SlN w w.heap.size r ys:=by
 obtain ⟨s,e,q⟩:=own_SlN h
 rw [slv_inj e]
 exact q
theorem SlN.kept {m:Nat→Prop} {B:Nat} {s:SlV} {xs:List Int} (h:SlN w B s xs) (k:Kept m w w') (hm:∀ p,s.A=some p→p.block<B→m p.block) (hB:B≤w.heap.size):SlN w' B s xs :=
 ⟨h.1,h.2.1,h.2.2.1,fun h0=>by
  obtain ⟨b,o,e,hb,hc⟩:=h.2.2.2 h0
  exact ⟨b,o,e,hb,fun i z hi=>(World.cell?_of_block (w:=w) (a:=⟨b,o+i,none⟩) (k.block b (by omega) (hm _ e hb))).trans (hc i z hi)⟩⟩
end
/- CoFr:
  What stands beside ways up: the numbers that are handed out are new.
-/

/- RsMath:
  Who has a key below a node: pure.
-/
theorem unm_small {a:List Nd} (h:trIs a) (i:Nat):(∀ x∈(atN a i).inner.unm,0≤x∧x<64)∧(atN a i).inner.unm.length≤64:=by
 have ok:=(trIs_ok h i).1
 have no:¬(atN a i).kind=2→(atN a i).inner.unm=[]:=fun k=>by
  unfold ndCheck at ok
  split at ok
  ·omega
  split at ok
  ·omega
  rename_i q
  have:PnSame (atN a i).inner Pn.zero:=Classical.byContradiction fun z=>q (.inr ⟨k,z⟩)
  exact this.2.2
 by_cases k:(atN a i).kind=2
 ·have hp:pnCheck (atN a i).inner=0:=by
   unfold ndCheck at ok
   repeat' split at ok
   all_goals first | exact ok | omega
  exact ⟨(pnCheck_nums hp).1,(pnCheck_ok hp).2.2.2⟩
 rw [no k]
 exact ⟨fun x q=>absurd q (by simp),Nat.zero_le _⟩
/- RsFacts:
  What the statements of layer 11 ask of those that are told: pure.
-/
-- children, and below
-- those that are told of a node
-- those that have a key
theorem getD_in {l:List Int} {k:Nat} (h:k<l.length):l.getD k 0∈l:=by
 rw [List.getD_eq_getElem?_getD,List.getElem?_eq_getElem h]
 exact List.getElem_mem h
-- a way up, filtered
-- a tree that has grown
section
variable {t g:List Nd} (hl:(g.length:Int)=2*t.length+1) (hw:(t.length:Int)≤63) (ha:∀ i,atN g i=atN t i)
include hl hw ha
end
theorem grown {t:List Nd} (ht:trIs t) (h:growE t=0):((growL t).length:Int)=2*t.length+1∧(t.length:Int)≤63∧∀ i,atN (growL t) i=atN t i:=by
 have h1:=growL_len h
 have h2:=grow_small h
 have h3:=growL_ok h
 rw [trAs_ok ht] at h1 h2 h3
 exact ⟨by omega,by omega,fun i=>by rw [h3,atN_app_z]⟩
/- RsProg:
  What the program tells of nodes below.
-/
/- RsRes:
  Who has a key below a node: what the program answers.
-/

end Go.Proofs.YtognnnjdoemgfaaGreatDoor
